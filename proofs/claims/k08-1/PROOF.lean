import PyProof.Rows.All
import Wide.All
import OpenK.AllK
import Wide.FinOn
import PyProof.ReprRoads
import HandS.ForMost
import HandS.Defaults
import HandS.HeadHook3
import HandS.HeadWalk
import HandS.HeadEnd
import HandS.Head2
import HandS.IsInst
import HandS.Property
import HandS.FStr
import HandS.Wide
import HandS.OwnEq
import HandS.Flow
import HandS.Walk
import HandS.Style
import HandS.Zip
import HandS.Conv
import PySem.Challenge.RW_signtown_k08_streets_compared
import KE.KCallOwn
import HandS.NoneIn
set_option Elab.async false
set_option linter.all false
set_option maxRecDepth 100000
set_option maxHeartbeats 4000000
namespace Gx
open PySem PySem.Spec PyProof.Rows L2
/-- a def's promise where no repr is under way -/
structure FnG (P : Program) (w : World) (K : PySem.W.Frag) (mg : Str → Option Value) (base : Heap) (CX : CXT) (k : Nat) (f : Addr) (fd : FuncData) (ps : List Str) (sp : Sp) : Prop where
  len : ∀ vs H Q E, sp vs H Q E → vs.length = ps.length
  run : ∀ (A : Around) (outer : List Env) (s : Shared) (H : Hp) (args : Args) (us : List Value) (vs : List V) (Q : VK) (E : XK),
    A.guards = some [] → Room k A → Env0 P w K mg base A outer s H → BindsTo s fd args (ps.zip us) → Vals vs us → sp vs H Q E →
      codeAny (model P w) A (.call (.ref f) args) (CR CX outer P w H s Q E) s
theorem FnG.of {P : Program} {w : World} {K : PySem.W.Frag} {mg : Str → Option Value} {base : Heap} {CX : CXT} {k : Nat} {f : Addr} {fd : FuncData} {ps : List Str} {sp : Sp}
    (F : FnOk P w K mg base CX k f fd ps sp) : FnG P w K mg base CX k f fd ps sp :=
  ⟨F.len, fun A outer s H args us vs Q E _ => F.run A outer s H args us vs Q E⟩
section
variable {P : Program} {w : World} {K : PySem.W.Frag} {mg : Str → Option Value} {base : Heap}
/-- its body, walked where no repr is under way -/
theorem FnG.body {CX : CXT} {x qual : Str} {params : Arguments} {body : List Stmt} {scope : Scope} {dvs : List V} {kws : List (Str × V)} {f : Addr} {fd : FuncData} {N ps : List Str} {k : Nat} {sp : Sp}
    (F : FunD K x qual params body scope dvs kws f fd) (S : FnScope N ps scope) (len : ∀ vs H Q E, sp vs H Q E → vs.length = ps.length)
    (hb : ∀ (cdv : Value) (A : Around) (outer : List Env) (s : Shared) (H : Hp) (vs : List V) (Q : VK) (E : XK),
      Room k (A.deeper (envOfC qual scope s.heap.objs.size f cdv)) → (cxOf CX P w K mg base N qual scope f cdv A outer s H E).A.guards = some [] → sp vs H Q E →
      ∃ t, PSs (cxOf CX P w K mg base N qual scope f cdv A outer s H E) body t ∧ t { nx := fun _ H' => Q .non H', rt := Q } (start N vs) H) :
    FnG P w K mg base CX (k + 1) f fd ps sp := by
  obtain ⟨oc, od, dV, kV, doc, pm, an, cdv, ct, osl, rfl, lk, hcd, _, _⟩ := F.ex
  refine ⟨len, ?_⟩
  intro A outer s H args us vs Q E gu hr e0 bind r hsp
  have hl := len _ _ _ _ hsp
  have held : ∀ b o, base.get? b = some o → s.heap.get? b = some o := fun b o e => (e0.bs b o e).1
  have KX : K.In s.heap := e0.mod.kin.keeps held
  have par : ∀ y ∈ ps.zip us, scope.names.lookup y.1 = some .local ∨ (scope.names.lookup y.1 = some .cell ∧ ((cellsFrom (s.heap.objs.size + 1) scope.names []).lookup y.1).isSome = true) := by
    rintro ⟨n, v⟩ hy
    rcases S.par n (List.of_mem_zip hy).1 with q | q
    · left; exact q
    · right; exact ⟨q, PySem.W.cellsFrom_some _ _ _ (.inl q)⟩
  refine codeAny_call_function hr.depth (KX _ _ lk) rfl S.co S.gen rfl
    (PySem.W.codeRec_of KX hcd) (bind _ _ _ _ ?_)
  refine wpAny_newFunctionEnv_cells S.kind par ?_
  intro env he s1 x
  subst he
  refine ⟨(e0.mod.nolimit.keeps held).keeps x.toInCall.keep, codeAny_func ?_⟩
  obtain ⟨t, ht, hq⟩ := hb cdv A outer s H vs Q E (hr.deeper _) gu hsp
  have I := inv_start (CX := CX) (mg := mg) (E := E) S hr.hd e0 hl r x
  refine wpAny_mono (ht.run [] s1 (start N vs) H _ I hq) ?_ (fun e s' hs => hs)
  intro fl s' hs
  cases fl with
  | ret u => obtain ⟨v, σ', H', J, rv, q⟩ := hs; exact ⟨v, H', J.os, J.bare, J.base, J.hok, rv, q⟩
  | next => obtain ⟨σ', H', J, q⟩ := hs; exact ⟨V.non, H', J.os, J.bare, J.base, J.hok, rfl, q⟩
  | brk => obtain ⟨_, _, _, q⟩ := hs; cases q
  | cont => obtain ⟨_, _, _, q⟩ := hs; cases q
end
section
variable {X : Cx} {CX : CXT} {k : Nat} {f : Addr} {fd : FuncData} {ps : List Str} {sp : Sp} {dvs : List V} {ds : List Value} {E : XK} {x : Str} {p pos : Pos} {e : Expr} {es : List Expr} {t : TA}
theorem run_g {pins : List (Addr × Obj)} {σ : L2.St} {H : Hp} {s : Shared} {Q : VK} {us : List Value} {vs : List V}
    (gu : X.A.guards = some []) (F : FnG X.prog X.w X.K X.mg X.base CX k f fd ps sp) (hr : Room k X.A) (hb : Binds X.K fd ps ds) (hd : Vals dvs ds) (hx : Passes CX X E)
    (I : Inv X pins σ H s) (r : Vals vs us) (h : sp (vs ++ dvs) H Q E) :
    wpAny (model X.prog X.w) X.A (call (.ref f) us) (EP X pins σ Q) X.xe s := by
  have all := r.append hd
  have hl : (us ++ ds).length = ps.length := all.length ▸ F.len _ _ _ _ h
  have go := F.run X.A X.stack s H ⟨us, []⟩ (us ++ ds) (vs ++ dvs) Q E gu hr I.env0 (hb s us I.kIn hl) all h
  refine wpAny_call (codeAny_mono go ?_)
  intro r s' hq
  match r, hq with
  | .error e, hq => exact hx pins σ H s e s' I hq
  | .ok (.ret u), hq => exact I.after hq
  | .ok .next, hq => exact hq.elim
  | .ok .brk, hq => exact hq.elim
  | .ok .cont, hq => exact hq.elim
/-- f(e, ..) -/
theorem pe_callG (gu : X.A.guards = some []) (F : FnG X.prog X.w X.K X.mg X.base CX k f fd ps sp) (hr : Room k X.A)
    (hg : Gl X x) (hm : X.mg x = some (.ref f)) (hk : PySem.W.keepIn X.K (.ref f) = true) (hb : Binds X.K fd ps ds) (hd : Vals dvs ds) (hx : Passes CX X E) (ha : PA X (e :: es) t)
    (hdb : (x == ("__debug__" : Str)) = false := by decide)
    (he : starEach (e :: es) X.env = (false, eval e X.env) :: starEach es X.env := by rfl)
    (hpl : (backTo pos (starEach es X.env)).any (·.1) = false := by rfl) :
    PE X (.Call (.Name x p) (e :: es) [] pos) (tCall sp dvs E t) := by
  constructor
  intro pins s σ H Q I h
  refine wpAny_Call_Name_kw (ld_glob I hg hm ?_ hdb)
  refine PySem.W.callWith_K (h₀ := X.base) I.ok.mod.kin hk
    (thn (ha.run pos pins s σ H _ I h) ?_) he hpl
  rintro us s1 ⟨vs, H1, I1, r, q⟩
  exact ⟨I1.kIn, run_g gu F hr hb hd hx I1 r q⟩
/-- repr of data: None, bools, ints, texts, lists, tuples -/
def rRepr (K : PySem.W.Frag) : List V → Hp → VK → Prop := fun xs H Q =>
  ∃ (a : Addr) (d : PyData), xs = [.ref a] ∧ Dp K H (.ref a) d ∧ d.showable = true ∧ d.hasDict = false ∧ d.depth ≤ 60 ∧ d.shown.length ≤ sizeLine ∧ Q (.str d.shown) H
theorem call_reprD (gu : X.A.guards = some []) (hu : X.A.units + 64 < cLine) : CallR X (.builtin "repr") (rRepr X.K) := by
  rintro pins s σ H xs us Q I r ⟨a, d, rfl, hd, sh, nd, dp, sz, q⟩
  obtain ⟨u, rfl, ru⟩ := r.one
  cases (show u = Value.ref a from ru)
  obtain ⟨as, rd⟩ := Dp.reads I d _ _ hd rfl
  refine repr_of_reads' rd sh (PyData.noDict_hsm nd) gu (by omega) (fun _ _ e => e) ?_ sz
  intro h' u tk kp
  exact ⟨.str d.shown, H, I.kept kp, ⟨u, rfl⟩, q⟩
end
/-- the law's call -/
theorem law_callG {P : Program} {w : World} {K : PySem.W.Frag} {mg mb : Str → Option Value} {CX : CXT} {k : Nat} {fa a : Addr} {fd : FuncData} {x : Str} {sp : Sp} {s₁ : Shared} {vs : List Value} {ns : List Int}
    (KX : K.In s₁.heap) (hns : s₁.heap.Ns mainGlobals mg) (hb : s₁.heap.Ns builtinsNs mb) (hbb : ∀ x : Str, x ≠ "__name__" → mb x = bootBuiltins x) (hlim : s₁.heap.NoLimit) (hg : s₁.gens = #[])
    (ha : s₁.heap.get? a = some { cls := .type "list", data := .seq vs.toArray })
    (hi : IntsAre vs ns) (hl : ns.length ≤ sizeLine) (hr : Room k callerA)
    (F : ∀ base : Heap, K.In base → base.Ns mainGlobals mg → FnG P w K mg base CX k fa fd [x] sp)
    (hbind : ∀ (s : Shared) (u : Value), BindsTo s fd ⟨[u], []⟩ [(x, u)])
    (hsp : ∀ H : Hp, Only H → SqL K H a (ns.map V.int) → sp [.ref a] H (fun v _ => v = .bl true) fun _ _ _ => False)
    (hCX : ∀ H e s', CX [] H s₁ (fun _ _ _ => False) e s' → False) :
    codeAny (model P w) callerA (.call (.ref fa) ⟨[.ref a], []⟩)
      (fun r s' => r = .ok (.ret (.bool true)) ∧ OldK s₁.heap s'.heap ∧ s'.os = s₁.os ∧ AllBare s'.gens) s₁ := by
  have rv := vals_ints hi
  have go : ∀ H : Hp, Only H → SqL K H a (ns.map V.int) → HOk P w H s₁.heap → (∀ b, H b ≠ none → b = a) → (H a ≠ none → K.lookup a = none) →
      codeAny (model P w) callerA (.call (.ref fa) ⟨[.ref a], []⟩)
        (fun r s' => r = .ok (.ret (.bool true)) ∧ OldK s₁.heap s'.heap ∧ s'.os = s₁.os ∧ AllBare s'.gens) s₁ := by
    intro H hO hS hok only hK
    have isA : ∀ {b : Addr} {u : HO}, H b = some u → b = a := fun {b u} q => only b (by rw [q]; exact Option.some_ne_none u)
    have noDict : ∀ {b : Addr} {o : Obj} {es : Array DictEntry} {ep : Nat}, s₁.heap.get? b = some o → o.data = .dict es ep → H b = none := by
      intro b o es ep e d
      cases q : H b with
      | none => rfl
      | some u =>
        cases isA q
        rw [ha] at e
        cases e
        cases (show Data.seq vs.toArray _ = Data.dict es ep from d)
    have ns' : ∀ {b : Addr} {m : Str → Option Value}, s₁.heap.Ns b m → (hidT s₁.heap H).Ns b m := by
      rintro b m ⟨o, es, ep, e, d, r⟩
      exact ⟨o, es, ep, hidT_get e (noDict e d), d, r⟩
    have kin : K.In (hidT s₁.heap H) := by
      intro b o e
      refine hidT_get (KX b o e) ?_
      cases q : H b with
      | none => rfl
      | some u =>
        cases isA q
        rw [hK (by rw [q]; exact Option.some_ne_none u)] at e
        cases e
    obtain ⟨mc, c1, c2⟩ := hlim
    have md : Mod K mg (hidT s₁.heap H) := ⟨kin, ns' hns, ⟨mb, ns' hb, hbb⟩, ⟨mc, ns' c1, c2⟩⟩
    have none_in : ∀ b : Addr, ¬ b ∈ ([] : List Addr) := fun b z => by cases z
    have e0 : Env0 P w K mg (hidT s₁.heap H) callerA [] s₁ H :=
      ⟨rfl, md, fun b o e => of_hidT e, Nat.le_of_eq (hidT_size _ _), trivial, fun b z => (none_in b z).elim, hok, .of_eq hg⟩
    have run := (F _ kin (ns' hns)).run callerA [] s₁ H ⟨[.ref a], []⟩ [.ref a] [.ref a] _ _ rfl hr e0 (hbind s₁ (.ref a)) (.cons rfl .nil) (hsp H hO hS)
    refine codeAny_mono run ?_
    intro r s' h
    match r, h with
    | .error e, h => exact (hCX H e s' h).elim
    | .ok .next, h => exact h.elim
    | .ok .brk, h => exact h.elim
    | .ok .cont, h => exact h.elim
    | .ok (.ret u), ⟨v, H', os, bare, un, hok', r', q⟩ =>
      cases (show v = .bl true from q)
      cases (show u = Value.bool true from r')
      refine ⟨rfl, OldK.of_keep ?_, os, bare⟩
      intro b o e
      cases hb : H b with
      | none => exact un.keep b o e hb (none_in b) (none_in b)
      | some u =>
        rcases hO b with z | ⟨ob, xs, z⟩
        · rw [hb] at z
          cases z
        · obtain ⟨e1, _⟩ := hok b _ z
          obtain ⟨e2, _⟩ := hok' b _ (un.frzs b ob _ z)
          rw [e] at e1
          cases e1
          exact e2
  cases hk : K.lookup a with
  | some o =>
    have e := (KX a o hk).symm.trans ha
    cases e
    have sq : SqL K (fun _ => none) a (ns.map V.int) :=
      .inr ⟨_, vs.toArray, _, hk, rfl, rfl, rfl, by rw [List.size_toArray, hi.length]; exact hl, by simpa using rv⟩
    exact go (fun _ => none) (fun _ => .inl rfl) sq (fun b u z => by cases z) (fun b z => (z rfl).elim) (fun z => (z rfl).elim)
  | none =>
    let L : HO := .frz { cls := .type "list", data := .seq vs.toArray } (.lst (ns.map V.int))
    have at1 : ∀ {b}, b = a → (fun b => if b = a then some L else none : Hp) b = some L := fun h => if_pos h
    have at0 : ∀ {b}, ¬ b = a → (fun b => if b = a then some L else none : Hp) b = none := fun h => if_neg h
    refine go (fun b => if b = a then some L else none) ?_ (.inl (.inr ⟨_, at1 rfl⟩)) ?_ ?_ (fun _ => hk)
    · intro b
      by_cases h : b = a
      · exact .inr ⟨_, _, at1 h⟩
      · exact .inl (at0 h)
    · intro b u z
      by_cases h : b = a
      · cases (at1 h).symm.trans z
        subst h
        exact ⟨ha, by rw [List.length_map]; exact hl, vs, _, rv, ha⟩
      · cases (at0 h).symm.trans z
    · intro b z
      by_cases h : b = a
      · exact h
      · exact (z (at0 h)).elim
/-- a law's end, over facts of the head -/
theorem walk_G {l : PySem.W.OpenLaw} {n k : Nat} {q : Program} {loose : List Str} {XP : (Str → Option Value) → Heap → Prop} {YP : World → Heap → Prop} {d : DefRec} {CX : CXT} {x : Str}
    (hn : l.most = some n) (hn2 : n ≤ sizeLine) (hdf : d.params.defaults = []) (hr : Room k callerA)
    (F : ∀ (w : World) (mg : Str → Option Value) (fa : Addr) (h : Heap), YP w h → h.Ns mainGlobals mg → mg d.name = some (.ref fa) →
      ∃ (K : PySem.W.Frag) (fd : FuncData) (sp : Sp), K.In h ∧ (∀ (s : Shared) (u : Value), BindsTo s fd ⟨[u], []⟩ [(x, u)]) ∧
        (∀ (H : Hp) (a : Addr) (ns : List Int), ns.length ≤ n → Only H → SqL K H a (ns.map V.int) → sp [.ref a] H (fun v _ => v = .bl true) fun _ _ _ => False) ∧
        ∀ base : Heap, K.In base → base.Ns mainGlobals mg → FnG l.prog w K mg base CX k fa fd [x] sp)
    (hCX : ∀ (H : Hp) (s : Shared) (e : Value) (s' : Shared), CX [] H s (fun _ _ _ => False) e s' → False) :
    PySem.W.WalkO q loose XP YP l.row.toRowW d [] (fun f vs => PySem.call f vs) := by
  refine Att.attach_call hn hdf ?_
  intro w s₀ s₁ mg mb fa o pm cd doc a vs ns G Y ho hd hcd hmg hobj hints hlen hg
  obtain ⟨K, fd, sp, KX, bind, hsp, hF⟩ := F w mg fa _ Y G.T.g hmg
  exact law_callG KX G.T.g G.T.b G.T.builtins G.T.nolimit hg hobj hints (Nat.le_trans hlen hn2) hr hF bind
    (fun H hO hS => hsp H a ns hlen hO hS) (fun H e s' => hCX H s₁ e s')
end Gx
namespace Hx
open PySem PySem.Spec PyProof.Rows L2
/-- where the getter of a property of a class stands -/
def getA (K : PySem.W.Frag) (C : Addr) (f : Str) : Addr :=
  match PySem.W.recIn K (He.ma K C f) "property" with
  | some (.ref g :: _) => g
  | _ => 0
def propB (K : PySem.W.Frag) (x f : Str) : Bool :=
  let p := He.ma K (He.ga K x) f
  He.eqO (PySem.W.findIn K (.ref (He.ga K x)) f) (some (some (.ref p))) &&
  (He.eqO (PySem.W.specialIn K (.ref p) "__get__") (some (some (.builtin "property.__get__"))) &&
  (decide (PySem.W.takesIn K (.ref p) = some true) &&
  (match PySem.W.recIn K p "property" with
    | some (.ref _ :: _) => true
    | _ => false)))
theorem propB_ok {K : PySem.W.Frag} {x f : Str} (h : propB K x f = true) : PropOf K (He.ga K x) f (He.ma K (He.ga K x) f) (getA K (He.ga K x) f) := by
  obtain ⟨h1, h2⟩ := He.ba h
  obtain ⟨h3, h4⟩ := He.ba h2
  obtain ⟨h5, h6⟩ := He.ba h4
  refine ⟨He.eqO_ok h1, He.eqO_ok h3, of_decide_eq_true h5, ?_⟩
  unfold getA
  split at h6
  · rename_i g r e
    rw [e]
    exact ⟨r, rfl⟩
  · cases h6
/-- what isinstance and != ask of a class of the text -/
def clsB (K : PySem.W.Frag) (x : Str) : Bool :=
  He.eqO (PySem.W.findIn K (.ref (He.ga K x)) "__class__") (some (some (.builtin "object.__class__"))) &&
  (He.eqO (PySem.W.specialIn K (.builtin "object.__class__") "__get__") (some (some (.builtin "getset_descriptor.__get__"))) &&
  (decide (PySem.W.takesIn K (.builtin "object.__class__") = some true) &&
  (decide (PySem.W.mroIn K (He.ga K x) (.type "object") = some true) &&
  He.eqO (PySem.W.findIn K (.ref (He.ga K x)) "__ne__") (some (some (.builtin "object.__ne__"))))))
structure ClsI (K : PySem.W.Frag) (C : Addr) : Prop where
  ca : PySem.W.findIn K (.ref C) "__class__" = some (some (.builtin "object.__class__"))
  cn : PySem.W.specialIn K (.builtin "object.__class__") "__get__" = some (some (.builtin "getset_descriptor.__get__"))
  ct : PySem.W.takesIn K (.builtin "object.__class__") = some true
  cm : PySem.W.mroIn K C (.type "object") = some true
  ne : PySem.W.findIn K (.ref C) "__ne__" = some (some (.builtin "object.__ne__"))
theorem clsB_ok {K : PySem.W.Frag} {x : Str} (h : clsB K x = true) : ClsI K (He.ga K x) := by
  obtain ⟨h1, h⟩ := He.ba h
  obtain ⟨h2, h⟩ := He.ba h
  obtain ⟨h3, h⟩ := He.ba h
  obtain ⟨h4, h5⟩ := He.ba h
  exact ⟨He.eqO_ok h1, He.eqO_ok h2, of_decide_eq_true h3, of_decide_eq_true h4, He.eqO_ok h5⟩
/-- a def of the text: where it stands, what it is -/
structure Dx where
  adr : PySem.W.Frag → Addr
  nm : Str
  ql : Str
  st : Stmt
  dfl : List He.Dv := []
  kwd : List (Str × He.Dv) := []
abbrev Vx : Type := Option (Str × Str × Arguments × FuncBody × Scope × Addr × List (Str × Addr) × Addr)
def seen (K : PySem.W.Frag) (a : Addr) : Vx :=
  match K.lookup a with
  | some ⟨_, _, .func d, _⟩ => some (d.name, d.qualname, d.params, d.body, d.scope, d.globals, d.closure, d.builtins)
  | _ => none
def Dx.due (d : Dx) : Vx := some (d.nm, d.ql, defArgs d.st, .stmts (defBody d.st), defScope d.st, mainGlobals, [], builtinsNs)
def Dx.ok (K : PySem.W.Frag) (d : Dx) : Bool :=
  PySem.W.keepIn K (.ref (d.adr K)) &&
  (match K.lookup (d.adr K) with
    | some ⟨_, _, .func y, _⟩ => PySem.W.codeIn K y.code d.ql && (He.dflB K y.defaults (d.dfl.map (He.Dv.v K)) && He.kwdB K y.kwdefaults (d.kwd.map fun q => (q.1, q.2.v K)))
    | _ => false)
/-- a def as it stands behind the top -/
abbrev Fd (K : PySem.W.Frag) (d : Dx) (fd : FuncData) : Prop := FunD K d.nm d.ql (defArgs d.st) (defBody d.st) (defScope d.st) (d.dfl.map (He.Dv.v K)) (d.kwd.map fun q => (q.1, q.2.v K)) (d.adr K) fd
theorem Dx.fun_ {K : PySem.W.Frag} {d : Dx} (e : seen K (d.adr K) = d.due) (c : d.ok K = true) : ∃ fd, Fd K d fd := by
  obtain ⟨kp, c2⟩ := He.ba c
  unfold seen at e
  cases q : K.lookup (d.adr K) with
  | none => rw [q] at c2; cases c2
  | some o =>
    obtain ⟨oc, od, dt, osl⟩ := o
    rw [q] at c2 e
    cases dt with
    | func fd =>
      obtain ⟨n1, n2, n3, n4, n5, n6, n7, n8, n9, n10, n11, n12, n13, n14, n15⟩ := fd
      have z : (some (n1, n2, n3, n4, n5, n6, n7, n15) : Vx) = d.due := e
      unfold Dx.due at z
      simp only [Option.some.injEq, Prod.mk.injEq] at z
      obtain ⟨z1, z2, z3, z4, z5, z6, z7, z8⟩ := z
      subst z1 z2 z3 z4 z5 z6 z7 z8
      obtain ⟨k1, k2⟩ := He.ba (show (PySem.W.codeIn K n13 d.ql && (He.dflB K n8 (d.dfl.map (He.Dv.v K)) && He.kwdB K n9 (d.kwd.map fun q => (q.1, q.2.v K)))) = true from c2)
      obtain ⟨k3, k4⟩ := He.ba k2
      exact ⟨_, ⟨oc, od, n8, n9, n10, n11, n12, n13, n14, osl, rfl, q, k1, He.dflB_ok k3, He.kwdB_ok k4⟩, kp⟩
    | _ => cases c2
/-- what is looked at behind the top -/
abbrev Look : Type := Bool × List Vx
def looks (fa : List (PySem.W.Frag → Bool)) (fn : List Dx) (K : PySem.W.Frag) : Look :=
  ((fa.all fun f => f K) && fn.all fun d => d.ok K, fn.map fun d => seen K (d.adr K))
def good (fn : List Dx) : Look := (true, fn.map Dx.due)
/-- the addresses among these that are not yet among the seen ones -/
def newO (bs : List Addr) (acc : List Addr × Nat) : List Addr × Nat :=
  bs.foldl (fun r b => bif Nat.testBit r.2 b then r else (b :: r.1, Nat.lor r.2 (Nat.shiftLeft 1 b))) acc
def lvlX (g : Addr → Option Obj) (fr : List Addr) (seen : Nat) : List Addr × Nat :=
  fr.foldl (fun r a => match g a with
    | some o => newO (He.refsD o) r
    | none => r) ([], seen)
def asX (g : Addr → Option Obj) : Nat → List Addr → List Addr → Nat → List Addr
  | 0, all, _, _ => all
  | n + 1, all, fr, seen => match lvlX g fr seen with
    | (new, seen2) => asX g n (all ++ new) new seen2
def lookG (n : Nat) (fa : List (PySem.W.Frag → Bool)) (fn : List Dx) (g : Addr → Option Obj) : Look := looks fa fn (He.frG g (asX g n [mainGlobals] [mainGlobals] (Nat.shiftLeft 1 mainGlobals)))
def hook (n : Nat) (fa : List (PySem.W.Frag → Bool)) (fn : List Dx) : PySem.W.Hook where
  α := Look
  obs := fun s => lookG n fa fn s.heap.get?
  val := fun _ => good fn
  says := fun _ h => ∃ K : PySem.W.Frag, K.In h ∧ looks fa fn K = good fn
  of := fun _ _ e => ⟨_, He.frG_in, e⟩
  keeps := fun _ _ _ ⟨K, kin, c⟩ k => ⟨K, PySem.W.Frag.In.keeps kin k, c⟩
theorem fact {fa : List (PySem.W.Frag → Bool)} {fn : List Dx} {K : PySem.W.Frag} (c : looks fa fn K = good fn) (i : Nat) {f : PySem.W.Frag → Bool} (h : fa[i]? = some f := by rfl) : f K = true := by
  have c1 := (He.ba (show ((fa.all fun f => f K) && fn.all fun d => d.ok K) = true from congrArg Prod.fst c)).1
  exact List.all_eq_true.mp c1 f (List.mem_of_getElem? h)
theorem defn {fa : List (PySem.W.Frag → Bool)} {fn : List Dx} {K : PySem.W.Frag} (c : looks fa fn K = good fn) (i : Nat) {d : Dx} (h : fn[i]? = some d := by rfl) : ∃ fd, Fd K d fd := by
  have c2 := (He.ba (show ((fa.all fun f => f K) && fn.all fun d => d.ok K) = true from congrArg Prod.fst c)).2
  have e : fn.map (fun d => seen K (d.adr K)) = fn.map Dx.due := congrArg Prod.snd c
  have e2 : (fn.map fun d => seen K (d.adr K))[i]? = (fn.map Dx.due)[i]? := by rw [e]
  rw [List.getElem?_map, List.getElem?_map, h] at e2
  exact Dx.fun_ (Option.some.inj e2) (List.all_eq_true.mp c2 d (List.mem_of_getElem? h))
end Hx
namespace K8
open PySem PySem.Spec PyProof.Rows L2 Hx
def top (i : Nat) : Stmt := PySem.Challenge.pw_signtown_k08_streets_compared.main.body.getD i (.Pass ⟨0, 0, 0, 0⟩)
abbrev s_is_name : Stmt := top 13
abbrev s_is_integer : Stmt := top 14
abbrev s_is_price : Stmt := top 15
abbrev s_check_street : Stmt := top 21
abbrev s_check_prices : Stmt := top 22
abbrev s__law_pen : Stmt := top 35
abbrev s__law_draw : Stmt := top 36
abbrev s__law_pick : Stmt := top 37
abbrev s__law_plan : Stmt := top 38
abbrev s__law_street : Stmt := top 39
abbrev s__law_near : Stmt := top 40
abbrev s__law_face : Stmt := top 41
abbrev s_law : Stmt := top 42
abbrev s_Lane_init : Stmt := inClass (top 31) 1
abbrev s_Lane_eq : Stmt := inClass (top 31) 9
abbrev s_Lane_str : Stmt := inClass (top 31) 10
abbrev s_Avenue_init : Stmt := inClass (top 32) 1
abbrev s_Avenue_eq : Stmt := inClass (top 32) 9
abbrev s_Avenue_str : Stmt := inClass (top 32) 10
abbrev s_Road_init : Stmt := inClass (top 33) 1
abbrev s_Road_eq : Stmt := inClass (top 33) 12
abbrev s_Road_str : Stmt := inClass (top 33) 13
abbrev s_Lane_ends : Stmt := inClass (top 31) 2
abbrev s_Avenue_ends : Stmt := inClass (top 32) 2
abbrev s_Road_ends : Stmt := inClass (top 33) 2
def dxs : List Hx.Dx := [
  ⟨fun K => He.ga K "is_name", "is_name", "is_name", s_is_name, [], []⟩,
  ⟨fun K => He.ga K "is_integer", "is_integer", "is_integer", s_is_integer, [], []⟩,
  ⟨fun K => He.ga K "is_price", "is_price", "is_price", s_is_price, [], []⟩,
  ⟨fun K => He.ga K "check_street", "check_street", "check_street", s_check_street, [], []⟩,
  ⟨fun K => He.ga K "check_prices", "check_prices", "check_prices", s_check_prices, [], []⟩,
  ⟨fun K => He.ga K "_law_pen", "_law_pen", "_law_pen", s__law_pen, [], []⟩,
  ⟨fun K => He.ga K "_law_draw", "_law_draw", "_law_draw", s__law_draw, [], []⟩,
  ⟨fun K => He.ga K "_law_pick", "_law_pick", "_law_pick", s__law_pick, [], []⟩,
  ⟨fun K => He.ga K "_law_plan", "_law_plan", "_law_plan", s__law_plan, [], []⟩,
  ⟨fun K => He.ga K "_law_street", "_law_street", "_law_street", s__law_street, [], []⟩,
  ⟨fun K => He.ga K "_law_near", "_law_near", "_law_near", s__law_near, [], []⟩,
  ⟨fun K => He.ga K "_law_face", "_law_face", "_law_face", s__law_face, [], []⟩,
  ⟨fun K => He.ga K "law", "law", "law", s_law, [], []⟩,
  ⟨fun K => He.ma K (He.ga K "Lane") "__init__", "__init__", "Lane.__init__", s_Lane_init, [], []⟩,
  ⟨fun K => He.ma K (He.ga K "Lane") "__eq__", "__eq__", "Lane.__eq__", s_Lane_eq, [], []⟩,
  ⟨fun K => He.ma K (He.ga K "Lane") "__str__", "__str__", "Lane.__str__", s_Lane_str, [], []⟩,
  ⟨fun K => He.ma K (He.ga K "Avenue") "__init__", "__init__", "Avenue.__init__", s_Avenue_init, [], []⟩,
  ⟨fun K => He.ma K (He.ga K "Avenue") "__eq__", "__eq__", "Avenue.__eq__", s_Avenue_eq, [], []⟩,
  ⟨fun K => He.ma K (He.ga K "Avenue") "__str__", "__str__", "Avenue.__str__", s_Avenue_str, [], []⟩,
  ⟨fun K => He.ma K (He.ga K "Road") "__init__", "__init__", "Road.__init__", s_Road_init, [.int (0), .int (0)], []⟩,
  ⟨fun K => He.ma K (He.ga K "Road") "__eq__", "__eq__", "Road.__eq__", s_Road_eq, [], []⟩,
  ⟨fun K => He.ma K (He.ga K "Road") "__str__", "__str__", "Road.__str__", s_Road_str, [], []⟩,
  ⟨fun K => getA K (He.ga K "Lane") "ends", "ends", "Lane.ends", s_Lane_ends, [], []⟩,
  ⟨fun K => getA K (He.ga K "Avenue") "ends", "ends", "Avenue.ends", s_Avenue_ends, [], []⟩,
  ⟨fun K => getA K (He.ga K "Road") "ends", "ends", "Road.ends", s_Road_ends, [], []⟩]
def fas : List (PySem.W.Frag → Bool) := [
  (He.Fa.glo "is_name").ok,
  (He.Fa.glo "is_integer").ok,
  (He.Fa.glo "is_price").ok,
  (He.Fa.glo "check_street").ok,
  (He.Fa.glo "check_prices").ok,
  (He.Fa.glo "_law_pen").ok,
  (He.Fa.glo "_law_draw").ok,
  (He.Fa.glo "_law_pick").ok,
  (He.Fa.glo "_law_plan").ok,
  (He.Fa.glo "_law_street").ok,
  (He.Fa.glo "_law_near").ok,
  (He.Fa.glo "_law_face").ok,
  (He.Fa.glo "law").ok,
  (He.Fa.glo "Lane").ok,
  (He.Fa.glo "Avenue").ok,
  (He.Fa.glo "Road").ok,
  (He.Fa.glo "BadStreet").ok,
  (He.Fa.glo "BadPrice").ok,
  (He.Fa.free "isinstance").ok,
  (He.Fa.free "str").ok,
  (He.Fa.free "int").ok,
  (He.Fa.free "bool").ok,
  (He.Fa.free "len").ok,
  (He.Fa.free "all").ok,
  (He.Fa.free "list").ok,
  (He.Fa.free "tuple").ok,
  (He.Fa.free "range").ok,
  (He.Fa.free "repr").ok,
  (He.Fa.free "abs").ok,
  (He.Fa.int "NAME_LENGTH" (8)).ok,
  (He.Fa.int "GREATEST_PRICE" (999999999999)).ok,
  (He.Fa.str "LETTERS" "abcdefghijklmnopqrstuvwxyz").ok,
  (He.Fa.cls "Lane").ok,
  (He.Fa.cls "Avenue").ok,
  (He.Fa.cls "Road").ok,
  (He.Fa.noat "Lane" "name").ok,
  (He.Fa.noat "Lane" "start").ok,
  (He.Fa.noat "Lane" "goal").ok,
  (He.Fa.noat "Avenue" "name").ok,
  (He.Fa.noat "Avenue" "one").ok,
  (He.Fa.noat "Avenue" "other").ok,
  (He.Fa.noat "Road" "name").ok,
  (He.Fa.noat "Road" "one").ok,
  (He.Fa.noat "Road" "other").ok,
  (He.Fa.noat "Road" "there").ok,
  (He.Fa.noat "Road" "back").ok,
  (He.Fa.meth "Lane" "__eq__").ok,
  (He.Fa.meth "Lane" "__str__").ok,
  (He.Fa.meth "Avenue" "__eq__").ok,
  (He.Fa.meth "Avenue" "__str__").ok,
  (He.Fa.meth "Road" "__eq__").ok,
  (He.Fa.meth "Road" "__str__").ok,
  (He.Fa.mkr "Lane").ok,
  (He.Fa.mkr "Avenue").ok,
  (He.Fa.mkr "Road").ok,
  (fun K => Hx.propB K "Lane" "ends"),
  (fun K => Hx.propB K "Avenue" "ends"),
  (fun K => Hx.propB K "Road" "ends"),
  (fun K => Hx.clsB K "Lane"),
  (fun K => Hx.clsB K "Avenue"),
  (fun K => Hx.clsB K "Road"),
  (fun K => decide (PySem.W.kitOne K (.ref (He.ga K "Lane")) (.ref (He.ga K "Lane")) = some true)),
  (fun K => decide (PySem.W.kitOne K (.ref (He.ga K "Lane")) (.ref (He.ga K "Avenue")) = some false)),
  (fun K => decide (PySem.W.kitOne K (.ref (He.ga K "Lane")) (.ref (He.ga K "Road")) = some false)),
  (fun K => decide (PySem.W.kitOne K (.ref (He.ga K "Avenue")) (.ref (He.ga K "Lane")) = some false)),
  (fun K => decide (PySem.W.kitOne K (.ref (He.ga K "Avenue")) (.ref (He.ga K "Avenue")) = some true)),
  (fun K => decide (PySem.W.kitOne K (.ref (He.ga K "Avenue")) (.ref (He.ga K "Road")) = some false)),
  (fun K => decide (PySem.W.kitOne K (.ref (He.ga K "Road")) (.ref (He.ga K "Lane")) = some false)),
  (fun K => decide (PySem.W.kitOne K (.ref (He.ga K "Road")) (.ref (He.ga K "Avenue")) = some false)),
  (fun K => decide (PySem.W.kitOne K (.ref (He.ga K "Road")) (.ref (He.ga K "Road")) = some true)),
  (fun K => decide (PySem.W.kitOne K (.type "NoneType") (.ref (He.ga K "Lane")) = some false)),
  (fun K => decide (PySem.W.kitOne K (.type "NoneType") (.ref (He.ga K "Avenue")) = some false)),
  (fun K => decide (PySem.W.kitOne K (.type "NoneType") (.ref (He.ga K "Road")) = some false)),
  (fun K => decide (PySem.W.kitOne K (.type "bool") (.ref (He.ga K "Lane")) = some false)),
  (fun K => decide (PySem.W.kitOne K (.type "bool") (.ref (He.ga K "Avenue")) = some false)),
  (fun K => decide (PySem.W.kitOne K (.type "bool") (.ref (He.ga K "Road")) = some false)),
  (fun K => decide (PySem.W.kitOne K (.type "int") (.ref (He.ga K "Lane")) = some false)),
  (fun K => decide (PySem.W.kitOne K (.type "int") (.ref (He.ga K "Avenue")) = some false)),
  (fun K => decide (PySem.W.kitOne K (.type "int") (.ref (He.ga K "Road")) = some false)),
  (fun K => decide (PySem.W.kitOne K (.type "str") (.ref (He.ga K "Lane")) = some false)),
  (fun K => decide (PySem.W.kitOne K (.type "str") (.ref (He.ga K "Avenue")) = some false)),
  (fun K => decide (PySem.W.kitOne K (.type "str") (.ref (He.ga K "Road")) = some false)),
  (fun K => decide (PySem.W.kitOne K (.type "list") (.ref (He.ga K "Lane")) = some false)),
  (fun K => decide (PySem.W.kitOne K (.type "list") (.ref (He.ga K "Avenue")) = some false)),
  (fun K => decide (PySem.W.kitOne K (.type "list") (.ref (He.ga K "Road")) = some false)),
  (fun K => decide (PySem.W.kitOne K (.type "tuple") (.ref (He.ga K "Lane")) = some false)),
  (fun K => decide (PySem.W.kitOne K (.type "tuple") (.ref (He.ga K "Avenue")) = some false)),
  (fun K => decide (PySem.W.kitOne K (.type "tuple") (.ref (He.ga K "Road")) = some false)),
  (fun K => decide (PySem.W.kitOne K (.type "dict") (.ref (He.ga K "Lane")) = some false)),
  (fun K => decide (PySem.W.kitOne K (.type "dict") (.ref (He.ga K "Avenue")) = some false)),
  (fun K => decide (PySem.W.kitOne K (.type "dict") (.ref (He.ga K "Road")) = some false)),
  (fun K => PySem.W.notFirst K (He.ga K "Lane") (.ref (He.ga K "Lane"))),
  (fun K => PySem.W.notFirst K (He.ga K "Lane") (.ref (He.ga K "Avenue"))),
  (fun K => PySem.W.notFirst K (He.ga K "Lane") (.ref (He.ga K "Road"))),
  (fun K => PySem.W.notFirst K (He.ga K "Avenue") (.ref (He.ga K "Lane"))),
  (fun K => PySem.W.notFirst K (He.ga K "Avenue") (.ref (He.ga K "Avenue"))),
  (fun K => PySem.W.notFirst K (He.ga K "Avenue") (.ref (He.ga K "Road"))),
  (fun K => PySem.W.notFirst K (He.ga K "Road") (.ref (He.ga K "Lane"))),
  (fun K => PySem.W.notFirst K (He.ga K "Road") (.ref (He.ga K "Avenue"))),
  (fun K => PySem.W.notFirst K (He.ga K "Road") (.ref (He.ga K "Road"))),
  (fun K => PySem.W.notFirst K (He.ga K "Lane") (.type "NoneType")),
  (fun K => PySem.W.notFirst K (He.ga K "Lane") (.type "bool")),
  (fun K => PySem.W.notFirst K (He.ga K "Lane") (.type "int")),
  (fun K => PySem.W.notFirst K (He.ga K "Lane") (.type "str")),
  (fun K => PySem.W.notFirst K (He.ga K "Lane") (.type "list")),
  (fun K => PySem.W.notFirst K (He.ga K "Lane") (.type "tuple")),
  (fun K => PySem.W.notFirst K (He.ga K "Lane") (.type "dict")),
  (fun K => PySem.W.notFirst K (He.ga K "Avenue") (.type "NoneType")),
  (fun K => PySem.W.notFirst K (He.ga K "Avenue") (.type "bool")),
  (fun K => PySem.W.notFirst K (He.ga K "Avenue") (.type "int")),
  (fun K => PySem.W.notFirst K (He.ga K "Avenue") (.type "str")),
  (fun K => PySem.W.notFirst K (He.ga K "Avenue") (.type "list")),
  (fun K => PySem.W.notFirst K (He.ga K "Avenue") (.type "tuple")),
  (fun K => PySem.W.notFirst K (He.ga K "Avenue") (.type "dict")),
  (fun K => PySem.W.notFirst K (He.ga K "Road") (.type "NoneType")),
  (fun K => PySem.W.notFirst K (He.ga K "Road") (.type "bool")),
  (fun K => PySem.W.notFirst K (He.ga K "Road") (.type "int")),
  (fun K => PySem.W.notFirst K (He.ga K "Road") (.type "str")),
  (fun K => PySem.W.notFirst K (He.ga K "Road") (.type "list")),
  (fun K => PySem.W.notFirst K (He.ga K "Road") (.type "tuple")),
  (fun K => PySem.W.notFirst K (He.ga K "Road") (.type "dict"))]
abbrev R : PySem.W.OpenRow := PySem.W.OpenLaw.row PySem.Challenge.rw_signtown_k08_streets_compared
abbrev hk : PySem.W.Hook := hook 7 fas dxs
def ob (s : PySem.W.SharedT) : Look := lookG 7 fas dxs (HandSHeadRun.getT s)
theorem ob_eq (s : PySem.W.SharedT) : ob s = hk.obs s.abs := by
  have e : HandSHeadRun.getT s = s.abs.heap.get? := funext (HandSHeadRun.getT_eq s)
  unfold ob
  rw [e]
  rfl
def loose : List Str := (["_wall", "__name__", "TownError", "BadInput", "Refused", "BadPrice", "BadStreet", "BadText", "NoCorner", "LETTERS", "NAME_LENGTH", "GREATEST_PRICE", "is_name", "is_integer", "is_price", "DIGITS", "PRICE_DIGITS", "ROAD_WORDS", "SETTLED_WORDS", "check_street", "check_prices", "check_end", "is_price_word", "can_stand", "first_wrong", "read_street", "Street", "Settled", "Even", "Lane"] : List Str) ++ (["Avenue", "Road", "_law_pen", "_law_draw", "_law_pick", "_law_plan", "_law_street", "_law_near", "_law_face"] : List Str)
end K8
namespace K8
open PySem PySem.Spec PyProof.Rows L2 Hx
theorem run (w : World) : HandSHeadRun.RunEq R (PySem.W.view R.prog [42]) hk ob 20000 loose w := by
  intro os
  kernel_rfl
end K8
namespace K8
open PySem PySem.Spec PyProof.Rows L2 Hx
/-- what stands behind the top -/
def Tx (K : PySem.W.Frag) (mg : Str → Option Value) : Prop := ∃ h : Heap, K.In h ∧ h.Ns mainGlobals mg ∧ looks fas dxs K = good dxs
section
variable {K : PySem.W.Frag} {mg : Str → Option Value}
theorem g_is_name (T : Tx K mg) : mg "is_name" = some (.ref (He.ga K "is_name")) := by obtain ⟨h, X, G, c⟩ := T; exact He.glo_ok X G (fact c 0)
theorem g_is_integer (T : Tx K mg) : mg "is_integer" = some (.ref (He.ga K "is_integer")) := by obtain ⟨h, X, G, c⟩ := T; exact He.glo_ok X G (fact c 1)
theorem g_is_price (T : Tx K mg) : mg "is_price" = some (.ref (He.ga K "is_price")) := by obtain ⟨h, X, G, c⟩ := T; exact He.glo_ok X G (fact c 2)
theorem g_check_street (T : Tx K mg) : mg "check_street" = some (.ref (He.ga K "check_street")) := by obtain ⟨h, X, G, c⟩ := T; exact He.glo_ok X G (fact c 3)
theorem g_check_prices (T : Tx K mg) : mg "check_prices" = some (.ref (He.ga K "check_prices")) := by obtain ⟨h, X, G, c⟩ := T; exact He.glo_ok X G (fact c 4)
theorem g__law_pen (T : Tx K mg) : mg "_law_pen" = some (.ref (He.ga K "_law_pen")) := by obtain ⟨h, X, G, c⟩ := T; exact He.glo_ok X G (fact c 5)
theorem g__law_draw (T : Tx K mg) : mg "_law_draw" = some (.ref (He.ga K "_law_draw")) := by obtain ⟨h, X, G, c⟩ := T; exact He.glo_ok X G (fact c 6)
theorem g__law_pick (T : Tx K mg) : mg "_law_pick" = some (.ref (He.ga K "_law_pick")) := by obtain ⟨h, X, G, c⟩ := T; exact He.glo_ok X G (fact c 7)
theorem g__law_plan (T : Tx K mg) : mg "_law_plan" = some (.ref (He.ga K "_law_plan")) := by obtain ⟨h, X, G, c⟩ := T; exact He.glo_ok X G (fact c 8)
theorem g__law_street (T : Tx K mg) : mg "_law_street" = some (.ref (He.ga K "_law_street")) := by obtain ⟨h, X, G, c⟩ := T; exact He.glo_ok X G (fact c 9)
theorem g__law_near (T : Tx K mg) : mg "_law_near" = some (.ref (He.ga K "_law_near")) := by obtain ⟨h, X, G, c⟩ := T; exact He.glo_ok X G (fact c 10)
theorem g__law_face (T : Tx K mg) : mg "_law_face" = some (.ref (He.ga K "_law_face")) := by obtain ⟨h, X, G, c⟩ := T; exact He.glo_ok X G (fact c 11)
theorem g_law (T : Tx K mg) : mg "law" = some (.ref (He.ga K "law")) := by obtain ⟨h, X, G, c⟩ := T; exact He.glo_ok X G (fact c 12)
theorem g_Lane (T : Tx K mg) : mg "Lane" = some (.ref (He.ga K "Lane")) := by obtain ⟨h, X, G, c⟩ := T; exact He.glo_ok X G (fact c 13)
theorem g_Avenue (T : Tx K mg) : mg "Avenue" = some (.ref (He.ga K "Avenue")) := by obtain ⟨h, X, G, c⟩ := T; exact He.glo_ok X G (fact c 14)
theorem g_Road (T : Tx K mg) : mg "Road" = some (.ref (He.ga K "Road")) := by obtain ⟨h, X, G, c⟩ := T; exact He.glo_ok X G (fact c 15)
theorem g_BadStreet (T : Tx K mg) : mg "BadStreet" = some (.ref (He.ga K "BadStreet")) := by obtain ⟨h, X, G, c⟩ := T; exact He.glo_ok X G (fact c 16)
theorem g_BadPrice (T : Tx K mg) : mg "BadPrice" = some (.ref (He.ga K "BadPrice")) := by obtain ⟨h, X, G, c⟩ := T; exact He.glo_ok X G (fact c 17)
theorem n_isinstance (T : Tx K mg) : mg "isinstance" = none := by obtain ⟨h, X, G, c⟩ := T; exact He.free_ok X G (fact c 18)
theorem n_str (T : Tx K mg) : mg "str" = none := by obtain ⟨h, X, G, c⟩ := T; exact He.free_ok X G (fact c 19)
theorem n_int (T : Tx K mg) : mg "int" = none := by obtain ⟨h, X, G, c⟩ := T; exact He.free_ok X G (fact c 20)
theorem n_bool (T : Tx K mg) : mg "bool" = none := by obtain ⟨h, X, G, c⟩ := T; exact He.free_ok X G (fact c 21)
theorem n_len (T : Tx K mg) : mg "len" = none := by obtain ⟨h, X, G, c⟩ := T; exact He.free_ok X G (fact c 22)
theorem n_all (T : Tx K mg) : mg "all" = none := by obtain ⟨h, X, G, c⟩ := T; exact He.free_ok X G (fact c 23)
theorem n_list (T : Tx K mg) : mg "list" = none := by obtain ⟨h, X, G, c⟩ := T; exact He.free_ok X G (fact c 24)
theorem n_tuple (T : Tx K mg) : mg "tuple" = none := by obtain ⟨h, X, G, c⟩ := T; exact He.free_ok X G (fact c 25)
theorem n_range (T : Tx K mg) : mg "range" = none := by obtain ⟨h, X, G, c⟩ := T; exact He.free_ok X G (fact c 26)
theorem n_repr (T : Tx K mg) : mg "repr" = none := by obtain ⟨h, X, G, c⟩ := T; exact He.free_ok X G (fact c 27)
theorem n_abs (T : Tx K mg) : mg "abs" = none := by obtain ⟨h, X, G, c⟩ := T; exact He.free_ok X G (fact c 28)
theorem i_NAME_LENGTH (T : Tx K mg) {v : Int} (e : (He.Fa.int "NAME_LENGTH" v) = (He.Fa.int "NAME_LENGTH" v)) : fas[29]? = some (He.Fa.int "NAME_LENGTH" v).ok → ∃ t, mg "NAME_LENGTH" = some (.int v t) := by intro q; obtain ⟨h, X, G, c⟩ := T; exact He.int_ok X G (fact c 29 q)
theorem i_GREATEST_PRICE (T : Tx K mg) {v : Int} (e : (He.Fa.int "GREATEST_PRICE" v) = (He.Fa.int "GREATEST_PRICE" v)) : fas[30]? = some (He.Fa.int "GREATEST_PRICE" v).ok → ∃ t, mg "GREATEST_PRICE" = some (.int v t) := by intro q; obtain ⟨h, X, G, c⟩ := T; exact He.int_ok X G (fact c 30 q)
theorem t_LETTERS (T : Tx K mg) {v : Str} : fas[31]? = some (He.Fa.str "LETTERS" v).ok → ∃ t, mg "LETTERS" = some (.str v t) := by intro q; obtain ⟨h, X, G, c⟩ := T; exact He.str_ok X G (fact c 31 q)
theorem c_Lane (T : Tx K mg) : Cls K (He.ga K "Lane") := by obtain ⟨h, X, G, c⟩ := T; exact He.cls_ok (fact c 32)
theorem c_Avenue (T : Tx K mg) : Cls K (He.ga K "Avenue") := by obtain ⟨h, X, G, c⟩ := T; exact He.cls_ok (fact c 33)
theorem c_Road (T : Tx K mg) : Cls K (He.ga K "Road") := by obtain ⟨h, X, G, c⟩ := T; exact He.cls_ok (fact c 34)
theorem na_Lane_name (T : Tx K mg) : NoAttr K (He.ga K "Lane") "name" := by obtain ⟨h, X, G, c⟩ := T; exact He.noat_ok (fact c 35)
theorem na_Lane_start (T : Tx K mg) : NoAttr K (He.ga K "Lane") "start" := by obtain ⟨h, X, G, c⟩ := T; exact He.noat_ok (fact c 36)
theorem na_Lane_goal (T : Tx K mg) : NoAttr K (He.ga K "Lane") "goal" := by obtain ⟨h, X, G, c⟩ := T; exact He.noat_ok (fact c 37)
theorem na_Avenue_name (T : Tx K mg) : NoAttr K (He.ga K "Avenue") "name" := by obtain ⟨h, X, G, c⟩ := T; exact He.noat_ok (fact c 38)
theorem na_Avenue_one (T : Tx K mg) : NoAttr K (He.ga K "Avenue") "one" := by obtain ⟨h, X, G, c⟩ := T; exact He.noat_ok (fact c 39)
theorem na_Avenue_other (T : Tx K mg) : NoAttr K (He.ga K "Avenue") "other" := by obtain ⟨h, X, G, c⟩ := T; exact He.noat_ok (fact c 40)
theorem na_Road_name (T : Tx K mg) : NoAttr K (He.ga K "Road") "name" := by obtain ⟨h, X, G, c⟩ := T; exact He.noat_ok (fact c 41)
theorem na_Road_one (T : Tx K mg) : NoAttr K (He.ga K "Road") "one" := by obtain ⟨h, X, G, c⟩ := T; exact He.noat_ok (fact c 42)
theorem na_Road_other (T : Tx K mg) : NoAttr K (He.ga K "Road") "other" := by obtain ⟨h, X, G, c⟩ := T; exact He.noat_ok (fact c 43)
theorem na_Road_there (T : Tx K mg) : NoAttr K (He.ga K "Road") "there" := by obtain ⟨h, X, G, c⟩ := T; exact He.noat_ok (fact c 44)
theorem na_Road_back (T : Tx K mg) : NoAttr K (He.ga K "Road") "back" := by obtain ⟨h, X, G, c⟩ := T; exact He.noat_ok (fact c 45)
theorem m_Lane_eq (T : Tx K mg) : Meth K (He.ga K "Lane") "__eq__" (He.ma K (He.ga K "Lane") "__eq__") := by obtain ⟨h, X, G, c⟩ := T; exact He.meth_ok (fact c 46)
theorem m_Lane_str (T : Tx K mg) : Meth K (He.ga K "Lane") "__str__" (He.ma K (He.ga K "Lane") "__str__") := by obtain ⟨h, X, G, c⟩ := T; exact He.meth_ok (fact c 47)
theorem m_Avenue_eq (T : Tx K mg) : Meth K (He.ga K "Avenue") "__eq__" (He.ma K (He.ga K "Avenue") "__eq__") := by obtain ⟨h, X, G, c⟩ := T; exact He.meth_ok (fact c 48)
theorem m_Avenue_str (T : Tx K mg) : Meth K (He.ga K "Avenue") "__str__" (He.ma K (He.ga K "Avenue") "__str__") := by obtain ⟨h, X, G, c⟩ := T; exact He.meth_ok (fact c 49)
theorem m_Road_eq (T : Tx K mg) : Meth K (He.ga K "Road") "__eq__" (He.ma K (He.ga K "Road") "__eq__") := by obtain ⟨h, X, G, c⟩ := T; exact He.meth_ok (fact c 50)
theorem m_Road_str (T : Tx K mg) : Meth K (He.ga K "Road") "__str__" (He.ma K (He.ga K "Road") "__str__") := by obtain ⟨h, X, G, c⟩ := T; exact He.meth_ok (fact c 51)
theorem mk_Lane (T : Tx K mg) : Mk K (He.ga K "Lane") (He.ma K (He.ga K "Lane") "__init__") := by obtain ⟨h, X, G, c⟩ := T; exact He.mkr_ok (fact c 52)
theorem mk_Avenue (T : Tx K mg) : Mk K (He.ga K "Avenue") (He.ma K (He.ga K "Avenue") "__init__") := by obtain ⟨h, X, G, c⟩ := T; exact He.mkr_ok (fact c 53)
theorem mk_Road (T : Tx K mg) : Mk K (He.ga K "Road") (He.ma K (He.ga K "Road") "__init__") := by obtain ⟨h, X, G, c⟩ := T; exact He.mkr_ok (fact c 54)
theorem pr_Lane_ends (T : Tx K mg) : PropOf K (He.ga K "Lane") "ends" (He.ma K (He.ga K "Lane") "ends") (getA K (He.ga K "Lane") "ends") := by obtain ⟨h, X, G, c⟩ := T; exact propB_ok (fact c 55)
theorem pr_Avenue_ends (T : Tx K mg) : PropOf K (He.ga K "Avenue") "ends" (He.ma K (He.ga K "Avenue") "ends") (getA K (He.ga K "Avenue") "ends") := by obtain ⟨h, X, G, c⟩ := T; exact propB_ok (fact c 56)
theorem pr_Road_ends (T : Tx K mg) : PropOf K (He.ga K "Road") "ends" (He.ma K (He.ga K "Road") "ends") (getA K (He.ga K "Road") "ends") := by obtain ⟨h, X, G, c⟩ := T; exact propB_ok (fact c 57)
theorem ci_Lane (T : Tx K mg) : ClsI K (He.ga K "Lane") := by obtain ⟨h, X, G, c⟩ := T; exact clsB_ok (fact c 58)
theorem ci_Avenue (T : Tx K mg) : ClsI K (He.ga K "Avenue") := by obtain ⟨h, X, G, c⟩ := T; exact clsB_ok (fact c 59)
theorem ci_Road (T : Tx K mg) : ClsI K (He.ga K "Road") := by obtain ⟨h, X, G, c⟩ := T; exact clsB_ok (fact c 60)
theorem k_Lane_Lane (T : Tx K mg) : PySem.W.kitOne K (.ref (He.ga K "Lane")) (.ref (He.ga K "Lane")) = some true := by obtain ⟨h, X, G, c⟩ := T; exact of_decide_eq_true (fact c 61)
theorem k_Lane_Avenue (T : Tx K mg) : PySem.W.kitOne K (.ref (He.ga K "Lane")) (.ref (He.ga K "Avenue")) = some false := by obtain ⟨h, X, G, c⟩ := T; exact of_decide_eq_true (fact c 62)
theorem k_Lane_Road (T : Tx K mg) : PySem.W.kitOne K (.ref (He.ga K "Lane")) (.ref (He.ga K "Road")) = some false := by obtain ⟨h, X, G, c⟩ := T; exact of_decide_eq_true (fact c 63)
theorem k_Avenue_Lane (T : Tx K mg) : PySem.W.kitOne K (.ref (He.ga K "Avenue")) (.ref (He.ga K "Lane")) = some false := by obtain ⟨h, X, G, c⟩ := T; exact of_decide_eq_true (fact c 64)
theorem k_Avenue_Avenue (T : Tx K mg) : PySem.W.kitOne K (.ref (He.ga K "Avenue")) (.ref (He.ga K "Avenue")) = some true := by obtain ⟨h, X, G, c⟩ := T; exact of_decide_eq_true (fact c 65)
theorem k_Avenue_Road (T : Tx K mg) : PySem.W.kitOne K (.ref (He.ga K "Avenue")) (.ref (He.ga K "Road")) = some false := by obtain ⟨h, X, G, c⟩ := T; exact of_decide_eq_true (fact c 66)
theorem k_Road_Lane (T : Tx K mg) : PySem.W.kitOne K (.ref (He.ga K "Road")) (.ref (He.ga K "Lane")) = some false := by obtain ⟨h, X, G, c⟩ := T; exact of_decide_eq_true (fact c 67)
theorem k_Road_Avenue (T : Tx K mg) : PySem.W.kitOne K (.ref (He.ga K "Road")) (.ref (He.ga K "Avenue")) = some false := by obtain ⟨h, X, G, c⟩ := T; exact of_decide_eq_true (fact c 68)
theorem k_Road_Road (T : Tx K mg) : PySem.W.kitOne K (.ref (He.ga K "Road")) (.ref (He.ga K "Road")) = some true := by obtain ⟨h, X, G, c⟩ := T; exact of_decide_eq_true (fact c 69)
theorem k_NoneType_Lane (T : Tx K mg) : PySem.W.kitOne K (.type "NoneType") (.ref (He.ga K "Lane")) = some false := by obtain ⟨h, X, G, c⟩ := T; exact of_decide_eq_true (fact c 70)
theorem k_NoneType_Avenue (T : Tx K mg) : PySem.W.kitOne K (.type "NoneType") (.ref (He.ga K "Avenue")) = some false := by obtain ⟨h, X, G, c⟩ := T; exact of_decide_eq_true (fact c 71)
theorem k_NoneType_Road (T : Tx K mg) : PySem.W.kitOne K (.type "NoneType") (.ref (He.ga K "Road")) = some false := by obtain ⟨h, X, G, c⟩ := T; exact of_decide_eq_true (fact c 72)
theorem k_bool_Lane (T : Tx K mg) : PySem.W.kitOne K (.type "bool") (.ref (He.ga K "Lane")) = some false := by obtain ⟨h, X, G, c⟩ := T; exact of_decide_eq_true (fact c 73)
theorem k_bool_Avenue (T : Tx K mg) : PySem.W.kitOne K (.type "bool") (.ref (He.ga K "Avenue")) = some false := by obtain ⟨h, X, G, c⟩ := T; exact of_decide_eq_true (fact c 74)
theorem k_bool_Road (T : Tx K mg) : PySem.W.kitOne K (.type "bool") (.ref (He.ga K "Road")) = some false := by obtain ⟨h, X, G, c⟩ := T; exact of_decide_eq_true (fact c 75)
theorem k_int_Lane (T : Tx K mg) : PySem.W.kitOne K (.type "int") (.ref (He.ga K "Lane")) = some false := by obtain ⟨h, X, G, c⟩ := T; exact of_decide_eq_true (fact c 76)
theorem k_int_Avenue (T : Tx K mg) : PySem.W.kitOne K (.type "int") (.ref (He.ga K "Avenue")) = some false := by obtain ⟨h, X, G, c⟩ := T; exact of_decide_eq_true (fact c 77)
theorem k_int_Road (T : Tx K mg) : PySem.W.kitOne K (.type "int") (.ref (He.ga K "Road")) = some false := by obtain ⟨h, X, G, c⟩ := T; exact of_decide_eq_true (fact c 78)
theorem k_str_Lane (T : Tx K mg) : PySem.W.kitOne K (.type "str") (.ref (He.ga K "Lane")) = some false := by obtain ⟨h, X, G, c⟩ := T; exact of_decide_eq_true (fact c 79)
theorem k_str_Avenue (T : Tx K mg) : PySem.W.kitOne K (.type "str") (.ref (He.ga K "Avenue")) = some false := by obtain ⟨h, X, G, c⟩ := T; exact of_decide_eq_true (fact c 80)
theorem k_str_Road (T : Tx K mg) : PySem.W.kitOne K (.type "str") (.ref (He.ga K "Road")) = some false := by obtain ⟨h, X, G, c⟩ := T; exact of_decide_eq_true (fact c 81)
theorem k_list_Lane (T : Tx K mg) : PySem.W.kitOne K (.type "list") (.ref (He.ga K "Lane")) = some false := by obtain ⟨h, X, G, c⟩ := T; exact of_decide_eq_true (fact c 82)
theorem k_list_Avenue (T : Tx K mg) : PySem.W.kitOne K (.type "list") (.ref (He.ga K "Avenue")) = some false := by obtain ⟨h, X, G, c⟩ := T; exact of_decide_eq_true (fact c 83)
theorem k_list_Road (T : Tx K mg) : PySem.W.kitOne K (.type "list") (.ref (He.ga K "Road")) = some false := by obtain ⟨h, X, G, c⟩ := T; exact of_decide_eq_true (fact c 84)
theorem k_tuple_Lane (T : Tx K mg) : PySem.W.kitOne K (.type "tuple") (.ref (He.ga K "Lane")) = some false := by obtain ⟨h, X, G, c⟩ := T; exact of_decide_eq_true (fact c 85)
theorem k_tuple_Avenue (T : Tx K mg) : PySem.W.kitOne K (.type "tuple") (.ref (He.ga K "Avenue")) = some false := by obtain ⟨h, X, G, c⟩ := T; exact of_decide_eq_true (fact c 86)
theorem k_tuple_Road (T : Tx K mg) : PySem.W.kitOne K (.type "tuple") (.ref (He.ga K "Road")) = some false := by obtain ⟨h, X, G, c⟩ := T; exact of_decide_eq_true (fact c 87)
theorem k_dict_Lane (T : Tx K mg) : PySem.W.kitOne K (.type "dict") (.ref (He.ga K "Lane")) = some false := by obtain ⟨h, X, G, c⟩ := T; exact of_decide_eq_true (fact c 88)
theorem k_dict_Avenue (T : Tx K mg) : PySem.W.kitOne K (.type "dict") (.ref (He.ga K "Avenue")) = some false := by obtain ⟨h, X, G, c⟩ := T; exact of_decide_eq_true (fact c 89)
theorem k_dict_Road (T : Tx K mg) : PySem.W.kitOne K (.type "dict") (.ref (He.ga K "Road")) = some false := by obtain ⟨h, X, G, c⟩ := T; exact of_decide_eq_true (fact c 90)
theorem nf_Lane_Lane (T : Tx K mg) : PySem.W.notFirst K (He.ga K "Lane") (.ref (He.ga K "Lane")) = true := by obtain ⟨h, X, G, c⟩ := T; exact fact c 91
theorem nf_Lane_Avenue (T : Tx K mg) : PySem.W.notFirst K (He.ga K "Lane") (.ref (He.ga K "Avenue")) = true := by obtain ⟨h, X, G, c⟩ := T; exact fact c 92
theorem nf_Lane_Road (T : Tx K mg) : PySem.W.notFirst K (He.ga K "Lane") (.ref (He.ga K "Road")) = true := by obtain ⟨h, X, G, c⟩ := T; exact fact c 93
theorem nf_Avenue_Lane (T : Tx K mg) : PySem.W.notFirst K (He.ga K "Avenue") (.ref (He.ga K "Lane")) = true := by obtain ⟨h, X, G, c⟩ := T; exact fact c 94
theorem nf_Avenue_Avenue (T : Tx K mg) : PySem.W.notFirst K (He.ga K "Avenue") (.ref (He.ga K "Avenue")) = true := by obtain ⟨h, X, G, c⟩ := T; exact fact c 95
theorem nf_Avenue_Road (T : Tx K mg) : PySem.W.notFirst K (He.ga K "Avenue") (.ref (He.ga K "Road")) = true := by obtain ⟨h, X, G, c⟩ := T; exact fact c 96
theorem nf_Road_Lane (T : Tx K mg) : PySem.W.notFirst K (He.ga K "Road") (.ref (He.ga K "Lane")) = true := by obtain ⟨h, X, G, c⟩ := T; exact fact c 97
theorem nf_Road_Avenue (T : Tx K mg) : PySem.W.notFirst K (He.ga K "Road") (.ref (He.ga K "Avenue")) = true := by obtain ⟨h, X, G, c⟩ := T; exact fact c 98
theorem nf_Road_Road (T : Tx K mg) : PySem.W.notFirst K (He.ga K "Road") (.ref (He.ga K "Road")) = true := by obtain ⟨h, X, G, c⟩ := T; exact fact c 99
theorem nf_Lane_NoneType (T : Tx K mg) : PySem.W.notFirst K (He.ga K "Lane") (.type "NoneType") = true := by obtain ⟨h, X, G, c⟩ := T; exact fact c 100
theorem nf_Lane_bool (T : Tx K mg) : PySem.W.notFirst K (He.ga K "Lane") (.type "bool") = true := by obtain ⟨h, X, G, c⟩ := T; exact fact c 101
theorem nf_Lane_int (T : Tx K mg) : PySem.W.notFirst K (He.ga K "Lane") (.type "int") = true := by obtain ⟨h, X, G, c⟩ := T; exact fact c 102
theorem nf_Lane_str (T : Tx K mg) : PySem.W.notFirst K (He.ga K "Lane") (.type "str") = true := by obtain ⟨h, X, G, c⟩ := T; exact fact c 103
theorem nf_Lane_list (T : Tx K mg) : PySem.W.notFirst K (He.ga K "Lane") (.type "list") = true := by obtain ⟨h, X, G, c⟩ := T; exact fact c 104
theorem nf_Lane_tuple (T : Tx K mg) : PySem.W.notFirst K (He.ga K "Lane") (.type "tuple") = true := by obtain ⟨h, X, G, c⟩ := T; exact fact c 105
theorem nf_Lane_dict (T : Tx K mg) : PySem.W.notFirst K (He.ga K "Lane") (.type "dict") = true := by obtain ⟨h, X, G, c⟩ := T; exact fact c 106
theorem nf_Avenue_NoneType (T : Tx K mg) : PySem.W.notFirst K (He.ga K "Avenue") (.type "NoneType") = true := by obtain ⟨h, X, G, c⟩ := T; exact fact c 107
theorem nf_Avenue_bool (T : Tx K mg) : PySem.W.notFirst K (He.ga K "Avenue") (.type "bool") = true := by obtain ⟨h, X, G, c⟩ := T; exact fact c 108
theorem nf_Avenue_int (T : Tx K mg) : PySem.W.notFirst K (He.ga K "Avenue") (.type "int") = true := by obtain ⟨h, X, G, c⟩ := T; exact fact c 109
theorem nf_Avenue_str (T : Tx K mg) : PySem.W.notFirst K (He.ga K "Avenue") (.type "str") = true := by obtain ⟨h, X, G, c⟩ := T; exact fact c 110
theorem nf_Avenue_list (T : Tx K mg) : PySem.W.notFirst K (He.ga K "Avenue") (.type "list") = true := by obtain ⟨h, X, G, c⟩ := T; exact fact c 111
theorem nf_Avenue_tuple (T : Tx K mg) : PySem.W.notFirst K (He.ga K "Avenue") (.type "tuple") = true := by obtain ⟨h, X, G, c⟩ := T; exact fact c 112
theorem nf_Avenue_dict (T : Tx K mg) : PySem.W.notFirst K (He.ga K "Avenue") (.type "dict") = true := by obtain ⟨h, X, G, c⟩ := T; exact fact c 113
theorem nf_Road_NoneType (T : Tx K mg) : PySem.W.notFirst K (He.ga K "Road") (.type "NoneType") = true := by obtain ⟨h, X, G, c⟩ := T; exact fact c 114
theorem nf_Road_bool (T : Tx K mg) : PySem.W.notFirst K (He.ga K "Road") (.type "bool") = true := by obtain ⟨h, X, G, c⟩ := T; exact fact c 115
theorem nf_Road_int (T : Tx K mg) : PySem.W.notFirst K (He.ga K "Road") (.type "int") = true := by obtain ⟨h, X, G, c⟩ := T; exact fact c 116
theorem nf_Road_str (T : Tx K mg) : PySem.W.notFirst K (He.ga K "Road") (.type "str") = true := by obtain ⟨h, X, G, c⟩ := T; exact fact c 117
theorem nf_Road_list (T : Tx K mg) : PySem.W.notFirst K (He.ga K "Road") (.type "list") = true := by obtain ⟨h, X, G, c⟩ := T; exact fact c 118
theorem nf_Road_tuple (T : Tx K mg) : PySem.W.notFirst K (He.ga K "Road") (.type "tuple") = true := by obtain ⟨h, X, G, c⟩ := T; exact fact c 119
theorem nf_Road_dict (T : Tx K mg) : PySem.W.notFirst K (He.ga K "Road") (.type "dict") = true := by obtain ⟨h, X, G, c⟩ := T; exact fact c 120
abbrev d_is_name : Hx.Dx := ⟨fun K => He.ga K "is_name", "is_name", "is_name", s_is_name, [], []⟩
theorem f_is_name (T : Tx K mg) : ∃ fd, Fd K d_is_name fd := by obtain ⟨h, X, G, c⟩ := T; exact defn c 0
abbrev d_is_integer : Hx.Dx := ⟨fun K => He.ga K "is_integer", "is_integer", "is_integer", s_is_integer, [], []⟩
theorem f_is_integer (T : Tx K mg) : ∃ fd, Fd K d_is_integer fd := by obtain ⟨h, X, G, c⟩ := T; exact defn c 1
abbrev d_is_price : Hx.Dx := ⟨fun K => He.ga K "is_price", "is_price", "is_price", s_is_price, [], []⟩
theorem f_is_price (T : Tx K mg) : ∃ fd, Fd K d_is_price fd := by obtain ⟨h, X, G, c⟩ := T; exact defn c 2
abbrev d_check_street : Hx.Dx := ⟨fun K => He.ga K "check_street", "check_street", "check_street", s_check_street, [], []⟩
theorem f_check_street (T : Tx K mg) : ∃ fd, Fd K d_check_street fd := by obtain ⟨h, X, G, c⟩ := T; exact defn c 3
abbrev d_check_prices : Hx.Dx := ⟨fun K => He.ga K "check_prices", "check_prices", "check_prices", s_check_prices, [], []⟩
theorem f_check_prices (T : Tx K mg) : ∃ fd, Fd K d_check_prices fd := by obtain ⟨h, X, G, c⟩ := T; exact defn c 4
abbrev d__law_pen : Hx.Dx := ⟨fun K => He.ga K "_law_pen", "_law_pen", "_law_pen", s__law_pen, [], []⟩
theorem f__law_pen (T : Tx K mg) : ∃ fd, Fd K d__law_pen fd := by obtain ⟨h, X, G, c⟩ := T; exact defn c 5
abbrev d__law_draw : Hx.Dx := ⟨fun K => He.ga K "_law_draw", "_law_draw", "_law_draw", s__law_draw, [], []⟩
theorem f__law_draw (T : Tx K mg) : ∃ fd, Fd K d__law_draw fd := by obtain ⟨h, X, G, c⟩ := T; exact defn c 6
abbrev d__law_pick : Hx.Dx := ⟨fun K => He.ga K "_law_pick", "_law_pick", "_law_pick", s__law_pick, [], []⟩
theorem f__law_pick (T : Tx K mg) : ∃ fd, Fd K d__law_pick fd := by obtain ⟨h, X, G, c⟩ := T; exact defn c 7
abbrev d__law_plan : Hx.Dx := ⟨fun K => He.ga K "_law_plan", "_law_plan", "_law_plan", s__law_plan, [], []⟩
theorem f__law_plan (T : Tx K mg) : ∃ fd, Fd K d__law_plan fd := by obtain ⟨h, X, G, c⟩ := T; exact defn c 8
abbrev d__law_street : Hx.Dx := ⟨fun K => He.ga K "_law_street", "_law_street", "_law_street", s__law_street, [], []⟩
theorem f__law_street (T : Tx K mg) : ∃ fd, Fd K d__law_street fd := by obtain ⟨h, X, G, c⟩ := T; exact defn c 9
abbrev d__law_near : Hx.Dx := ⟨fun K => He.ga K "_law_near", "_law_near", "_law_near", s__law_near, [], []⟩
theorem f__law_near (T : Tx K mg) : ∃ fd, Fd K d__law_near fd := by obtain ⟨h, X, G, c⟩ := T; exact defn c 10
abbrev d__law_face : Hx.Dx := ⟨fun K => He.ga K "_law_face", "_law_face", "_law_face", s__law_face, [], []⟩
theorem f__law_face (T : Tx K mg) : ∃ fd, Fd K d__law_face fd := by obtain ⟨h, X, G, c⟩ := T; exact defn c 11
abbrev d_law : Hx.Dx := ⟨fun K => He.ga K "law", "law", "law", s_law, [], []⟩
theorem f_law (T : Tx K mg) : ∃ fd, Fd K d_law fd := by obtain ⟨h, X, G, c⟩ := T; exact defn c 12
abbrev d_Lane_init : Hx.Dx := ⟨fun K => He.ma K (He.ga K "Lane") "__init__", "__init__", "Lane.__init__", s_Lane_init, [], []⟩
theorem f_Lane_init (T : Tx K mg) : ∃ fd, Fd K d_Lane_init fd := by obtain ⟨h, X, G, c⟩ := T; exact defn c 13
abbrev d_Lane_eq : Hx.Dx := ⟨fun K => He.ma K (He.ga K "Lane") "__eq__", "__eq__", "Lane.__eq__", s_Lane_eq, [], []⟩
theorem f_Lane_eq (T : Tx K mg) : ∃ fd, Fd K d_Lane_eq fd := by obtain ⟨h, X, G, c⟩ := T; exact defn c 14
abbrev d_Lane_str : Hx.Dx := ⟨fun K => He.ma K (He.ga K "Lane") "__str__", "__str__", "Lane.__str__", s_Lane_str, [], []⟩
theorem f_Lane_str (T : Tx K mg) : ∃ fd, Fd K d_Lane_str fd := by obtain ⟨h, X, G, c⟩ := T; exact defn c 15
abbrev d_Avenue_init : Hx.Dx := ⟨fun K => He.ma K (He.ga K "Avenue") "__init__", "__init__", "Avenue.__init__", s_Avenue_init, [], []⟩
theorem f_Avenue_init (T : Tx K mg) : ∃ fd, Fd K d_Avenue_init fd := by obtain ⟨h, X, G, c⟩ := T; exact defn c 16
abbrev d_Avenue_eq : Hx.Dx := ⟨fun K => He.ma K (He.ga K "Avenue") "__eq__", "__eq__", "Avenue.__eq__", s_Avenue_eq, [], []⟩
theorem f_Avenue_eq (T : Tx K mg) : ∃ fd, Fd K d_Avenue_eq fd := by obtain ⟨h, X, G, c⟩ := T; exact defn c 17
abbrev d_Avenue_str : Hx.Dx := ⟨fun K => He.ma K (He.ga K "Avenue") "__str__", "__str__", "Avenue.__str__", s_Avenue_str, [], []⟩
theorem f_Avenue_str (T : Tx K mg) : ∃ fd, Fd K d_Avenue_str fd := by obtain ⟨h, X, G, c⟩ := T; exact defn c 18
abbrev d_Road_init : Hx.Dx := ⟨fun K => He.ma K (He.ga K "Road") "__init__", "__init__", "Road.__init__", s_Road_init, [.int (0), .int (0)], []⟩
theorem f_Road_init (T : Tx K mg) : ∃ fd, Fd K d_Road_init fd := by obtain ⟨h, X, G, c⟩ := T; exact defn c 19
abbrev d_Road_eq : Hx.Dx := ⟨fun K => He.ma K (He.ga K "Road") "__eq__", "__eq__", "Road.__eq__", s_Road_eq, [], []⟩
theorem f_Road_eq (T : Tx K mg) : ∃ fd, Fd K d_Road_eq fd := by obtain ⟨h, X, G, c⟩ := T; exact defn c 20
abbrev d_Road_str : Hx.Dx := ⟨fun K => He.ma K (He.ga K "Road") "__str__", "__str__", "Road.__str__", s_Road_str, [], []⟩
theorem f_Road_str (T : Tx K mg) : ∃ fd, Fd K d_Road_str fd := by obtain ⟨h, X, G, c⟩ := T; exact defn c 21
abbrev d_Lane_ends : Hx.Dx := ⟨fun K => getA K (He.ga K "Lane") "ends", "ends", "Lane.ends", s_Lane_ends, [], []⟩
theorem f_Lane_ends (T : Tx K mg) : ∃ fd, Fd K d_Lane_ends fd := by obtain ⟨h, X, G, c⟩ := T; exact defn c 22
abbrev d_Avenue_ends : Hx.Dx := ⟨fun K => getA K (He.ga K "Avenue") "ends", "ends", "Avenue.ends", s_Avenue_ends, [], []⟩
theorem f_Avenue_ends (T : Tx K mg) : ∃ fd, Fd K d_Avenue_ends fd := by obtain ⟨h, X, G, c⟩ := T; exact defn c 23
abbrev d_Road_ends : Hx.Dx := ⟨fun K => getA K (He.ga K "Road") "ends", "ends", "Road.ends", s_Road_ends, [], []⟩
theorem f_Road_ends (T : Tx K mg) : ∃ fd, Fd K d_Road_ends fd := by obtain ⟨h, X, G, c⟩ := T; exact defn c 24
end
end K8
namespace K8
open PySem PySem.Spec PyProof.Rows L2 Hx Gx
/-- a def's promise, with how it is called -/
def Prom (P : Program) (w : World) (K : PySem.W.Frag) (mg : Str → Option Value) (base : Heap) (k : Nat) (d : Dx) (ps : List Str) (sp : Sp) : Prop :=
  ∃ fd, Fd K d fd ∧ FnOk P w K mg base CX0 k (d.adr K) fd ps sp ∧ Binds K fd ps []
/-- all that was tracked is as it was, but for p -/
def But (p : Addr) (H H' : Hp) : Prop := ∀ b o, b ≠ p → H b = some o → H' b = some o
/-- a pen: its cells, the next one's place (at most n), the rest of a great one -/
def PenAt (H : Hp) (p : Addr) (n : Nat) : Prop :=
  ∃ (c : Addr) (ns : List Int) (a r : Int), H p = some (.lst [.ref c, .int a, .int r]) ∧ c ≠ p ∧ H c = some (.lst (ns.map V.int)) ∧ ns.length ≤ 63 ∧ 0 ≤ a ∧ a ≤ (n : Int) ∧ 0 ≤ r
theorem int_list {xs : List V} {ns : List Int} (h : xs = ns.map V.int) (n : Nat) : xs.take n = (ns.take n).map V.int := by rw [h, List.map_take]
theorem cut_ints (ns : List Int) (hl : ns.length ≤ 63) (lo hi : Option Int) : ∃ ms : List Int, cutV (ns.map V.int) lo hi = ms.map V.int ∧ ms.length ≤ 63 := by
  unfold cutV
  refine ⟨_, by rw [← List.map_drop, ← List.map_take], ?_⟩
  rw [List.length_take, List.length_drop]
  omega
theorem dp_ints (K : PySem.W.Frag) (H : Hp) : ∀ ns : List Int, DpAll K H (ns.map V.int) (ns.map PyData.int)
  | [] => .nil
  | n :: ns => .cons (.int n) (dp_ints K H ns)
theorem shaped_ints : ∀ ns : List Int, SeqAt.shaped (.list (ns.map PyData.int)) = true := by
  intro ns
  have h1 : ∀ ns : List Int, PyData.canLayAll0 (ns.map PyData.int) = true := fun ns => by
    induction ns with
    | nil => rfl
    | cons n ns ih =>
      rw [List.map_cons]
      unfold PyData.canLayAll0
      rw [ih]
      rfl
  have h2 : ∀ ns : List Int, PyData.depthAll (ns.map PyData.int) = 0 := fun ns => by
    induction ns with
    | nil => rfl
    | cons n ns ih =>
      rw [List.map_cons]
      unfold PyData.depthAll
      rw [ih]
      rfl
  unfold SeqAt.shaped
  have h3 : PyData.depth (.list (ns.map PyData.int)) = 1 := by
    show PyData.depthAll (ns.map PyData.int) + 1 = 1
    rw [h2]
  have h4 : PyData.canLay0 (.list (ns.map PyData.int)) = true := h1 ns
  rw [h3, h4]
  rfl
theorem eqv_ints : ∀ ns : List Int, PyData.eqv (.list (ns.map PyData.int)) (.list []) = decide (ns = []) := by
  intro ns
  cases ns with
  | nil => rfl
  | cons n ns => rfl
/-- an item of a list of ints -/
theorem at_int {ns : List Int} {j : Int} (h0 : 0 ≤ j) (h1 : j < (ns.map V.int).length) : ∃ x, atI (ns.map V.int) j = some (.int x) := by
  obtain ⟨i, rfl⟩ : ∃ i : Nat, j = i := ⟨j.toNat, by omega⟩
  have hi : i < ns.length := by
    rw [List.length_map] at h1
    omega
  exact ⟨ns[i], atI_nat (by rw [List.getElem?_map, List.getElem?_eq_getElem hi]; rfl)⟩
theorem great_nn {cell : Int} (h : 10 ^ Int.toNat 18 ≤ if cell < 0 then -cell else cell) : 0 ≤ 2 * ((if cell < 0 then -cell else cell) - 10 ^ Int.toNat 18) + (if decide (cell < 0) = true then 1 else 0 : Int) := by
  have h2 : (0 : Int) ≤ (if decide (cell < 0) = true then 1 else 0 : Int) := by split <;> decide
  omega
theorem mix_ok {z a c1 c2 c3 : Int} (h1 : 0 ≤ z) (h2 : z < 2147483629) (h3 : 0 ≤ a) (h4 : a ≤ 100000) (h5 : 0 ≤ c1) (h6 : c1 ≤ 100000) (h7 : 0 ≤ c2) (h8 : c2 ≤ 100000) (h9 : 0 ≤ c3) (h10 : c3 ≤ 100000) :
    (z * (2 * a + c1) + c2 * a * a + c3).natAbs < 2 ^ 64 := by
  have q1 : z * (2 * a + c1) ≤ 2147483629 * 300000 := Int.mul_le_mul (by omega) (by omega) (by omega) (by decide)
  have q0 : 0 ≤ z * (2 * a + c1) := Int.mul_nonneg h1 (by omega)
  have p1 : c2 * a ≤ 100000 * 100000 := Int.mul_le_mul h8 h4 h3 (by decide)
  have p0 : 0 ≤ c2 * a := Int.mul_nonneg h7 h3
  have r1 : c2 * a * a ≤ (100000 * 100000) * 100000 := Int.mul_le_mul p1 h4 h3 (by decide)
  have r0 : 0 ≤ c2 * a * a := Int.mul_nonneg p0 h3
  omega
theorem lt200 {m : Int} (h0 : 0 < m) (h : m < 10 ^ 60) : m.natAbs < 2 ^ 200 := by
  have e : (10 : Int) ^ 60 < 2 ^ 200 := by decide
  omega
section
variable {P : Program} {w : World} {K : PySem.W.Frag} {mg : Str → Option Value} {base : Heap}
def spPen (K : PySem.W.Frag) : Sp := fun vs H Q _ => ∃ (a : Addr) (ns : List Int), vs = [.ref a] ∧ SqL K H a (ns.map V.int) ∧ ns.length ≤ 63 ∧ ∀ (H' : Hp) (p : Addr), Same H H' → H p = none → PenAt H' p 0 → Q (.ref p) H'
theorem sc_pen : FnScope ["_law_script"] ["_law_script"] (defScope s__law_pen) := ⟨rfl, rfl, rfl, by decide +kernel, rfl, by decide +kernel, by decide +kernel⟩
theorem p_pen (T : Tx K mg) : Prom P w K mg base 1 d__law_pen ["_law_script"] (spPen K) := by
  obtain ⟨fd, F⟩ := f__law_pen T
  refine ⟨fd, F, F.ok sc_pen (fun vs H Q E h => ?_) (fun cdv A outer s H vs Q E hr h => ?_), F.bindsN fun _ _ _ _ _ _ us hl => match us, hl with | [_], _ => rfl⟩
  · obtain ⟨a, ns, rfl, _⟩ := h
    rfl
  · obtain ⟨a, ns, rfl, hs, hl, k⟩ := h
    refine ⟨_, pss_one (ps_ret (pe_lst (pa_cons (pe_callTy call_list_of (by rfl) (n_list T) (by decide +kernel) (pa_cons (pe_slice sl_list (pv 0) po_none (po_some pe_int)) pa_nil)) (pa_cons pe_int (pa_cons pe_int pa_nil))))), ?_⟩
    refine ⟨_, rfl, ?_⟩
    refine ⟨63, rfl, a, _, rfl, hs, fun c hc => ⟨c, _, rfl, .inl (SqL.of upd_same), fun l hl2 => ⟨(by show 3 ≤ sizeLine; decide), fun p hp => ?_⟩⟩⟩
    have hcl : c ≠ l := ne_of_none upd_same hl2
    have hcp : c ≠ p := ne_of_none (by rw [upd_ne hcl]; exact upd_same) hp
    have hlp : l ≠ p := ne_of_none upd_same hp
    have h1 : H p = none := by
      rw [upd_ne hlp.symm, upd_ne hcp.symm] at hp
      exact hp
    obtain ⟨ms, em, hm⟩ := cut_ints ns hl none (some 63)
    refine k _ p (fun b o e => ?_) h1 ⟨l, ms, 0, 0, upd_same, hlp, by rw [upd_ne hlp, upd_same, ← em], hm, Int.le_refl 0, Int.le_refl 0, Int.le_refl 0⟩
    have b1 := ne_of_none e hc
    have b2 : b ≠ l := ne_of_none (by rw [upd_ne b1]; exact e) hl2
    have b3 : b ≠ p := ne_of_none e h1
    rw [upd_ne b3, upd_ne b2, upd_ne b1]
    exact e
theorem hu64 {k : Nat} {A : Around} (hr : Room k A) : A.units + 64 < cLine := by have := hr.un; omega
/-- what a draw promises: a number below many; the pen has gone on by one -/
def spDraw : Sp := fun vs H Q _ => ∃ (p : Addr) (n : Nat) (m : Int), vs = [.ref p, .int m] ∧ PenAt H p n ∧ n ≤ 100000 ∧ 0 < m ∧ m < 10 ^ 60 ∧
  ∀ (H' : Hp) (d : Int), But p H H' → PenAt H' p (n + 1) → 0 ≤ d → d < m → Q (.int d) H'
theorem sc_draw : FnScope ["_law_pen_here", "_law_many", "_law_digit", "_law_at", "_law_cell", "_law_great", "_law_mixed"] ["_law_pen_here", "_law_many"] (defScope s__law_draw) := ⟨rfl, rfl, rfl, by decide +kernel, rfl, by decide +kernel, by decide +kernel⟩
theorem p_draw (T : Tx K mg) : Prom P w K mg base 1 d__law_draw ["_law_pen_here", "_law_many"] spDraw := by
  obtain ⟨fd, F⟩ := f__law_draw T
  refine ⟨fd, F, F.ok sc_draw (fun vs H Q E h => ?_) (fun cdv A outer s H vs Q E hr h => ?_), F.bindsN fun _ _ _ _ _ _ us hl => match us, hl with | [_, _], _ => rfl⟩
  · obtain ⟨p, n, m, rfl, _⟩ := h
    rfl
  · obtain ⟨p, n, m, rfl, ⟨c, ns, a, r, hp, hcp, hc, hns, ha0, han, hr0⟩, hn, hm, hm2, k⟩ := h
    refine ⟨_, (pss_cons (ps_if (pt_cmpR op_gt (pe_ix ix_list (pv 0) pe_int (fun _ _ => rfl)) pe_int (nomark _)) (pss_cons (ps_set (i := 2) sc_draw.nd rfl (Or.inl rfl) (pe_op op_mod (pe_callTy call_int1 (by rfl) (n_int T) (by decide +kernel) (pa_cons (pe_ix ix_list (pv 0) pe_int (fun _ _ => rfl)) pa_nil)) (pv 1)))
      (pss_cons (ps_asg (pe_op op_fdivW (pe_callTy call_int1 (by rfl) (n_int T) (by decide +kernel) (pa_cons (pe_ix ix_list (pv 0) pe_int (fun _ _ => rfl)) pa_nil)) (pv 1)) (pg_sub (pv 0) pe_int set_list))
      (pss_one (ps_ret (pv 2))))) pss_nil)
      (pss_cons (ps_set (i := 3) sc_draw.nd rfl (Or.inl rfl) (pe_ix ix_list (pv 0) pe_int (fun _ _ => rfl)))
      (pss_cons (ps_asg (pe_op op_add (pv 3) pe_int) (pg_sub (pv 0) pe_int set_list))
      (pss_cons (ps_set (i := 4) sc_draw.nd rfl (Or.inl rfl) (pe_op op_add (pe_op op_mul pe_int (pv 3)) pe_int))
      (pss_cons (ps_if (pt_cmpR (op_neD (hu64 hr)) (pe_ix ix_list (pv 0) pe_int (fun _ _ => rfl)) (pe_lst pa_nil) (nomark _)) (pss_one (ps_set (i := 4) sc_draw.nd rfl (Or.inl rfl) (pe_ix ix_list (pe_ix ix_list (pv 0) pe_int (fun _ _ => rfl)) (pe_op op_mod (pe_callTy call_int1 (by rfl) (n_int T) (by decide +kernel) (pa_cons (pv 3) pa_nil)) (pe_callB call_len_seq (by rfl) (n_len T) (by decide +kernel) (pa_cons (pe_ix ix_list (pv 0) pe_int (fun _ _ => rfl)) pa_nil))) (fun _ _ => rfl)))) pss_nil)
      (pss_cons (ps_if (PW.pt (pw_and (pt_cmpR op_lt (pv 3) (pe_callB call_len_seq (by rfl) (n_len T) (by decide +kernel) (pa_cons (pe_ix ix_list (pv 0) pe_int (fun _ _ => rfl)) pa_nil)) (nomark _)) (pw_and1 (pt_cmpR op_ge (pe_callB call_abs (by rfl) (n_abs T) (by decide +kernel) (pa_cons (pv 4) pa_nil)) (pe_op op_pow pe_int pe_int) (nomark _))))) (pss_cons (ps_set (i := 5) sc_draw.nd rfl (Or.inl rfl) (pe_op op_add (pe_op op_mul pe_int (pe_op op_sub (pe_callB call_abs (by rfl) (n_abs T) (by decide +kernel) (pa_cons (pv 4) pa_nil)) (pe_op op_pow pe_int pe_int))) (pe_callTy call_int1 (by rfl) (n_int T) (by decide +kernel) (pa_cons (pe_cmpR op_lt (pv 4) pe_int (nomark _)) pa_nil))))
      (pss_cons (ps_asg (pe_op op_fdivW (pe_callTy call_int1 (by rfl) (n_int T) (by decide +kernel) (pa_cons (pv 5) pa_nil)) (pv 1)) (pg_sub (pv 0) pe_int set_list))
      (pss_one (ps_ret (pe_op op_mod (pe_callTy call_int1 (by rfl) (n_int T) (by decide +kernel) (pa_cons (pv 5) pa_nil)) (pv 1)))))) pss_nil)
      (pss_cons (ps_set (i := 6) sc_draw.nd rfl (Or.inl rfl) (pe_op op_mod (pe_callTy call_int1 (by rfl) (n_int T) (by decide +kernel) (pa_cons (pe_op op_pow (pe_op op_add (pe_op op_add (pe_op op_mod (pe_callTy call_int1 (by rfl) (n_int T) (by decide +kernel) (pa_cons (pv 4) pa_nil)) pe_int) (pe_op op_mul pe_int (pv 3))) pe_int) pe_int) pa_nil)) pe_int))
      (pss_cons (ps_set (i := 6) sc_draw.nd rfl (Or.inl rfl) (pe_op op_mod (pe_callTy call_int1 (by rfl) (n_int T) (by decide +kernel) (pa_cons (pe_op op_pow (pe_op op_add (pe_op op_add (pe_op op_mul (pv 6) (pe_op op_add (pe_op op_mul pe_int (pv 3)) pe_int)) (pe_op op_mul (pe_op op_mul pe_int (pv 3)) (pv 3))) pe_int) pe_int) pa_nil)) pe_int))
      (pss_one (ps_ret (pe_op op_mod (pe_callTy call_int1 (by rfl) (n_int T) (by decide +kernel) (pa_cons (pe_op op_fdivW (pv 6) pe_int) pa_nil)) (pv 1)))))))))))), ?_⟩
    -- pen[2] > 0
    refine ⟨_, rfl, p, _, 2, _, rfl, rfl, SqL.of hp, atI_nat (j := 2) rfl, _, _, rfl, rfl, _, rfl, ?_⟩
    refine ite2 (fun h => ?_) (fun h => ?_)
    · have hr : 0 < r := of_decide_eq_true h
      have b1 := Int.emod_nonneg r (by omega : m ≠ 0)
      have b2 := Int.emod_lt_of_pos r hm
      refine ⟨_, rfl, p, _, 2, _, rfl, rfl, SqL.of hp, atI_nat (j := 2) rfl, .inl ⟨_, rfl, _, rfl, _, _, rfl, rfl, hm, ?_⟩⟩
      refine ⟨_, rfl, p, _, 2, _, rfl, rfl, SqL.of hp, atI_nat (j := 2) rfl, .inl ⟨_, rfl, _, rfl, _, _, rfl, rfl, wide_div hm (lt200 hm hm2) (by decide) (by decide), ?_⟩⟩
      refine ⟨_, rfl, p, _, 2, 2, rfl, rfl, hp, rfl, ?_⟩
      refine ⟨_, rfl, ?_⟩
      refine k _ _ (fun b o e1 e2 => by rw [upd_ne e1]; exact e2) ⟨c, ns, a, r / m, upd_same, hcp, by rw [upd_ne hcp]; exact hc, hns, ha0, by omega, Int.ediv_nonneg hr0 (by omega)⟩ b1 b2
    · -- at = pen[1]; pen[1] = at + 1; cell = ..
      refine ⟨_, rfl, p, _, 1, _, rfl, rfl, SqL.of hp, atI_nat (j := 1) rfl, ?_⟩
      refine ⟨_, rfl, _, _, rfl, rfl, _, rfl, p, _, 1, 1, rfl, rfl, hp, rfl, ?_⟩
      refine ⟨_, rfl, _, _, rfl, rfl, .inl ⟨by decide, by decide⟩, _, _, rfl, rfl, ?_⟩
      have hp1 : (upd H p (.lst ([V.ref c, .int a, .int r].set 1 (.int (a + 1))))) p = some (.lst [.ref c, .int (a + 1), .int r]) := upd_same
      have hc1 : (upd H p (.lst ([V.ref c, .int a, .int r].set 1 (.int (a + 1))))) c = some (.lst (ns.map V.int)) := by rw [upd_ne hcp]; exact hc
      have but1 : But p H (upd H p (.lst ([V.ref c, .int a, .int r].set 1 (.int (a + 1))))) := fun b o e1 e2 => by rw [upd_ne e1]; exact e2
      generalize upd H p (.lst ([V.ref c, .int a, .int r].set 1 (.int (a + 1)))) = H1 at hp1 hc1 but1
      -- pen[0] != []
      refine ⟨_, rfl, p, _, 0, _, rfl, rfl, SqL.of hp1, atI_nat (j := 0) rfl, ⟨by decide, fun l hl => ?_⟩⟩
      have hpl : p ≠ l := ne_of_none hp1 hl
      have hcl : c ≠ l := ne_of_none hc1 hl
      have hp2 : (upd H1 l (.lst [])) p = some (.lst [.ref c, .int (a + 1), .int r]) := by rw [upd_ne hpl]; exact hp1
      have hc2 : (upd H1 l (.lst [])) c = some (.lst (ns.map V.int)) := by rw [upd_ne hcl]; exact hc1
      have but2 : But p H (upd H1 l (.lst [])) := fun b o e1 e2 => by rw [upd_ne (ne_of_none (but1 b o e1 e2) hl)]; exact but1 b o e1 e2
      have hl2 : (upd H1 l (.lst [])) l = some (.lst []) := upd_same
      refine ⟨.list (ns.map .int), .list [], .lst (SqL.of hc2) (dp_ints K _ ns), .lst (SqL.of hl2) .nil, shaped_ints ns, by decide, _, rfl, ?_⟩
      generalize upd H1 l (.lst []) = H2 at hp2 hc2 but2 hl2
      rw [eqv_ints]
      refine ite2 (fun hne => ?_) (fun hne => ?_)
      · have hn0 : 0 < (ns.map V.int).length := by
          cases ns with
          | nil => cases hne
          | cons x xs => exact Nat.succ_pos _
        have c1 := Int.emod_nonneg a (by omega : ((ns.map V.int).length : Int) ≠ 0)
        have c2 := Int.emod_lt_of_pos a (by omega : 0 < ((ns.map V.int).length : Int))
        obtain ⟨x, hx⟩ := at_int c1 c2
        refine ⟨_, rfl, p, _, 0, _, rfl, rfl, SqL.of hp2, atI_nat (j := 0) rfl, _, rfl, .inl ⟨_, rfl, _, rfl, p, _, 0, _, rfl, rfl, SqL.of hp2, atI_nat (j := 0) rfl, c, _, rfl, .inl (SqL.of hc2), ?_⟩⟩
        refine ⟨_, _, rfl, rfl, (by omega), c, _, _, _, rfl, rfl, SqL.of hc2, hx, ?_⟩
        generalize x = cell
        refine ⟨_, rfl, _, rfl, p, _, 0, _, rfl, rfl, SqL.of hp2, atI_nat (j := 0) rfl, c, _, rfl, .inl (SqL.of hc2), _, _, rfl, rfl, _, rfl, ?_⟩
        refine ite2 (fun hA => ?_) (fun hA => ?_)
        · refine ⟨_, rfl, _, rfl, _, _, rfl, rfl, ⟨by decide, by decide, by decide⟩, _, _, rfl, rfl, _, rfl, ?_⟩
          refine ite2 (fun hB => ?_) (fun hB => ?_)
          · have hB2 := of_decide_eq_true hB
            refine ⟨_, rfl, _, rfl, _, _, rfl, rfl, ⟨by decide, by decide, by decide⟩, _, _, rfl, rfl, _, _, rfl, rfl, .inl ⟨by decide, by decide⟩, _, rfl, _, _, rfl, rfl, .inr ⟨_, rfl, _, _, rfl, rfl, ?_⟩⟩
            refine ⟨_, rfl, .inl ⟨_, rfl, _, rfl, _, _, rfl, rfl, wide_div hm (lt200 hm hm2) (by decide) (by decide), _, rfl, p, _, 2, 2, rfl, rfl, hp2, rfl, ?_⟩⟩
            refine ⟨_, rfl, .inl ⟨_, rfl, _, rfl, _, _, rfl, rfl, hm, ?_⟩⟩
            exact k _ _ (fun b o e1 e2 => by rw [upd_ne e1]; exact but2 b o e1 e2) ⟨c, ns, a + 1, _, upd_same, hcp, by rw [upd_ne hcp]; exact hc2, hns, by omega, by omega, Int.ediv_nonneg (great_nn hB2) (by omega)⟩ (Int.emod_nonneg _ (by omega)) (Int.emod_lt_of_pos _ hm)
          · have e1 := Int.emod_nonneg cell (by decide : (2147483549 : Int) ≠ 0)
            have e2 := Int.emod_lt_of_pos cell (by decide : (0 : Int) < 2147483549)
            refine ⟨_, rfl, .inl ⟨_, rfl, _, _, rfl, rfl, (by show (0 : Int) < 2147483549; decide), _, rfl, _, _, rfl, rfl, .inl ⟨by decide, by decide⟩, _, _, rfl, rfl, _, _, rfl, rfl, _, _, rfl, rfl, ⟨by decide, by decide, by omega⟩, .inl ⟨_, rfl, _, _, rfl, rfl, (by show (0 : Int) < 2147483629; decide), ?_⟩⟩⟩
            have e3 := Int.emod_nonneg ((cell % 2147483549 + 53089 * a + 251) ^ Int.toNat 5) (by decide : (2147483629 : Int) ≠ 0)
            have e4 := Int.emod_lt_of_pos ((cell % 2147483549 + 53089 * a + 251) ^ Int.toNat 5) (by decide : (0 : Int) < 2147483629)
            dsimp only
            generalize (cell % 2147483549 + 53089 * a + 251) ^ Int.toNat 5 % 2147483629 = z at e3 e4
            refine ⟨_, rfl, _, rfl, _, _, rfl, rfl, .inl ⟨by decide, by decide⟩, _, _, rfl, rfl, _, _, rfl, rfl, .inl ⟨by omega, by omega⟩, _, rfl, _, _, rfl, rfl, .inl ⟨by decide, by decide⟩, _, rfl, _, _, rfl, rfl, .inl ⟨by omega, by omega⟩, _, _, rfl, rfl, _, _, rfl, rfl, _, _, rfl, rfl, ⟨by decide, by decide, mix_ok e3 e4 ha0 (by omega) (by decide) (by decide) (by decide) (by decide) (by decide) (by decide)⟩, .inl ⟨_, rfl, _, _, rfl, rfl, (by show (0 : Int) < 2147483587; decide), ?_⟩⟩
            refine ⟨_, rfl, _, _, rfl, rfl, wide_div (by decide) (by decide : (32 : Int).natAbs < 2 ^ 10) (by decide) (by decide), .inl ⟨_, rfl, _, rfl, _, _, rfl, rfl, hm, ?_⟩⟩
            exact k _ _ but2 ⟨c, ns, a + 1, r, hp2, hcp, hc2, hns, by omega, by omega, hr0⟩ (Int.emod_nonneg _ (by omega)) (Int.emod_lt_of_pos _ hm)
        · have e1 := Int.emod_nonneg cell (by decide : (2147483549 : Int) ≠ 0)
          have e2 := Int.emod_lt_of_pos cell (by decide : (0 : Int) < 2147483549)
          refine ⟨_, rfl, .inl ⟨_, rfl, _, _, rfl, rfl, (by show (0 : Int) < 2147483549; decide), _, rfl, _, _, rfl, rfl, .inl ⟨by decide, by decide⟩, _, _, rfl, rfl, _, _, rfl, rfl, _, _, rfl, rfl, ⟨by decide, by decide, by omega⟩, .inl ⟨_, rfl, _, _, rfl, rfl, (by show (0 : Int) < 2147483629; decide), ?_⟩⟩⟩
          have e3 := Int.emod_nonneg ((cell % 2147483549 + 53089 * a + 251) ^ Int.toNat 5) (by decide : (2147483629 : Int) ≠ 0)
          have e4 := Int.emod_lt_of_pos ((cell % 2147483549 + 53089 * a + 251) ^ Int.toNat 5) (by decide : (0 : Int) < 2147483629)
          dsimp only
          generalize (cell % 2147483549 + 53089 * a + 251) ^ Int.toNat 5 % 2147483629 = z at e3 e4
          refine ⟨_, rfl, _, rfl, _, _, rfl, rfl, .inl ⟨by decide, by decide⟩, _, _, rfl, rfl, _, _, rfl, rfl, .inl ⟨by omega, by omega⟩, _, rfl, _, _, rfl, rfl, .inl ⟨by decide, by decide⟩, _, rfl, _, _, rfl, rfl, .inl ⟨by omega, by omega⟩, _, _, rfl, rfl, _, _, rfl, rfl, _, _, rfl, rfl, ⟨by decide, by decide, mix_ok e3 e4 ha0 (by omega) (by decide) (by decide) (by decide) (by decide) (by decide) (by decide)⟩, .inl ⟨_, rfl, _, _, rfl, rfl, (by show (0 : Int) < 2147483587; decide), ?_⟩⟩
          refine ⟨_, rfl, _, _, rfl, rfl, wide_div (by decide) (by decide : (32 : Int).natAbs < 2 ^ 10) (by decide) (by decide), .inl ⟨_, rfl, _, rfl, _, _, rfl, rfl, hm, ?_⟩⟩
          exact k _ _ but2 ⟨c, ns, a + 1, r, hp2, hcp, hc2, hns, by omega, by omega, hr0⟩ (Int.emod_nonneg _ (by omega)) (Int.emod_lt_of_pos _ hm)

      · dsimp only
        generalize 41479 * a + 349 = cell
        refine ⟨_, rfl, _, rfl, p, _, 0, _, rfl, rfl, SqL.of hp2, atI_nat (j := 0) rfl, c, _, rfl, .inl (SqL.of hc2), _, _, rfl, rfl, _, rfl, ?_⟩
        refine ite2 (fun hA => ?_) (fun hA => ?_)
        · refine ⟨_, rfl, _, rfl, _, _, rfl, rfl, ⟨by decide, by decide, by decide⟩, _, _, rfl, rfl, _, rfl, ?_⟩
          refine ite2 (fun hB => ?_) (fun hB => ?_)
          · have hB2 := of_decide_eq_true hB
            refine ⟨_, rfl, _, rfl, _, _, rfl, rfl, ⟨by decide, by decide, by decide⟩, _, _, rfl, rfl, _, _, rfl, rfl, .inl ⟨by decide, by decide⟩, _, rfl, _, _, rfl, rfl, .inr ⟨_, rfl, _, _, rfl, rfl, ?_⟩⟩
            refine ⟨_, rfl, .inl ⟨_, rfl, _, rfl, _, _, rfl, rfl, wide_div hm (lt200 hm hm2) (by decide) (by decide), _, rfl, p, _, 2, 2, rfl, rfl, hp2, rfl, ?_⟩⟩
            refine ⟨_, rfl, .inl ⟨_, rfl, _, rfl, _, _, rfl, rfl, hm, ?_⟩⟩
            exact k _ _ (fun b o e1 e2 => by rw [upd_ne e1]; exact but2 b o e1 e2) ⟨c, ns, a + 1, _, upd_same, hcp, by rw [upd_ne hcp]; exact hc2, hns, by omega, by omega, Int.ediv_nonneg (great_nn hB2) (by omega)⟩ (Int.emod_nonneg _ (by omega)) (Int.emod_lt_of_pos _ hm)
          · have e1 := Int.emod_nonneg cell (by decide : (2147483549 : Int) ≠ 0)
            have e2 := Int.emod_lt_of_pos cell (by decide : (0 : Int) < 2147483549)
            refine ⟨_, rfl, .inl ⟨_, rfl, _, _, rfl, rfl, (by show (0 : Int) < 2147483549; decide), _, rfl, _, _, rfl, rfl, .inl ⟨by decide, by decide⟩, _, _, rfl, rfl, _, _, rfl, rfl, _, _, rfl, rfl, ⟨by decide, by decide, by omega⟩, .inl ⟨_, rfl, _, _, rfl, rfl, (by show (0 : Int) < 2147483629; decide), ?_⟩⟩⟩
            have e3 := Int.emod_nonneg ((cell % 2147483549 + 53089 * a + 251) ^ Int.toNat 5) (by decide : (2147483629 : Int) ≠ 0)
            have e4 := Int.emod_lt_of_pos ((cell % 2147483549 + 53089 * a + 251) ^ Int.toNat 5) (by decide : (0 : Int) < 2147483629)
            dsimp only
            generalize (cell % 2147483549 + 53089 * a + 251) ^ Int.toNat 5 % 2147483629 = z at e3 e4
            refine ⟨_, rfl, _, rfl, _, _, rfl, rfl, .inl ⟨by decide, by decide⟩, _, _, rfl, rfl, _, _, rfl, rfl, .inl ⟨by omega, by omega⟩, _, rfl, _, _, rfl, rfl, .inl ⟨by decide, by decide⟩, _, rfl, _, _, rfl, rfl, .inl ⟨by omega, by omega⟩, _, _, rfl, rfl, _, _, rfl, rfl, _, _, rfl, rfl, ⟨by decide, by decide, mix_ok e3 e4 ha0 (by omega) (by decide) (by decide) (by decide) (by decide) (by decide) (by decide)⟩, .inl ⟨_, rfl, _, _, rfl, rfl, (by show (0 : Int) < 2147483587; decide), ?_⟩⟩
            refine ⟨_, rfl, _, _, rfl, rfl, wide_div (by decide) (by decide : (32 : Int).natAbs < 2 ^ 10) (by decide) (by decide), .inl ⟨_, rfl, _, rfl, _, _, rfl, rfl, hm, ?_⟩⟩
            exact k _ _ but2 ⟨c, ns, a + 1, r, hp2, hcp, hc2, hns, by omega, by omega, hr0⟩ (Int.emod_nonneg _ (by omega)) (Int.emod_lt_of_pos _ hm)
        · have e1 := Int.emod_nonneg cell (by decide : (2147483549 : Int) ≠ 0)
          have e2 := Int.emod_lt_of_pos cell (by decide : (0 : Int) < 2147483549)
          refine ⟨_, rfl, .inl ⟨_, rfl, _, _, rfl, rfl, (by show (0 : Int) < 2147483549; decide), _, rfl, _, _, rfl, rfl, .inl ⟨by decide, by decide⟩, _, _, rfl, rfl, _, _, rfl, rfl, _, _, rfl, rfl, ⟨by decide, by decide, by omega⟩, .inl ⟨_, rfl, _, _, rfl, rfl, (by show (0 : Int) < 2147483629; decide), ?_⟩⟩⟩
          have e3 := Int.emod_nonneg ((cell % 2147483549 + 53089 * a + 251) ^ Int.toNat 5) (by decide : (2147483629 : Int) ≠ 0)
          have e4 := Int.emod_lt_of_pos ((cell % 2147483549 + 53089 * a + 251) ^ Int.toNat 5) (by decide : (0 : Int) < 2147483629)
          dsimp only
          generalize (cell % 2147483549 + 53089 * a + 251) ^ Int.toNat 5 % 2147483629 = z at e3 e4
          refine ⟨_, rfl, _, rfl, _, _, rfl, rfl, .inl ⟨by decide, by decide⟩, _, _, rfl, rfl, _, _, rfl, rfl, .inl ⟨by omega, by omega⟩, _, rfl, _, _, rfl, rfl, .inl ⟨by decide, by decide⟩, _, rfl, _, _, rfl, rfl, .inl ⟨by omega, by omega⟩, _, _, rfl, rfl, _, _, rfl, rfl, _, _, rfl, rfl, ⟨by decide, by decide, mix_ok e3 e4 ha0 (by omega) (by decide) (by decide) (by decide) (by decide) (by decide) (by decide)⟩, .inl ⟨_, rfl, _, _, rfl, rfl, (by show (0 : Int) < 2147483587; decide), ?_⟩⟩
          refine ⟨_, rfl, _, _, rfl, rfl, wide_div (by decide) (by decide : (32 : Int).natAbs < 2 ^ 10) (by decide) (by decide), .inl ⟨_, rfl, _, rfl, _, _, rfl, rfl, hm, ?_⟩⟩
          exact k _ _ but2 ⟨c, ns, a + 1, r, hp2, hcp, hc2, hns, by omega, by omega, hr0⟩ (Int.emod_nonneg _ (by omega)) (Int.emod_lt_of_pos _ hm)

end
end K8
namespace K8
open PySem PySem.Spec PyProof.Rows L2 Hx Gx
section
variable {P : Program} {w : World} {K : PySem.W.Frag} {mg : Str → Option Value} {base : Heap}
theorem But.refl (p : Addr) (H : Hp) : But p H H := fun _ _ _ h => h
theorem But.trans {p : Addr} {H H1 H2 : Hp} (a : But p H H1) (b : But p H1 H2) : But p H H2 := fun c o n h => b c o n (a c o n h)
theorem But.of {p : Addr} {H H1 : Hp} (a : Same H H1) : But p H H1 := fun c o _ h => a c o h
theorem But.new {p l : Addr} {H H1 : Hp} {o : HO} (a : But p H H1) (h : H1 l = none) : But p H (upd H1 l o) := fun b u n e => by rw [upd_ne (ne_of_none (a b u n e) h)]; exact a b u n e
theorem But.seq {p a : Addr} {H H' : Hp} {xs : List V} (e : But p H H') (n : a ≠ p) (h : SqL K H a xs) : SqL K H' a xs := by
  rcases h with (h | ⟨o, h⟩) | h
  · exact .inl (.inl (e _ _ n h))
  · exact .inl (.inr ⟨o, e _ _ n h⟩)
  · exact .inr h
theorem PenAt.new {H : Hp} {p l : Addr} {n : Nat} {o : HO} (h : PenAt H p n) (f : H l = none) : PenAt (upd H l o) p n := by
  obtain ⟨c, ns, a, r, h1, h2, h3, h4⟩ := h
  exact ⟨c, ns, a, r, by rw [upd_ne (ne_of_none h1 f)]; exact h1, h2, by rw [upd_ne (ne_of_none h3 f)]; exact h3, h4⟩
theorem PenAt.ne {H : Hp} {p l : Addr} {n : Nat} (h : PenAt H p n) (f : H l = none) : p ≠ l := by
  obtain ⟨c, ns, a, r, h1, _⟩ := h
  exact ne_of_none h1 f
theorem PenAt.mono {H : Hp} {p : Addr} {n m : Nat} (h : PenAt H p n) (f : n ≤ m) : PenAt H p m := by
  obtain ⟨c, ns, a, r, h1, h2, h3, h4, h5, h6, h7⟩ := h
  exact ⟨c, ns, a, r, h1, h2, h3, h4, h5, by omega, h7⟩
/-- a pick: one of the items -/
def spPick (K : PySem.W.Frag) : Sp := fun vs H Q _ => ∃ (p a : Addr) (n : Nat) (xs : List V), vs = [.ref p, .ref a] ∧ PenAt H p n ∧ n ≤ 100000 ∧ SqL K H a xs ∧ a ≠ p ∧ 0 < xs.length ∧ xs.length ≤ 1000 ∧
  ∀ (H' : Hp) (v : V), But p H H' → PenAt H' p (n + 1) → v ∈ xs → Q v H'
theorem sc_pick : FnScope ["_law_pen_here", "_law_some"] ["_law_pen_here", "_law_some"] (defScope s__law_pick) := ⟨rfl, rfl, rfl, by decide +kernel, rfl, by decide +kernel, by decide +kernel⟩
theorem p_pick (T : Tx K mg) : Prom P w K mg base 2 d__law_pick ["_law_pen_here", "_law_some"] (spPick K) := by
  obtain ⟨fd, F⟩ := f__law_pick T
  obtain ⟨fdD, FD, GD, BD⟩ := p_draw (P := P) (w := w) (base := base) T
  refine ⟨fd, F, F.ok sc_pick (fun vs H Q E h => ?_) (fun cdv A outer s H vs Q E hr h => ?_), F.bindsN fun _ _ _ _ _ _ us hl => match us, hl with | [_, _], _ => rfl⟩
  · obtain ⟨p, a, n, xs, rfl, _⟩ := h
    rfl
  · obtain ⟨p, a, n, xs, rfl, hp, hn, hx, hap, h0, h1, k⟩ := h
    refine ⟨_, pss_one (ps_ret (pe_ix ix_list (pv 1) (pe_call GD hr rfl (g__law_draw T) FD.kp BD .nil pass0 (pa_cons (pv 0) (pa_cons (pe_callB call_len_seq (by rfl) (n_len T) (by decide +kernel) (pa_cons (pv 1) pa_nil)) pa_nil))) (fun _ _ => rfl))), ?_⟩
    refine ⟨_, rfl, _, rfl, _, rfl, a, _, rfl, .inl hx, p, n, _, rfl, hp, hn, by omega, by have : (10 : Int) ^ 60 = 10 ^ 60 := rfl; omega, ?_⟩
    intro H' d but hp' d0 d1
    obtain ⟨i, rfl⟩ : ∃ i : Nat, d = i := ⟨d.toNat, by omega⟩
    have hi : i < xs.length := by omega
    refine ⟨a, _, _, _, rfl, rfl, but.seq hap hx, atI_nat (List.getElem?_eq_getElem hi), ?_⟩
    exact k _ _ but hp' (List.getElem_mem hi)
end
end K8
namespace K8
open PySem PySem.Spec PyProof.Rows L2 Hx Gx
section
variable {P : Program} {w : World} {K : PySem.W.Frag} {mg : Str → Option Value} {base : Heap}

/-- the letters' codes -/
def isLow (c : Nat) : Bool := decide (97 ≤ c) && decide (c ≤ 122)
/-- a text of one to eight letters -/
def nameB (x : Str) : Bool := decide (1 ≤ x.length) && decide (x.length ≤ 8) && x.cps.toList.all isLow
theorem low_in (c : Nat) : decide (c ∈ ("abcdefghijklmnopqrstuvwxyz" : Str).cps.toList) = isLow c := by
  have e : ("abcdefghijklmnopqrstuvwxyz" : Str).cps.toList = [97, 98, 99, 100, 101, 102, 103, 104, 105, 106, 107, 108, 109, 110, 111, 112, 113, 114, 115, 116, 117, 118, 119, 120, 121, 122] := by decide +kernel
  rw [e]
  unfold isLow
  by_cases h : 97 ≤ c ∧ c ≤ 122
  · rw [decide_eq_true h.1, decide_eq_true h.2]
    refine decide_eq_true ?_
    simp only [List.mem_cons, List.not_mem_nil, or_false]
    omega
  · have h2 : (decide (97 ≤ c) && decide (c ≤ 122)) = false := by
      rw [Bool.and_eq_false_iff]
      by_cases h1 : 97 ≤ c
      · exact .inr (decide_eq_false fun h3 => h ⟨h1, h3⟩)
      · exact .inl (decide_eq_false h1)
    rw [h2]
    refine decide_eq_false fun q => h ?_
    simp only [List.mem_cons, List.not_mem_nil, or_false] at q
    omega
def spIsName : Sp := fun vs H Q _ => ∃ x : Str, vs = [.str x] ∧ x.length ≤ sizeLine ∧ ∀ H', Same H H' → Q (.bl (nameB x)) H'
theorem sc_is_name : FnScope ["value", "letter"] ["value"] (defScope s_is_name) := ⟨rfl, rfl, rfl, by decide +kernel, rfl, by decide +kernel, by decide +kernel⟩
theorem p_is_name (T : Tx K mg) : Prom P w K mg base 1 d_is_name ["value"] spIsName := by
  obtain ⟨fd, F⟩ := f_is_name T
  obtain ⟨tNL, hNL⟩ := i_NAME_LENGTH T (v := 8) rfl rfl
  obtain ⟨tLT, hLT⟩ := t_LETTERS T (v := "abcdefghijklmnopqrstuvwxyz") rfl
  refine ⟨fd, F, F.ok sc_is_name (fun vs H Q E h => ?_) (fun cdv A outer s H vs Q E hr h => ?_), F.bindsN fun _ _ _ _ _ _ us hl => match us, hl with | [_], _ => rfl⟩
  · obtain ⟨x, rfl, _⟩ := h
    rfl
  · obtain ⟨x, rfl, hx, k⟩ := h
    refine ⟨_, (pss_cons (ps_if (PW.pt (pw_or (pt_not (pt_val (pe_callB call_isi (by rfl) (n_isinstance T) (by decide +kernel) (pa_cons (pv 0) (pa_cons (pe_bltn (v := .ty "str") (by rfl) (n_str T) (by decide +kernel) rfl) pa_nil))))) (pw_or1 (pt_not (pt_chain op_le op_le pe_int (pe_callB call_len_str (by rfl) (n_len T) (by decide +kernel) (pa_cons (pv 0) pa_nil)) (pe_glob (v := .int 8) rfl hNL ⟨_, rfl⟩)))))) (pss_one (ps_ret pe_bl)) pss_nil)
      (pss_one (ps_ret (pe_callB (cr_all rfl) (by rfl) (n_all T) (by decide +kernel) (pa_cons (pe_lc (own := [("letter", 1)]) (g := gName 1) (tt := tYes) (by rfl) sc_is_name.nd (pi_str (pv 0)) (blkOk_by (own := [("letter", 1)]) (N := ["value", "letter"]) (sc := defScope s_is_name) (by decide +kernel)) (fun _ _ _ _ _ => pg_name (i := 1) sc_is_name.nd rfl (Or.inl rfl)) (fun _ _ _ _ _ => pts_nil) (fun _ _ _ _ _ => (pe_cmpR op_in_sign (pv 1) (pe_glob (v := .str "abcdefghijklmnopqrstuvwxyz") rfl hLT ⟨_, rfl⟩) rfl))) pa_nil))))), ?_⟩
    refine ⟨_, rfl, _, _, _, _, true, rfl, .ty "str", .base (.str x), kit_ty (by decide +kernel), _, rfl, ?_⟩
    refine iteF ?_
    refine ⟨_, rfl, _, rfl, hx, _, _, rfl, rfl, _, rfl, ?_⟩
    have fin : nameB x = false → Q (.bl false) H := fun e => by
      have q := k H (Same.refl H)
      rw [e] at q
      exact q
    refine ite2 (fun h1 => ?_) (fun h1 => ?_)
    · have h1' : 1 ≤ x.length := by
        have z := of_decide_eq_true h1
        omega
      refine ⟨_, _, rfl, rfl, _, rfl, ?_⟩
      by_cases h2 : x.length ≤ 8
      · have e2 : decide (((x.length : Nat) : Int) ≤ 8) = true := decide_eq_true (by omega)
        rw [e2]
        refine iteF ?_
        refine ⟨_, rfl, x, rfl, fun D hD => ?_⟩
        refine lc_it walk_str (fun i H' => Same H H' ∧ H' D = some (.lst ((x.cps.toList.take i).map fun c => V.bl (isLow c)))) ⟨fun b o e => by rw [upd_ne (ne_of_none e hD)]; exact e, upd_same⟩ (fun _ _ _ _ => trivial) ?_ ?_
        · rintro i v H1 H2 hi ⟨s1, d1⟩ ⟨rfl, c, hc, rfl⟩
          refine ⟨rfl, ⟨_, rfl, c, _, rfl, rfl, _, d1, ?_, fun b o e => by rw [upd_ne (ne_of_none e hD)]; exact s1 b o e, ?_⟩⟩
          · rw [List.length_map, List.length_take]
            have z : (8 : Nat) < sizeLine := by decide
            have z2 : x.cps.toList.length = x.length := rfl
            omega
          · rw [upd_same, low_in, List.take_succ, List.map_append]
            have e : x.cps.toList[i]? = some c := by simpa using hc
            rw [e]
            rfl
        · rintro H1 ⟨s1, d1⟩
          refine ⟨D, x.cps.toList.map isLow, rfl, SqL.of ?_, ?_⟩
          · have e : x.cps.toList.take x.cps.size = x.cps.toList := List.take_of_length_le (Nat.le_of_eq (by simp))
            rw [d1, e, List.map_map]
            rfl
          · have e : nameB x = ((x.cps.toList.map isLow).all id) := by
              unfold nameB
              rw [decide_eq_true h1', decide_eq_true h2]
              simp
            rw [← e]
            exact k _ s1
      · have e2 : decide (((x.length : Nat) : Int) ≤ 8) = false := decide_eq_false (by omega)
        rw [e2]
        refine iteT (fin ?_)
        unfold nameB
        rw [decide_eq_false h2]
        simp
    · refine ⟨_, rfl, iteT (fin ?_)⟩
      have h0 : ¬ 1 ≤ x.length := fun z => h1 (decide_eq_true (by omega))
      unfold nameB
      rw [decide_eq_false h0]
      rfl
/-- an int is an integer -/
def spIsInt : Sp := fun vs H Q _ => ∃ i : Int, vs = [.int i] ∧ Q (.bl true) H
theorem sc_is_integer : FnScope ["value"] ["value"] (defScope s_is_integer) := ⟨rfl, rfl, rfl, by decide +kernel, rfl, by decide +kernel, by decide +kernel⟩
theorem p_is_integer (T : Tx K mg) : Prom P w K mg base 1 d_is_integer ["value"] spIsInt := by
  obtain ⟨fd, F⟩ := f_is_integer T
  refine ⟨fd, F, F.ok sc_is_integer (fun vs H Q E h => ?_) (fun cdv A outer s H vs Q E hr h => ?_), F.bindsN fun _ _ _ _ _ _ us hl => match us, hl with | [_], _ => rfl⟩
  · obtain ⟨x, rfl, _⟩ := h
    rfl
  · obtain ⟨x, rfl, k⟩ := h
    refine ⟨_, (pss_one (ps_ret (pe_and (pe_callB call_isi (by rfl) (n_isinstance T) (by decide +kernel) (pa_cons (pv 0) (pa_cons (pe_bltn (v := .ty "int") (by rfl) (n_int T) (by decide +kernel) rfl) pa_nil))) (pe_one (pe_not (pe_callB call_isi (by rfl) (n_isinstance T) (by decide +kernel) (pa_cons (pv 0) (pa_cons (pe_bltn (v := .ty "bool") (by rfl) (n_bool T) (by decide +kernel) rfl) pa_nil)))))))), ?_⟩
    refine ⟨_, rfl, _, _, _, _, true, rfl, .ty "int", .base (.int x), kit_ty (by decide +kernel), _, rfl, ?_⟩
    refine ⟨_, rfl, _, _, _, _, false, rfl, .ty "bool", .base (.int x), kit_ty (by decide +kernel), _, rfl, ?_⟩
    exact k
def priceOk (i : Int) : Prop := -999999999999 ≤ i ∧ i ≤ 999999999999
def spIsPrice : Sp := fun vs H Q _ => ∃ i : Int, vs = [.int i] ∧ priceOk i ∧ Q (.bl true) H
theorem sc_is_price : FnScope ["value"] ["value"] (defScope s_is_price) := ⟨rfl, rfl, rfl, by decide +kernel, rfl, by decide +kernel, by decide +kernel⟩
theorem p_is_price (T : Tx K mg) : Prom P w K mg base 2 d_is_price ["value"] spIsPrice := by
  obtain ⟨fd, F⟩ := f_is_price T
  obtain ⟨fdI, FI, GI, BI⟩ := p_is_integer (P := P) (w := w) (base := base) T
  obtain ⟨tGP, hGP⟩ := i_GREATEST_PRICE T (v := 999999999999) rfl rfl
  refine ⟨fd, F, F.ok sc_is_price (fun vs H Q E h => ?_) (fun cdv A outer s H vs Q E hr h => ?_), F.bindsN fun _ _ _ _ _ _ us hl => match us, hl with | [_], _ => rfl⟩
  · obtain ⟨x, rfl, _⟩ := h
    rfl
  · obtain ⟨x, rfl, ⟨h1, h2⟩, k⟩ := h
    refine ⟨_, (pss_one (ps_ret (pe_and (pe_call GI hr rfl (g_is_integer T) FI.kp BI .nil pass0 (pa_cons (pv 0) pa_nil)) (pe_one (pe_chain op_le op_le (pe_un un_neg (pe_glob (v := .int 999999999999) rfl hGP ⟨_, rfl⟩)) (pv 0) (pe_glob (v := .int 999999999999) rfl hGP ⟨_, rfl⟩)))))), ?_⟩
    refine ⟨_, rfl, x, rfl, _, rfl, ?_⟩
    refine iteT ⟨_, rfl, _, rfl, _, _, rfl, rfl, _, rfl, ?_⟩
    have e1 : decide ((-999999999999 : Int) ≤ x) = true := decide_eq_true h1
    have e2 : decide (x ≤ (999999999999 : Int)) = true := decide_eq_true h2
    rw [e1]
    refine iteT ⟨_, _, rfl, rfl, ?_⟩
    show Q (.bl (decide (x ≤ (999999999999 : Int)))) H
    rw [e2]
    exact k
/-- a street's name and ends are right -/
def spChS : Sp := fun vs H Q _ => ∃ x a b : Str, vs = [.str x, .str a, .str b] ∧ nameB x = true ∧ nameB a = true ∧ nameB b = true ∧ a ≠ b ∧ ∀ H', Same H H' → Q .non H'
theorem nameB_len {x : Str} (h : nameB x = true) : x.length ≤ sizeLine := by
  unfold nameB at h
  rw [Bool.and_eq_true, Bool.and_eq_true] at h
  have z := of_decide_eq_true h.1.2
  exact Nat.le_trans z (by decide)
theorem sc_check_street : FnScope ["name", "one", "other"] ["name", "one", "other"] (defScope s_check_street) := ⟨rfl, rfl, rfl, by decide +kernel, rfl, by decide +kernel, by decide +kernel⟩
theorem p_check_street (T : Tx K mg) : Prom P w K mg base 2 d_check_street ["name", "one", "other"] spChS := by
  obtain ⟨fd, F⟩ := f_check_street T
  obtain ⟨fdN, FN, GN, BN⟩ := p_is_name (P := P) (w := w) (base := base) T
  refine ⟨fd, F, F.ok sc_check_street (fun vs H Q E h => ?_) (fun cdv A outer s H vs Q E hr h => ?_), F.bindsN fun _ _ _ _ _ _ us hl => match us, hl with | [_, _, _], _ => rfl⟩
  · obtain ⟨x, a, b, rfl, _⟩ := h
    rfl
  · obtain ⟨x, a, b, rfl, hx, ha, hb, hab, k⟩ := h
    refine ⟨_, (pss_cons (ps_if (pt_not (pt_val (pe_call GN hr rfl (g_is_name T) FN.kp BN .nil pass0 (pa_cons (pv 0) pa_nil)))) (pss_one ps_never) pss_nil)
      (pss_cons (ps_if (PW.pt (pw_or (pt_not (pt_val (pe_call GN hr rfl (g_is_name T) FN.kp BN .nil pass0 (pa_cons (pv 1) pa_nil)))) (pw_or1 (pt_not (pt_val (pe_call GN hr rfl (g_is_name T) FN.kp BN .nil pass0 (pa_cons (pv 2) pa_nil))))))) (pss_one ps_never) pss_nil)
      (pss_one (ps_if (pt_cmpR op_eq (pv 1) (pv 2) (nomark _)) (pss_one ps_never) pss_nil)))), ?_⟩
    refine ⟨_, rfl, x, rfl, nameB_len hx, fun H1 s1 => ?_⟩
    refine ⟨_, rfl, ?_⟩
    rw [hx]
    refine iteF ⟨_, rfl, a, rfl, nameB_len ha, fun H2 s2 => ⟨_, rfl, ?_⟩⟩
    rw [ha]
    refine iteF ⟨_, rfl, b, rfl, nameB_len hb, fun H3 s3 => ⟨_, rfl, ?_⟩⟩
    rw [hb]
    refine iteF ⟨_, rfl, _, rfl, rfl, _, rfl, ?_⟩
    have e : decide (V.str a = V.str b) = false := decide_eq_false fun z => hab (V.str.inj z)
    rw [e]
    exact iteF (k _ ((s1.trans s2).trans s3))
/-- both prices are prices -/
def spChP : Sp := fun vs H Q _ => ∃ i j : Int, vs = [.int i, .int j] ∧ priceOk i ∧ priceOk j ∧ ∀ H', Same H H' → Q .non H'
theorem sc_check_prices : FnScope ["there", "back", "price"] ["there", "back"] (defScope s_check_prices) := ⟨rfl, rfl, rfl, by decide +kernel, rfl, by decide +kernel, by decide +kernel⟩
theorem p_check_prices (T : Tx K mg) : Prom P w K mg base 3 d_check_prices ["there", "back"] spChP := by
  obtain ⟨fd, F⟩ := f_check_prices T
  obtain ⟨fdP, FP, GP, BP⟩ := p_is_price (P := P) (w := w) (base := base) T
  refine ⟨fd, F, F.ok sc_check_prices (fun vs H Q E h => ?_) (fun cdv A outer s H vs Q E hr h => ?_), F.bindsN fun _ _ _ _ _ _ us hl => match us, hl with | [_, _], _ => rfl⟩
  · obtain ⟨i, j, rfl, _⟩ := h
    rfl
  · obtain ⟨i, j, rfl, hi, hj, k⟩ := h
    refine ⟨_, PSs.nox (pss_one (ps_for PassesOwn.never rfl (pi_tup (pe_tup (pa_cons (pv 0) (pa_cons (pv 1) pa_nil)))) (pg_name (i := 2) sc_check_prices.nd rfl (Or.inl rfl)) (pss_one (ps_if (pt_not (pt_val (pe_call GP hr rfl (g_is_price T) FP.kp BP .nil pass0 (pa_cons (pv 2) pa_nil)))) (pss_one ps_never) pss_nil)))), ?_⟩
    refine ⟨_, rfl, _, rfl, (by show 2 ≤ sizeLine; decide), fun t ht => ⟨t, rfl, ⟨[.int i, .int j], SqT.of upd_same⟩, ?_⟩⟩
    refine for_tup (K := K) (a := t) (xs := [.int i, .int j]) (fun n σ H' => Same H H' ∧ H' t = some (.tup [.int i, .int j]) ∧ ∃ v, σ = [some (.int i), some (.int j), v]) ⟨fun b o e => by rw [upd_ne (ne_of_none e ht)]; exact e, upd_same, none, rfl⟩ (fun n σ H' _ z => SqT.of z.2.1) ?_ ?_
    · rintro n x σ H' hn ⟨s1, h1, v, rfl⟩
      have hx : ∃ y, x = .int y ∧ priceOk y := by
        match n, hn with
        | 0, hn => exact ⟨i, (Option.some.inj hn).symm, hi⟩
        | 1, hn => exact ⟨j, (Option.some.inj hn).symm, hj⟩
        | n + 2, hn => cases hn
      obtain ⟨y, rfl, hy⟩ := hx
      refine ⟨_, rfl, y, rfl, hy, _, rfl, iteF ?_⟩
      exact ⟨s1, h1, _, rfl⟩
    · rintro σ H' ⟨s1, _⟩
      exact k _ s1
end
end K8
namespace Nx
open PySem PySem.Spec PyProof.Rows L2
section
variable {prog : Program} {w : World} {A : Around} {E : Value → Shared → Prop} {s : Shared} {K : PySem.W.Frag} {x C f : Addr} {ox : Obj} {od : Option Obj} {b tb : Value}
/-- the inherited != asks the class's own == -/
theorem body_ne {Q : Fin → Shared → Prop} (hu : A.units < cLine) (X : K.In s.heap) (I : PySem.W.InstAt s.heap x ox C od)
    (he : PySem.W.findIn K (.ref C) "__eq__" = some (some (.ref f))) (hf : PySem.W.isFn K (.ref f) = true)
    (h : wpAny (model prog w) A (call (.ref f) [.ref x, b]) (fun v s' => ∃ r, v = .bool r ∧ Q (.done (.ret (.bool (!r)))) s') E s) :
    wpAny (model prog w) A (Builtin.«object.__ne__» ⟨[.ref x, b], []⟩) Q E s := by
  unfold Builtin.«object.__ne__»
  repeat (first
    | with_reducible refine wpAny_cRoomFor hu ?_
    | (refine wpAny_bind (m := callSpecialIfBound? (.ref x) (Str.ofString "__eq__") [b]) (PySem.W.ifBound_K X I he hf (wpAny_mono h (fun v s' hv => ?_) fun _ _ e => e))
       obtain ⟨r, rfl, hq⟩ := hv)
    | exact hq
    | exact wpAny_pure hq
    | exact wpAny_truthy_bool hq
    | (refine wpAny_bind (m := truthy (.bool _)) (wpAny_truthy_bool ?_))
    | wp_step)
theorem bound_ne {M : Model} {args : List Value} {Q : Option Value → Shared → Prop} (X : K.In s.heap) (I : PySem.W.InstAt s.heap x ox C od)
    (hs : PySem.W.findIn K (.ref C) "__ne__" = some (some (.builtin "object.__ne__")))
    (h : wpAny M A (call (.builtin "object.__ne__") (.ref x :: args)) (fun v => Q (some v)) E s) : wpAny M A (callSpecialIfBound? (.ref x) "__ne__" args) Q E s := by
  simp only [callSpecialIfBound?, bindSpecialIfBound?]
  refine wpAny_holding (wpAny_bind (wpAny_bind (wpAny_bind (I.type.here ((PySem.W.looks_findIn X hs).here ?_)))))
  refine wpAny_bind (wpAny_askSetting (wpAny_ite ?_))
  have fin : wpAny M A (call (.builtin "object.__ne__") ([.ref x] ++ args) >>= fun v => pure (some v)) Q E s :=
    wpAny_bind (wpAny_mono h (fun v s' h' => wpAny_pure h') fun _ _ h' => h')
  split
  · exact wpAny_bind (wpAny_of_eq (F.cmp_object.ne.bind _) (wpAny_pure (by exact fin)))
  · refine wpAny_tryCatch ?_
    exact wpAny_bind (wpAny_of_eq (F.cmp_object.ne.bind _) (wpAny_pure (by exact fin)))
theorem call_ne {Q : Value → Shared → Prop} (hu : A.units + 1 < cLine) (X : K.In s.heap) (I : PySem.W.InstAt s.heap x ox C od)
    (hm : PySem.W.mroIn K C (.type "object") = some true) (he : PySem.W.findIn K (.ref C) "__eq__" = some (some (.ref f))) (hf : PySem.W.isFn K (.ref f) = true)
    (h : wpAny (model prog w) A.in1 (call (.ref f) [.ref x, b]) (fun v s' => ∃ r, v = .bool r ∧ Q (.bool (!r)) s') E s) :
    wpAny (model prog w) A (call (.builtin "object.__ne__") [.ref x, b]) Q E s := by
  refine wpAny_call (codeAny_call_builtin F.cmp_object.ne.plain F.cmpEntry_ne ?_)
  refine PySem.W.check_slot F.cmpKind_ne F.cmpSplit_ne (I.type.andThen (PySem.W.looks_mroIn X hm)) (F.cmpArgs_ne _ _) ?_
  exact body_ne hu X I he hf h
/-- x != b, where the class of x has an own == and no own != -/
theorem rc_ne {Q : Value → Shared → Prop} (hu : A.units + 1 < cLine) (X : K.In s.heap) (I : PySem.W.InstAt s.heap x ox C od)
    (hb : PySem.W.Looks (model prog w) s.heap (typeOf b) tb) (hn : PySem.W.notFirst K C tb = true)
    (hm : PySem.W.mroIn K C (.type "object") = some true) (hs : PySem.W.findIn K (.ref C) "__ne__" = some (some (.builtin "object.__ne__")))
    (he : PySem.W.findIn K (.ref C) "__eq__" = some (some (.ref f))) (hf : PySem.W.isFn K (.ref f) = true)
    (h : wpAny (model prog w) A.in1 (call (.ref f) [.ref x, b]) (fun v s' => ∃ r, v = .bool r ∧ Q (.bool (!r)) s') E s) :
    wpAny (model prog w) A (richCompare .NotEq (.ref x) b) Q E s := by
  have one : wpAny (model prog w) A (tryCompare (.ref x) "__ne__" b) (fun r s' => ∃ v, r = some v ∧ Q v s') E s := by
    unfold tryCompare
    refine wpAny_bind (bound_ne X I hs (call_ne hu X I hm he hf (wpAny_mono h ?_ fun _ _ e => e)))
    rintro v s' ⟨r, rfl, hq⟩
    exact ⟨r, rfl, wpAny_pure ⟨_, rfl, hq⟩⟩
  unfold richCompare
  simp only [oneThing_ref, cmpInfo_NotEq]
  refine wpAny_holding (wpAny_bind (wpAny_cRoomFor (Nat.lt_of_succ_lt hu) ?_))
  refine wpAny_bind (I.type.here (wpAny_bind (hb.here ?_)))
  split
  · rename_i q
    have e : PySem.W.subIn K tb (.ref C) = some false := by
      rcases Bool.or_eq_true_iff.mp hn with z | z
      · rw [beq_iff_eq.mp z] at q
        simp at q
      · exact beq_iff_eq.mp z
    refine wpAny_bind ((PySem.W.looks_subIn X e).here ?_)
    simp only [Bool.false_eq_true, if_false]
    refine wpAny_bind (wpAny_mono one (fun r s' z => ?_) fun _ _ e => e)
    obtain ⟨v, rfl, hq⟩ := z
    exact wpAny_pure hq
  · refine wpAny_bind (wpAny_pure ?_)
    simp only [Bool.false_eq_true, if_false]
    refine wpAny_bind (wpAny_mono one (fun r s' z => ?_) fun _ _ e => e)
    obtain ⟨v, rfl, hq⟩ := z
    exact wpAny_pure hq
end
/-- what == and != ask of a class -/
structure OwnE (K : PySem.W.Frag) (C f : Addr) : Prop where
  eq : PySem.W.findIn K (.ref C) "__eq__" = some (some (.ref f))
  ne : PySem.W.findIn K (.ref C) "__ne__" = some (some (.builtin "object.__ne__"))
  fn : PySem.W.isFn K (.ref f) = true
  ob : PySem.W.mroIn K C (.type "object") = some true
section
variable {X : Cx} {CX : CXT} {k : Nat} {C f : Addr} {fd : FuncData} {ps : List Str} {sp : Sp} {E : XK}
/-- a callee below the running body -/
theorem run_at {A : Around} {pins : List (Addr × Obj)} {σ : L2.St} {H : Hp} {s : Shared} {Q : VK} {us : List Value} {vs : List V}
    (F : FnOk X.prog X.w X.K X.mg X.base CX k f fd ps sp) (hr : Room k A) (e0 : Env0 X.prog X.w X.K X.mg X.base A X.stack s H) (hb : Binds X.K fd ps []) (hx : Passes CX X E)
    (I : Inv X pins σ H s) (r : Vals vs us) (h : sp vs H Q E) :
    wpAny (model X.prog X.w) A (call (.ref f) us) (EP X pins σ Q) X.xe s := by
  have hl : us.length = ps.length := r.length ▸ F.len _ _ _ _ h
  have bd := hb s us I.kIn (by simpa using hl)
  have go := F.run A X.stack s H ⟨us, []⟩ us vs Q E hr e0 (by simpa using bd) r h
  refine wpAny_call (codeAny_mono go ?_)
  intro r s' hq
  match r, hq with
  | .error e, hq => exact hx pins σ H s e s' I hq
  | .ok (.ret u), hq => exact I.after hq
  | .ok .next, hq => exact hq.elim
  | .ok .brk, hq => exact hq.elim
  | .ok .cont, hq => exact hq.elim
theorem back {P : Value → Shared → Prop} {z : V} {v : Value} {s' : Shared} (r : RelV z v) (h : P v s') : PySem.W.CmpBack P v s' := by
  cases z with
  | non => cases (show v = Value.none from r); exact h
  | bl b => cases (show v = Value.bool b from r); exact h
  | int i => obtain ⟨t, rfl⟩ := (show ∃ t, v = Value.int i t from r); exact h
  | str x => obtain ⟨t, rfl⟩ := (show ∃ t, v = Value.str x t from r); exact h
  | byt b => obtain ⟨t, rfl⟩ := (show ∃ t, v = Value.bytes b t from r); exact h
  | flt b => obtain ⟨t, rfl⟩ := (show ∃ t, v = Value.float b t from r); exact h
  | ref a => cases (show v = Value.ref a from r); exact h
  | ty n => cases (show v = Value.type n from r); exact h
/-- x == y by the own == of the class of x -/
def rEqO (K : PySem.W.Frag) (C : Addr) (sp : Sp) (E : XK) : R2 := fun x y H Q =>
  ∃ (a dx : Addr) (fs : List (Str × V)) (t : Value), x = .ref a ∧ H a = some (.ins C dx fs) ∧ TyX K H y t ∧ PySem.W.notFirst K C t = true ∧ sp [x, y] H Q E
def rNeO (K : PySem.W.Frag) (C : Addr) (sp : Sp) (E : XK) : R2 := fun x y H Q =>
  ∃ (a dx : Addr) (fs : List (Str × V)) (t : Value), x = .ref a ∧ H a = some (.ins C dx fs) ∧ TyX K H y t ∧ PySem.W.notFirst K C t = true ∧ sp [x, y] H (fun z H' => ∃ b, z = .bl b ∧ Q (.bl (!b)) H') E
theorem op_eqO (o : OwnE X.K C f) (F : FnOk X.prog X.w X.K X.mg X.base CX k f fd ps sp) (hb : Binds X.K fd ps []) (hr : Room k X.A) (hx : Passes CX X E) :
    OpR X (compareOp .Eq) (rEqO X.K C sp E) := by
  rintro pins s σ H x y v u Q I rx ry ⟨a, dx, fs, t, rfl, ha, ty, hn, q⟩
  cases (show v = Value.ref a from rx)
  obtain ⟨Z, KZ, z, _⟩ := kit_of I ry ty
  obtain ⟨mA, J, _⟩ := ins_get I.hok ha
  obtain ⟨od, J, _⟩ := J.look
  obtain ⟨m, hF⟩ := I.fr
  show wpAny _ _ (richCompare .Eq _ _) _ _ _
  refine PySem.W.cmp_K (op := .Eq) (hr.units0) hF I.ok.mod.kin J (KZ.ty _ _ I.kIn z) hn o.eq o.fn ?_
  refine wpAny_mono (run_at F hr I.env0 hb hx I (.cons (show RelV (.ref a) (.ref a) from rfl) (.cons ry .nil)) q) ?_ (fun _ _ e => e)
  rintro r s' ⟨c, H', I', rc, qc⟩
  exact back rc ⟨c, H', I', rc, qc⟩
theorem op_neO (o : OwnE X.K C f) (F : FnOk X.prog X.w X.K X.mg X.base CX k f fd ps sp) (hb : Binds X.K fd ps []) (hr : Room (k + 1) X.A) (hx : Passes CX X E) :
    OpR X (compareOp .NotEq) (rNeO X.K C sp E) := by
  rintro pins s σ H x y v u Q I rx ry ⟨a, dx, fs, t, rfl, ha, ty, hn, q⟩
  cases (show v = Value.ref a from rx)
  obtain ⟨Z, KZ, z, _⟩ := kit_of I ry ty
  obtain ⟨mA, J, _⟩ := ins_get I.hok ha
  obtain ⟨od, J, _⟩ := J.look
  show wpAny _ _ (richCompare .NotEq _ _) _ _ _
  refine rc_ne (by have := hr.un; omega) I.kIn J (KZ.ty _ _ I.kIn z) hn o.ob o.ne o.eq o.fn ?_
  refine wpAny_mono (run_at F hr.in1 I.env0.in1 hb hx I (.cons (show RelV (.ref a) (.ref a) from rfl) (.cons ry .nil)) q) ?_ (fun _ _ e => e)
  rintro r s' ⟨c, H', I', rc, b, rfl, qb⟩
  cases (show r = Value.bool b from rc)
  exact ⟨b, rfl, .bl (!b), H', I', rfl, qb⟩
end
end Nx
namespace K8
open PySem PySem.Spec PyProof.Rows L2 Hx Gx Nx
section
variable {P : Program} {w : World} {K : PySem.W.Frag} {mg : Str → Option Value} {base : Heap}

/-- a street -/
inductive Sv where
  | lane (t a b : Str)
  | avenue (t lo hi : Str)
  | road (t lo hi : Str) (i j : Int)
  deriving DecidableEq
def lf (t a b : Str) : List (Str × V) := putF "goal" (.str b) (putF "start" (.str a) (putF "name" (.str t) []))
def af (t a b : Str) : List (Str × V) := putF "other" (.str b) (putF "one" (.str a) (putF "name" (.str t) []))
def rf (t a b : Str) (i j : Int) : List (Str × V) := putF "back" (.int j) (putF "there" (.int i) (putF "other" (.str b) (putF "one" (.str a) (putF "name" (.str t) []))))
theorem lf_name (t a b : Str) : (lf t a b).lookup ("name" : Str) = some (V.str t) := by unfold lf; rw [lookup_putF, if_neg (by decide +kernel), lookup_putF, if_neg (by decide +kernel), lookup_putF, if_pos rfl]
theorem lf_start (t a b : Str) : (lf t a b).lookup ("start" : Str) = some (V.str a) := by unfold lf; rw [lookup_putF, if_neg (by decide +kernel), lookup_putF, if_pos rfl]
theorem lf_goal (t a b : Str) : (lf t a b).lookup ("goal" : Str) = some (V.str b) := by unfold lf; rw [lookup_putF, if_pos rfl]
theorem af_name (t a b : Str) : (af t a b).lookup ("name" : Str) = some (V.str t) := by unfold af; rw [lookup_putF, if_neg (by decide +kernel), lookup_putF, if_neg (by decide +kernel), lookup_putF, if_pos rfl]
theorem af_one (t a b : Str) : (af t a b).lookup ("one" : Str) = some (V.str a) := by unfold af; rw [lookup_putF, if_neg (by decide +kernel), lookup_putF, if_pos rfl]
theorem af_other (t a b : Str) : (af t a b).lookup ("other" : Str) = some (V.str b) := by unfold af; rw [lookup_putF, if_pos rfl]
theorem rf_name (t a b : Str) (i j : Int) : (rf t a b i j).lookup ("name" : Str) = some (V.str t) := by unfold rf; rw [lookup_putF, if_neg (by decide +kernel), lookup_putF, if_neg (by decide +kernel), lookup_putF, if_neg (by decide +kernel), lookup_putF, if_neg (by decide +kernel), lookup_putF, if_pos rfl]
theorem rf_one (t a b : Str) (i j : Int) : (rf t a b i j).lookup ("one" : Str) = some (V.str a) := by unfold rf; rw [lookup_putF, if_neg (by decide +kernel), lookup_putF, if_neg (by decide +kernel), lookup_putF, if_neg (by decide +kernel), lookup_putF, if_pos rfl]
theorem rf_other (t a b : Str) (i j : Int) : (rf t a b i j).lookup ("other" : Str) = some (V.str b) := by unfold rf; rw [lookup_putF, if_neg (by decide +kernel), lookup_putF, if_neg (by decide +kernel), lookup_putF, if_pos rfl]
theorem rf_there (t a b : Str) (i j : Int) : (rf t a b i j).lookup ("there" : Str) = some (V.int i) := by unfold rf; rw [lookup_putF, if_neg (by decide +kernel), lookup_putF, if_pos rfl]
theorem rf_back (t a b : Str) (i j : Int) : (rf t a b i j).lookup ("back" : Str) = some (V.int j) := by unfold rf; rw [lookup_putF, if_pos rfl]
theorem putF_len (f : Str) (v : V) : ∀ l : List (Str × V), (putF f v l).length ≤ l.length + 1
  | [] => Nat.le_refl _
  | (g, x) :: r => by
    show (if g = f then (g, v) :: r else (g, x) :: putF f v r).length ≤ _
    split
    · rw [List.length_cons, List.length_cons]
      omega
    · have := putF_len f v r
      rw [List.length_cons, List.length_cons]
      omega
theorem putF_lt2 (f g : Str) (v u : V) : (putF f v (putF g u [])).length < 1000 := by
  have h1 := putF_len f v (putF g u [])
  have h2 := putF_len g u []
  have h3 : ([] : List (Str × V)).length = 0 := rfl
  omega
theorem putF_lt1 (f : Str) (v : V) : (putF f v []).length < 1000 := by
  have h1 := putF_len f v []
  have h3 : ([] : List (Str × V)).length = 0 := rfl
  omega
theorem putF_lt3 (f g k : Str) (v u x : V) : (putF f v (putF g u (putF k x []))).length < 1000 := by
  have h0 := putF_len f v (putF g u (putF k x []))
  have h1 := putF_len g u (putF k x [])
  have h2 := putF_len k x []
  have h3 : ([] : List (Str × V)).length = 0 := rfl
  omega
theorem putF_lt4 (f g k l : Str) (v u x y : V) : (putF f v (putF g u (putF k x (putF l y [])))).length < 1000 := by
  have h0 := putF_len f v (putF g u (putF k x (putF l y [])))
  have h1 := putF_len g u (putF k x (putF l y []))
  have h2 := putF_len k x (putF l y [])
  have h4 := putF_len l y []
  have h3 : ([] : List (Str × V)).length = 0 := rfl
  omega
def Sv.cls : Sv → Str
  | .lane .. => "Lane"
  | .avenue .. => "Avenue"
  | .road .. => "Road"
def Sv.fs : Sv → List (Str × V)
  | .lane t a b => lf t a b
  | .avenue t a b => af t a b
  | .road t a b i j => rf t a b i j
/-- the street v stands at x -/
def StAt (K : PySem.W.Frag) (H : Hp) (x : Addr) (v : Sv) : Prop := ∃ dx, H x = some (.ins (He.ga K v.cls) dx v.fs)
def strLt (a b : Str) : Prop := a.cps.toList < b.cps.toList
instance (a b : Str) : Decidable (strLt a b) := inferInstanceAs (Decidable (a.cps.toList < b.cps.toList))
/-- the street of a kind with these ends, as they are passed -/
def mkAv (t a b : Str) : Sv := if strLt a b then .avenue t a b else .avenue t b a
def mkRd (t a b : Str) (i j : Int) : Sv := if strLt a b then .road t a b i j else .road t b a j i
def spInit (K : PySem.W.Frag) (cls : Str) (ps : List V → Option Sv) : Sp := fun vs H Q _ => ∃ (x dx : Addr) (r : List V) (v : Sv), vs = .ref x :: r ∧ r.length = (if cls = "Road" then 5 else 3) ∧ ps r = some v ∧ H x = some (.ins (He.ga K cls) dx []) ∧
  ∀ H' : Hp, But x H H' → H' x = some (.ins (He.ga K cls) dx v.fs) → Q .non H'
def okEnds (t a b : Str) : Bool := nameB t && (nameB a && (nameB b && !decide (a = b)))
theorem okEnds_iff {t a b : Str} (h : okEnds t a b = true) : nameB t = true ∧ nameB a = true ∧ nameB b = true ∧ a ≠ b := by
  unfold okEnds at h
  simp only [Bool.and_eq_true, Bool.not_eq_true', decide_eq_false_iff_not] at h
  exact ⟨h.1, h.2.1, h.2.2.1, h.2.2.2⟩
def pLane : List V → Option Sv
  | [.str t, .str a, .str b] => if okEnds t a b = true then some (.lane t a b) else none
  | _ => none
def spInitL (K : PySem.W.Frag) : Sp := fun vs H Q _ => ∃ (x dx : Addr) (t a b : Str), vs = [.ref x, .str t, .str a, .str b] ∧ okEnds t a b = true ∧ H x = some (.ins (He.ga K "Lane") dx []) ∧
  ∀ H' : Hp, But x H H' → H' x = some (.ins (He.ga K "Lane") dx (lf t a b)) → Q .non H'
theorem sc_Lane_init : FnScope ["self", "name", "start", "goal"] ["self", "name", "start", "goal"] (defScope s_Lane_init) := ⟨rfl, rfl, rfl, by decide +kernel, rfl, by decide +kernel, by decide +kernel⟩

theorem p_Lane_init (T : Tx K mg) : Prom P w K mg base 3 d_Lane_init ["self", "name", "start", "goal"] (spInitL K) := by
  obtain ⟨fd, F⟩ := f_Lane_init T
  obtain ⟨fdC, FC, GC, BC⟩ := p_check_street (P := P) (w := w) (base := base) T
  refine ⟨fd, F, F.ok sc_Lane_init (fun vs H Q E h => ?_) (fun cdv A outer s H vs Q E hr h => ?_), F.bindsN fun _ _ _ _ _ _ us hl => match us, hl with | [_, _, _, _], _ => rfl⟩
  · obtain ⟨x, dx, t, a, b, rfl, _⟩ := h
    rfl
  · obtain ⟨x, dx, t, a, b, rfl, ok, hx, k⟩ := h
    obtain ⟨o1, o2, o3, o4⟩ := okEnds_iff ok
    refine ⟨_, PSs.nox (pss_cons (ps_expr (pe_call GC (hr.mono (by decide)) rfl (g_check_street T) FC.kp BC .nil pass0 (pa_cons (pv 1) (pa_cons (pv 2) (pa_cons (pv 3) pa_nil)))))
      (pss_cons (ps_fld (pv 0) (pv 1) rfl)
      (pss_cons (ps_fld (pv 0) (pv 2) rfl)
      (pss_one (ps_fld (pv 0) (pv 3) rfl))))), ?_⟩
    refine ⟨_, rfl, _, rfl, _, rfl, t, a, b, rfl, o1, o2, o3, o4, fun H1 s1 => ?_⟩
    refine ⟨_, rfl, _, rfl, x, _, dx, _, rfl, s1 _ _ hx, c_Lane T, na_Lane_name T, (by show 0 < 1000; decide), ?_⟩
    refine ⟨_, rfl, _, rfl, x, _, dx, _, rfl, upd_same, c_Lane T, na_Lane_start T, (by show 1 < 1000; decide), ?_⟩
    rw [upd_upd]
    refine ⟨_, rfl, _, rfl, x, _, dx, _, rfl, upd_same, c_Lane T, na_Lane_goal T, (by show _ < 1000; exact putF_lt2 _ _ _ _), ?_⟩
    rw [upd_upd]
    exact k _ (fun c o n e => by rw [upd_ne n]; exact s1 _ _ e) upd_same
def spInitA (K : PySem.W.Frag) : Sp := fun vs H Q _ => ∃ (x dx : Addr) (t a b : Str), vs = [.ref x, .str t, .str a, .str b] ∧ okEnds t a b = true ∧ H x = some (.ins (He.ga K "Avenue") dx []) ∧
  ∀ H' : Hp, But x H H' → H' x = some (.ins (He.ga K "Avenue") dx (mkAv t a b).fs) → Q .non H'
theorem sc_Avenue_init : FnScope ["self", "name", "one", "other"] ["self", "name", "one", "other"] (defScope s_Avenue_init) := ⟨rfl, rfl, rfl, by decide +kernel, rfl, by decide +kernel, by decide +kernel⟩

theorem p_Avenue_init (T : Tx K mg) : Prom P w K mg base 3 d_Avenue_init ["self", "name", "one", "other"] (spInitA K) := by
  obtain ⟨fd, F⟩ := f_Avenue_init T
  obtain ⟨fdC, FC, GC, BC⟩ := p_check_street (P := P) (w := w) (base := base) T
  refine ⟨fd, F, F.ok sc_Avenue_init (fun vs H Q E h => ?_) (fun cdv A outer s H vs Q E hr h => ?_), F.bindsN fun _ _ _ _ _ _ us hl => match us, hl with | [_, _, _, _], _ => rfl⟩
  · obtain ⟨x, dx, t, a, b, rfl, _⟩ := h
    rfl
  · obtain ⟨x, dx, t, a, b, rfl, ok, hx, k⟩ := h
    obtain ⟨o1, o2, o3, o4⟩ := okEnds_iff ok
    refine ⟨_, PSs.nox (pss_cons (ps_expr (pe_call GC (hr.mono (by decide)) rfl (g_check_street T) FC.kp BC .nil pass0 (pa_cons (pv 1) (pa_cons (pv 2) (pa_cons (pv 3) pa_nil)))))
      (pss_cons (ps_fld (pv 0) (pv 1) rfl)
      (pss_cons (ps_fld (pv 0) (pe_ifExp (pt_cmpR op_lt_str (pv 2) (pv 3) (nomark _)) (pv 2) (pv 3)) rfl)
      (pss_one (ps_fld (pv 0) (pe_ifExp (pt_cmpR op_lt_str (pv 2) (pv 3) (nomark _)) (pv 3) (pv 2)) rfl))))), ?_⟩
    refine ⟨_, rfl, _, rfl, _, rfl, t, a, b, rfl, o1, o2, o3, o4, fun H1 s1 => ?_⟩
    refine ⟨_, rfl, _, rfl, x, _, dx, _, rfl, s1 _ _ hx, c_Avenue T, na_Avenue_name T, (by show 0 < 1000; decide), ?_⟩
    unfold mkAv at k
    by_cases h : strLt a b
    · rw [if_pos h] at k
      have e : decide (a.cps.toList < b.cps.toList) = true := decide_eq_true h
      refine ⟨_, rfl, _, rfl, _, _, rfl, rfl, _, rfl, ?_⟩
      rw [e]
      refine iteT ⟨_, rfl, _, rfl, x, _, dx, _, rfl, upd_same, c_Avenue T, na_Avenue_one T, (by show 1 < 1000; decide), ?_⟩
      rw [upd_upd]
      refine ⟨_, rfl, _, rfl, _, _, rfl, rfl, _, rfl, ?_⟩
      rw [e]
      refine iteT ⟨_, rfl, _, rfl, x, _, dx, _, rfl, upd_same, c_Avenue T, na_Avenue_other T, (by show _ < 1000; exact putF_lt2 _ _ _ _), ?_⟩
      rw [upd_upd]
      exact k _ (fun c o n e => by rw [upd_ne n]; exact s1 _ _ e) upd_same
    · rw [if_neg h] at k
      have e : decide (a.cps.toList < b.cps.toList) = false := decide_eq_false h
      refine ⟨_, rfl, _, rfl, _, _, rfl, rfl, _, rfl, ?_⟩
      rw [e]
      refine iteF ⟨_, rfl, _, rfl, x, _, dx, _, rfl, upd_same, c_Avenue T, na_Avenue_one T, (by show 1 < 1000; decide), ?_⟩
      rw [upd_upd]
      refine ⟨_, rfl, _, rfl, _, _, rfl, rfl, _, rfl, ?_⟩
      rw [e]
      refine iteF ⟨_, rfl, _, rfl, x, _, dx, _, rfl, upd_same, c_Avenue T, na_Avenue_other T, (by show _ < 1000; exact putF_lt2 _ _ _ _), ?_⟩
      rw [upd_upd]
      exact k _ (fun c o n e => by rw [upd_ne n]; exact s1 _ _ e) upd_same
def spInitR (K : PySem.W.Frag) : Sp := fun vs H Q _ => ∃ (x dx : Addr) (t a b : Str) (i j : Int), vs = [.ref x, .str t, .str a, .str b, .int i, .int j] ∧ okEnds t a b = true ∧ priceOk i ∧ priceOk j ∧ H x = some (.ins (He.ga K "Road") dx []) ∧
  ∀ H' : Hp, But x H H' → H' x = some (.ins (He.ga K "Road") dx (mkRd t a b i j).fs) → Q .non H'
theorem sc_Road_init : FnScope ["self", "name", "one", "other", "there", "back"] ["self", "name", "one", "other", "there", "back"] (defScope s_Road_init) := ⟨rfl, rfl, rfl, by decide +kernel, rfl, by decide +kernel, by decide +kernel⟩

theorem p_Road_init (T : Tx K mg) : ∃ fd, Fd K d_Road_init fd ∧ FnOk P w K mg base CX0 4 (d_Road_init.adr K) fd ["self", "name", "one", "other", "there", "back"] (spInitR K) := by
  obtain ⟨fd, F⟩ := f_Road_init T
  obtain ⟨fdC, FC, GC, BC⟩ := p_check_street (P := P) (w := w) (base := base) T
  obtain ⟨fdQ, FQ, GQ, BQ⟩ := p_check_prices (P := P) (w := w) (base := base) T
  refine ⟨fd, F, F.ok sc_Road_init (fun vs H Q E h => ?_) (fun cdv A outer s H vs Q E hr h => ?_)⟩
  · obtain ⟨x, dx, t, a, b, i, j, rfl, _⟩ := h
    rfl
  · obtain ⟨x, dx, t, a, b, i, j, rfl, ok, hi, hj, hx, k⟩ := h
    obtain ⟨o1, o2, o3, o4⟩ := okEnds_iff ok
    refine ⟨_, PSs.nox (pss_cons (ps_expr (pe_call GC (hr.mono (by decide)) rfl (g_check_street T) FC.kp BC .nil pass0 (pa_cons (pv 1) (pa_cons (pv 2) (pa_cons (pv 3) pa_nil)))))
      (pss_cons (ps_expr (pe_call GQ (hr.mono (by decide)) rfl (g_check_prices T) FQ.kp BQ .nil pass0 (pa_cons (pv 4) (pa_cons (pv 5) pa_nil))))
      (pss_cons (ps_fld (pv 0) (pv 1) rfl)
      (pss_cons (ps_fld (pv 0) (pe_ifExp (pt_cmpR op_lt_str (pv 2) (pv 3) (nomark _)) (pv 2) (pv 3)) rfl)
      (pss_cons (ps_fld (pv 0) (pe_ifExp (pt_cmpR op_lt_str (pv 2) (pv 3) (nomark _)) (pv 3) (pv 2)) rfl)
      (pss_cons (ps_fld (pv 0) (pe_ifExp (pt_cmpR op_lt_str (pv 2) (pv 3) (nomark _)) (pv 4) (pv 5)) rfl)
      (pss_one (ps_fld (pv 0) (pe_ifExp (pt_cmpR op_lt_str (pv 2) (pv 3) (nomark _)) (pv 5) (pv 4)) rfl)))))))), ?_⟩
    refine ⟨_, rfl, _, rfl, _, rfl, t, a, b, rfl, o1, o2, o3, o4, fun H1 s1 => ?_⟩
    refine ⟨_, rfl, _, rfl, i, j, rfl, hi, hj, fun H2 s2 => ?_⟩
    have s12 := s1.trans s2
    refine ⟨_, rfl, _, rfl, x, _, dx, _, rfl, s12 _ _ hx, c_Road T, na_Road_name T, (by show 0 < 1000; decide), ?_⟩
    unfold mkRd at k
    by_cases h : strLt a b
    · rw [if_pos h] at k
      have e : decide (a.cps.toList < b.cps.toList) = true := decide_eq_true h
      refine ⟨_, rfl, _, rfl, _, _, rfl, rfl, _, rfl, ?_⟩
      rw [e]
      refine iteT ⟨_, rfl, _, rfl, x, _, dx, _, rfl, upd_same, c_Road T, na_Road_one T, (by show _ < 1000; exact putF_lt1 _ _), ?_⟩
      rw [upd_upd]
      refine ⟨_, rfl, _, rfl, _, _, rfl, rfl, _, rfl, ?_⟩
      rw [e]
      refine iteT ⟨_, rfl, _, rfl, x, _, dx, _, rfl, upd_same, c_Road T, na_Road_other T, (by show _ < 1000; exact putF_lt2 _ _ _ _), ?_⟩
      rw [upd_upd]
      refine ⟨_, rfl, _, rfl, _, _, rfl, rfl, _, rfl, ?_⟩
      rw [e]
      refine iteT ⟨_, rfl, _, rfl, x, _, dx, _, rfl, upd_same, c_Road T, na_Road_there T, (by show _ < 1000; exact putF_lt3 _ _ _ _ _ _), ?_⟩
      rw [upd_upd]
      refine ⟨_, rfl, _, rfl, _, _, rfl, rfl, _, rfl, ?_⟩
      rw [e]
      refine iteT ⟨_, rfl, _, rfl, x, _, dx, _, rfl, upd_same, c_Road T, na_Road_back T, (by show _ < 1000; exact putF_lt4 _ _ _ _ _ _ _ _), ?_⟩
      rw [upd_upd]
      exact k _ (fun c o n e => by rw [upd_ne n]; exact s12 _ _ e) upd_same
    · rw [if_neg h] at k
      have e : decide (a.cps.toList < b.cps.toList) = false := decide_eq_false h
      refine ⟨_, rfl, _, rfl, _, _, rfl, rfl, _, rfl, ?_⟩
      rw [e]
      refine iteF ⟨_, rfl, _, rfl, x, _, dx, _, rfl, upd_same, c_Road T, na_Road_one T, (by show _ < 1000; exact putF_lt1 _ _), ?_⟩
      rw [upd_upd]
      refine ⟨_, rfl, _, rfl, _, _, rfl, rfl, _, rfl, ?_⟩
      rw [e]
      refine iteF ⟨_, rfl, _, rfl, x, _, dx, _, rfl, upd_same, c_Road T, na_Road_other T, (by show _ < 1000; exact putF_lt2 _ _ _ _), ?_⟩
      rw [upd_upd]
      refine ⟨_, rfl, _, rfl, _, _, rfl, rfl, _, rfl, ?_⟩
      rw [e]
      refine iteF ⟨_, rfl, _, rfl, x, _, dx, _, rfl, upd_same, c_Road T, na_Road_there T, (by show _ < 1000; exact putF_lt3 _ _ _ _ _ _), ?_⟩
      rw [upd_upd]
      refine ⟨_, rfl, _, rfl, _, _, rfl, rfl, _, rfl, ?_⟩
      rw [e]
      refine iteF ⟨_, rfl, _, rfl, x, _, dx, _, rfl, upd_same, c_Road T, na_Road_back T, (by show _ < 1000; exact putF_lt4 _ _ _ _ _ _ _ _), ?_⟩
      rw [upd_upd]
      exact k _ (fun c o n e => by rw [upd_ne n]; exact s12 _ _ e) upd_same
end
end K8
namespace K8
open PySem PySem.Spec PyProof.Rows L2 Hx Gx Nx
section
variable {P : Program} {w : World} {K : PySem.W.Frag} {mg : Str → Option Value} {base : Heap}

def tyNames : List String := ["NoneType", "bool", "int", "str", "list", "tuple", "dict"]
/-- what stands on the right: a street, or a thing of a built-in kind -/
def YSt (K : PySem.W.Frag) (H : Hp) (y : V) : Option Sv → Prop
  | some v => ∃ a, y = .ref a ∧ StAt K H a v
  | none => ∃ t : String, TyX K H y (.type t) ∧ t ∈ tyNames
theorem kit_Lane (T : Tx K mg) {t : String} (h : t ∈ tyNames) : PySem.W.kitOne K (.type t) (.ref (He.ga K "Lane")) = some false := by
  unfold tyNames at h
  simp only [List.mem_cons, List.not_mem_nil, or_false] at h
  rcases h with rfl | rfl | rfl | rfl | rfl | rfl | rfl
  · exact k_NoneType_Lane T
  · exact k_bool_Lane T
  · exact k_int_Lane T
  · exact k_str_Lane T
  · exact k_list_Lane T
  · exact k_tuple_Lane T
  · exact k_dict_Lane T
theorem nfs_Lane (T : Tx K mg) {t : String} (h : t ∈ tyNames) : PySem.W.notFirst K (He.ga K "Lane") (.type t) = true := by
  unfold tyNames at h
  simp only [List.mem_cons, List.not_mem_nil, or_false] at h
  rcases h with rfl | rfl | rfl | rfl | rfl | rfl | rfl
  · exact nf_Lane_NoneType T
  · exact nf_Lane_bool T
  · exact nf_Lane_int T
  · exact nf_Lane_str T
  · exact nf_Lane_list T
  · exact nf_Lane_tuple T
  · exact nf_Lane_dict T
theorem kit_Avenue (T : Tx K mg) {t : String} (h : t ∈ tyNames) : PySem.W.kitOne K (.type t) (.ref (He.ga K "Avenue")) = some false := by
  unfold tyNames at h
  simp only [List.mem_cons, List.not_mem_nil, or_false] at h
  rcases h with rfl | rfl | rfl | rfl | rfl | rfl | rfl
  · exact k_NoneType_Avenue T
  · exact k_bool_Avenue T
  · exact k_int_Avenue T
  · exact k_str_Avenue T
  · exact k_list_Avenue T
  · exact k_tuple_Avenue T
  · exact k_dict_Avenue T
theorem nfs_Avenue (T : Tx K mg) {t : String} (h : t ∈ tyNames) : PySem.W.notFirst K (He.ga K "Avenue") (.type t) = true := by
  unfold tyNames at h
  simp only [List.mem_cons, List.not_mem_nil, or_false] at h
  rcases h with rfl | rfl | rfl | rfl | rfl | rfl | rfl
  · exact nf_Avenue_NoneType T
  · exact nf_Avenue_bool T
  · exact nf_Avenue_int T
  · exact nf_Avenue_str T
  · exact nf_Avenue_list T
  · exact nf_Avenue_tuple T
  · exact nf_Avenue_dict T
theorem kit_Road (T : Tx K mg) {t : String} (h : t ∈ tyNames) : PySem.W.kitOne K (.type t) (.ref (He.ga K "Road")) = some false := by
  unfold tyNames at h
  simp only [List.mem_cons, List.not_mem_nil, or_false] at h
  rcases h with rfl | rfl | rfl | rfl | rfl | rfl | rfl
  · exact k_NoneType_Road T
  · exact k_bool_Road T
  · exact k_int_Road T
  · exact k_str_Road T
  · exact k_list_Road T
  · exact k_tuple_Road T
  · exact k_dict_Road T
theorem nfs_Road (T : Tx K mg) {t : String} (h : t ∈ tyNames) : PySem.W.notFirst K (He.ga K "Road") (.type t) = true := by
  unfold tyNames at h
  simp only [List.mem_cons, List.not_mem_nil, or_false] at h
  rcases h with rfl | rfl | rfl | rfl | rfl | rfl | rfl
  · exact nf_Road_NoneType T
  · exact nf_Road_bool T
  · exact nf_Road_int T
  · exact nf_Road_str T
  · exact nf_Road_list T
  · exact nf_Road_tuple T
  · exact nf_Road_dict T

theorem tyx_st (T : Tx K mg) {H : Hp} {a : Addr} {v : Sv} (h : StAt K H a v) : TyX K H (.ref a) (.ref (He.ga K v.cls)) := by
  obtain ⟨dx, h⟩ := h
  cases v with
  | lane => exact .base (.ins h (c_Lane T) (ci_Lane T).ca (ci_Lane T).cn (ci_Lane T).ct (ci_Lane T).cm)
  | avenue => exact .base (.ins h (c_Avenue T) (ci_Avenue T).ca (ci_Avenue T).cn (ci_Avenue T).ct (ci_Avenue T).cm)
  | road => exact .base (.ins h (c_Road T) (ci_Road T).ca (ci_Road T).cn (ci_Road T).ct (ci_Road T).cm)
def spEq (K : PySem.W.Frag) (c : Str) : Sp := fun vs H Q _ => ∃ (x : Addr) (y : V) (v : Sv) (o : Option Sv), vs = [.ref x, y] ∧ v.cls = c ∧ StAt K H x v ∧ YSt K H y o ∧ Q (.bl (decide (o = some v))) H
theorem sc_Lane_eq : FnScope ["self", "other"] ["self", "other"] (defScope s_Lane_eq) := ⟨rfl, rfl, rfl, by decide +kernel, rfl, by decide +kernel, by decide +kernel⟩
theorem p_Lane_eq (T : Tx K mg) : Prom P w K mg base 1 d_Lane_eq ["self", "other"] (spEq K "Lane") := by
  obtain ⟨fd, F⟩ := f_Lane_eq T
  refine ⟨fd, F, F.ok sc_Lane_eq (fun vs H Q E h => ?_) (fun cdv A outer s H vs Q E hr h => ?_), F.bindsN fun _ _ _ _ _ _ us hl => match us, hl with | [_, _], _ => rfl⟩
  · obtain ⟨x, y, v, o, rfl, _⟩ := h
    rfl
  · obtain ⟨x, y, v, o, rfl, hv, hx, hy, k⟩ := h
    refine ⟨_, PSs.nox (pss_one (ps_ret (pe_and (pe_callB call_isi (by rfl) (n_isinstance T) (by decide +kernel) (pa_cons (pv 1) (pa_cons (pe_glob (v := .ref (He.ga K "Lane")) rfl (g_Lane T) rfl) pa_nil))) (pe_and (pe_cmpR op_eq (pe_fld (pv 0) rfl) (pe_fld (pv 1) rfl) (nomark _)) (pe_and (pe_cmpR op_eq (pe_fld (pv 0) rfl) (pe_fld (pv 1) rfl) (nomark _)) (pe_one (pe_cmpR op_eq (pe_fld (pv 0) rfl) (pe_fld (pv 1) rfl) (nomark _)))))))), ?_⟩
    cases v with
    | avenue => exact absurd (show ("Avenue" : Str) = "Lane" from hv) (by decide +kernel)
    | road => exact absurd (show ("Road" : Str) = "Lane" from hv) (by decide +kernel)
    | lane t a b =>
      obtain ⟨dx, hx⟩ := hx
      cases o with
      | none =>
        obtain ⟨ty, hT, hm⟩ := hy
        exact ⟨_, rfl, _, _, _, _, false, rfl, .own _, hT, kit_Lane T hm, _, rfl, k⟩
      | some v2 =>
        obtain ⟨y, rfl, hy⟩ := hy
        cases v2 with
        | lane t2 a2 b2 =>
          have ht := tyx_st T hy
          obtain ⟨dy, hy⟩ := hy
          refine ⟨_, rfl, _, _, _, _, true, rfl, .own _, ht, k_Lane_Lane T, _, rfl, ?_⟩
          have e0 : decide (V.str t = V.str t2) = decide (t = t2) := by simp
          refine ⟨_, rfl, x, _, dx, _, _, rfl, hx, c_Lane T, na_Lane_name T, lf_name _ _ _, _, rfl, y, _, dy, _, _, rfl, hy, c_Lane T, na_Lane_name T, lf_name _ _ _, rfl, _, rfl, ?_⟩
          rw [e0]
          by_cases h0 : t = t2
          rotate_left
          · rw [decide_eq_false h0]
            refine iteF ?_
            have z : decide (some (Sv.lane t2 a2 b2) = some (Sv.lane t a b)) = false := decide_eq_false fun u => h0 (by cases u; rfl)
            rw [z] at k
            exact k
          rw [decide_eq_true h0]
          refine iteT ?_
          have e1 : decide (V.str a = V.str a2) = decide (a = a2) := by simp
          refine ⟨_, rfl, x, _, dx, _, _, rfl, hx, c_Lane T, na_Lane_start T, lf_start _ _ _, _, rfl, y, _, dy, _, _, rfl, hy, c_Lane T, na_Lane_start T, lf_start _ _ _, rfl, _, rfl, ?_⟩
          rw [e1]
          by_cases h1 : a = a2
          rotate_left
          · rw [decide_eq_false h1]
            refine iteF ?_
            have z : decide (some (Sv.lane t2 a2 b2) = some (Sv.lane t a b)) = false := decide_eq_false fun u => h1 (by cases u; rfl)
            rw [z] at k
            exact k
          rw [decide_eq_true h1]
          refine iteT ?_
          have e2 : decide (V.str b = V.str b2) = decide (b = b2) := by simp
          refine ⟨_, rfl, x, _, dx, _, _, rfl, hx, c_Lane T, na_Lane_goal T, lf_goal _ _ _, _, rfl, y, _, dy, _, _, rfl, hy, c_Lane T, na_Lane_goal T, lf_goal _ _ _, rfl, ?_⟩
          show Q (.bl (decide (V.str b = V.str b2))) H
          rw [e2]
          have z : decide (some (Sv.lane t2 a2 b2) = some (Sv.lane t a b)) = decide (b = b2) := by
            subst h0 h1
            by_cases u : b = b2
            · subst u
              simp
            · rw [decide_eq_false u]
              exact decide_eq_false fun w => u (by cases w; rfl)
          rw [z] at k
          exact k
        | avenue t2 a2 b2 =>
          have ht := tyx_st T hy
          obtain ⟨dy, hy⟩ := hy
          exact ⟨_, rfl, _, _, _, _, false, rfl, .own _, ht, k_Avenue_Lane T, _, rfl, k⟩
        | road t2 a2 b2 i2 j2 =>
          have ht := tyx_st T hy
          obtain ⟨dy, hy⟩ := hy
          exact ⟨_, rfl, _, _, _, _, false, rfl, .own _, ht, k_Road_Lane T, _, rfl, k⟩
theorem sc_Avenue_eq : FnScope ["self", "other"] ["self", "other"] (defScope s_Avenue_eq) := ⟨rfl, rfl, rfl, by decide +kernel, rfl, by decide +kernel, by decide +kernel⟩
theorem p_Avenue_eq (T : Tx K mg) : Prom P w K mg base 1 d_Avenue_eq ["self", "other"] (spEq K "Avenue") := by
  obtain ⟨fd, F⟩ := f_Avenue_eq T
  refine ⟨fd, F, F.ok sc_Avenue_eq (fun vs H Q E h => ?_) (fun cdv A outer s H vs Q E hr h => ?_), F.bindsN fun _ _ _ _ _ _ us hl => match us, hl with | [_, _], _ => rfl⟩
  · obtain ⟨x, y, v, o, rfl, _⟩ := h
    rfl
  · obtain ⟨x, y, v, o, rfl, hv, hx, hy, k⟩ := h
    refine ⟨_, PSs.nox (pss_one (ps_ret (pe_and (pe_callB call_isi (by rfl) (n_isinstance T) (by decide +kernel) (pa_cons (pv 1) (pa_cons (pe_glob (v := .ref (He.ga K "Avenue")) rfl (g_Avenue T) rfl) pa_nil))) (pe_and (pe_cmpR op_eq (pe_fld (pv 0) rfl) (pe_fld (pv 1) rfl) (nomark _)) (pe_and (pe_cmpR op_eq (pe_fld (pv 0) rfl) (pe_fld (pv 1) rfl) (nomark _)) (pe_one (pe_cmpR op_eq (pe_fld (pv 0) rfl) (pe_fld (pv 1) rfl) (nomark _)))))))), ?_⟩
    cases v with
    | lane => exact absurd (show ("Lane" : Str) = "Avenue" from hv) (by decide +kernel)
    | road => exact absurd (show ("Road" : Str) = "Avenue" from hv) (by decide +kernel)
    | avenue t a b =>
      obtain ⟨dx, hx⟩ := hx
      cases o with
      | none =>
        obtain ⟨ty, hT, hm⟩ := hy
        exact ⟨_, rfl, _, _, _, _, false, rfl, .own _, hT, kit_Avenue T hm, _, rfl, k⟩
      | some v2 =>
        obtain ⟨y, rfl, hy⟩ := hy
        cases v2 with
        | lane t2 a2 b2 =>
          have ht := tyx_st T hy
          obtain ⟨dy, hy⟩ := hy
          exact ⟨_, rfl, _, _, _, _, false, rfl, .own _, ht, k_Lane_Avenue T, _, rfl, k⟩
        | avenue t2 a2 b2 =>
          have ht := tyx_st T hy
          obtain ⟨dy, hy⟩ := hy
          refine ⟨_, rfl, _, _, _, _, true, rfl, .own _, ht, k_Avenue_Avenue T, _, rfl, ?_⟩
          have e0 : decide (V.str t = V.str t2) = decide (t = t2) := by simp
          refine ⟨_, rfl, x, _, dx, _, _, rfl, hx, c_Avenue T, na_Avenue_name T, af_name _ _ _, _, rfl, y, _, dy, _, _, rfl, hy, c_Avenue T, na_Avenue_name T, af_name _ _ _, rfl, _, rfl, ?_⟩
          rw [e0]
          by_cases h0 : t = t2
          rotate_left
          · rw [decide_eq_false h0]
            refine iteF ?_
            have z : decide (some (Sv.avenue t2 a2 b2) = some (Sv.avenue t a b)) = false := decide_eq_false fun u => h0 (by cases u; rfl)
            rw [z] at k
            exact k
          rw [decide_eq_true h0]
          refine iteT ?_
          have e1 : decide (V.str a = V.str a2) = decide (a = a2) := by simp
          refine ⟨_, rfl, x, _, dx, _, _, rfl, hx, c_Avenue T, na_Avenue_one T, af_one _ _ _, _, rfl, y, _, dy, _, _, rfl, hy, c_Avenue T, na_Avenue_one T, af_one _ _ _, rfl, _, rfl, ?_⟩
          rw [e1]
          by_cases h1 : a = a2
          rotate_left
          · rw [decide_eq_false h1]
            refine iteF ?_
            have z : decide (some (Sv.avenue t2 a2 b2) = some (Sv.avenue t a b)) = false := decide_eq_false fun u => h1 (by cases u; rfl)
            rw [z] at k
            exact k
          rw [decide_eq_true h1]
          refine iteT ?_
          have e2 : decide (V.str b = V.str b2) = decide (b = b2) := by simp
          refine ⟨_, rfl, x, _, dx, _, _, rfl, hx, c_Avenue T, na_Avenue_other T, af_other _ _ _, _, rfl, y, _, dy, _, _, rfl, hy, c_Avenue T, na_Avenue_other T, af_other _ _ _, rfl, ?_⟩
          show Q (.bl (decide (V.str b = V.str b2))) H
          rw [e2]
          have z : decide (some (Sv.avenue t2 a2 b2) = some (Sv.avenue t a b)) = decide (b = b2) := by
            subst h0 h1
            by_cases u : b = b2
            · subst u
              simp
            · rw [decide_eq_false u]
              exact decide_eq_false fun w => u (by cases w; rfl)
          rw [z] at k
          exact k
        | road t2 a2 b2 i2 j2 =>
          have ht := tyx_st T hy
          obtain ⟨dy, hy⟩ := hy
          exact ⟨_, rfl, _, _, _, _, false, rfl, .own _, ht, k_Road_Avenue T, _, rfl, k⟩
theorem sc_Road_eq : FnScope ["self", "other"] ["self", "other"] (defScope s_Road_eq) := ⟨rfl, rfl, rfl, by decide +kernel, rfl, by decide +kernel, by decide +kernel⟩
theorem p_Road_eq (T : Tx K mg) : Prom P w K mg base 1 d_Road_eq ["self", "other"] (spEq K "Road") := by
  obtain ⟨fd, F⟩ := f_Road_eq T
  refine ⟨fd, F, F.ok sc_Road_eq (fun vs H Q E h => ?_) (fun cdv A outer s H vs Q E hr h => ?_), F.bindsN fun _ _ _ _ _ _ us hl => match us, hl with | [_, _], _ => rfl⟩
  · obtain ⟨x, y, v, o, rfl, _⟩ := h
    rfl
  · obtain ⟨x, y, v, o, rfl, hv, hx, hy, k⟩ := h
    refine ⟨_, PSs.nox (pss_one (ps_ret (pe_and (pe_callB call_isi (by rfl) (n_isinstance T) (by decide +kernel) (pa_cons (pv 1) (pa_cons (pe_glob (v := .ref (He.ga K "Road")) rfl (g_Road T) rfl) pa_nil))) (pe_and (pe_cmpR op_eq (pe_fld (pv 0) rfl) (pe_fld (pv 1) rfl) (nomark _)) (pe_and (pe_cmpR op_eq (pe_fld (pv 0) rfl) (pe_fld (pv 1) rfl) (nomark _)) (pe_and (pe_cmpR op_eq (pe_fld (pv 0) rfl) (pe_fld (pv 1) rfl) (nomark _)) (pe_and (pe_cmpR op_eq (pe_fld (pv 0) rfl) (pe_fld (pv 1) rfl) (nomark _)) (pe_one (pe_cmpR op_eq (pe_fld (pv 0) rfl) (pe_fld (pv 1) rfl) (nomark _)))))))))), ?_⟩
    cases v with
    | lane => exact absurd (show ("Lane" : Str) = "Road" from hv) (by decide +kernel)
    | avenue => exact absurd (show ("Avenue" : Str) = "Road" from hv) (by decide +kernel)
    | road t a b i j =>
      obtain ⟨dx, hx⟩ := hx
      cases o with
      | none =>
        obtain ⟨ty, hT, hm⟩ := hy
        exact ⟨_, rfl, _, _, _, _, false, rfl, .own _, hT, kit_Road T hm, _, rfl, k⟩
      | some v2 =>
        obtain ⟨y, rfl, hy⟩ := hy
        cases v2 with
        | lane t2 a2 b2 =>
          have ht := tyx_st T hy
          obtain ⟨dy, hy⟩ := hy
          exact ⟨_, rfl, _, _, _, _, false, rfl, .own _, ht, k_Lane_Road T, _, rfl, k⟩
        | avenue t2 a2 b2 =>
          have ht := tyx_st T hy
          obtain ⟨dy, hy⟩ := hy
          exact ⟨_, rfl, _, _, _, _, false, rfl, .own _, ht, k_Avenue_Road T, _, rfl, k⟩
        | road t2 a2 b2 i2 j2 =>
          have ht := tyx_st T hy
          obtain ⟨dy, hy⟩ := hy
          refine ⟨_, rfl, _, _, _, _, true, rfl, .own _, ht, k_Road_Road T, _, rfl, ?_⟩
          have e0 : decide (V.str t = V.str t2) = decide (t = t2) := by simp
          refine ⟨_, rfl, x, _, dx, _, _, rfl, hx, c_Road T, na_Road_name T, rf_name _ _ _ _ _, _, rfl, y, _, dy, _, _, rfl, hy, c_Road T, na_Road_name T, rf_name _ _ _ _ _, rfl, _, rfl, ?_⟩
          rw [e0]
          by_cases h0 : t = t2
          rotate_left
          · rw [decide_eq_false h0]
            refine iteF ?_
            have z : decide (some (Sv.road t2 a2 b2 i2 j2) = some (Sv.road t a b i j)) = false := decide_eq_false fun u => h0 (by cases u; rfl)
            rw [z] at k
            exact k
          rw [decide_eq_true h0]
          refine iteT ?_
          have e1 : decide (V.str a = V.str a2) = decide (a = a2) := by simp
          refine ⟨_, rfl, x, _, dx, _, _, rfl, hx, c_Road T, na_Road_one T, rf_one _ _ _ _ _, _, rfl, y, _, dy, _, _, rfl, hy, c_Road T, na_Road_one T, rf_one _ _ _ _ _, rfl, _, rfl, ?_⟩
          rw [e1]
          by_cases h1 : a = a2
          rotate_left
          · rw [decide_eq_false h1]
            refine iteF ?_
            have z : decide (some (Sv.road t2 a2 b2 i2 j2) = some (Sv.road t a b i j)) = false := decide_eq_false fun u => h1 (by cases u; rfl)
            rw [z] at k
            exact k
          rw [decide_eq_true h1]
          refine iteT ?_
          have e2 : decide (V.str b = V.str b2) = decide (b = b2) := by simp
          refine ⟨_, rfl, x, _, dx, _, _, rfl, hx, c_Road T, na_Road_other T, rf_other _ _ _ _ _, _, rfl, y, _, dy, _, _, rfl, hy, c_Road T, na_Road_other T, rf_other _ _ _ _ _, rfl, _, rfl, ?_⟩
          rw [e2]
          by_cases h2 : b = b2
          rotate_left
          · rw [decide_eq_false h2]
            refine iteF ?_
            have z : decide (some (Sv.road t2 a2 b2 i2 j2) = some (Sv.road t a b i j)) = false := decide_eq_false fun u => h2 (by cases u; rfl)
            rw [z] at k
            exact k
          rw [decide_eq_true h2]
          refine iteT ?_
          have e3 : decide (V.int i = V.int i2) = decide (i = i2) := by simp
          refine ⟨_, rfl, x, _, dx, _, _, rfl, hx, c_Road T, na_Road_there T, rf_there _ _ _ _ _, _, rfl, y, _, dy, _, _, rfl, hy, c_Road T, na_Road_there T, rf_there _ _ _ _ _, rfl, _, rfl, ?_⟩
          rw [e3]
          by_cases h3 : i = i2
          rotate_left
          · rw [decide_eq_false h3]
            refine iteF ?_
            have z : decide (some (Sv.road t2 a2 b2 i2 j2) = some (Sv.road t a b i j)) = false := decide_eq_false fun u => h3 (by cases u; rfl)
            rw [z] at k
            exact k
          rw [decide_eq_true h3]
          refine iteT ?_
          have e4 : decide (V.int j = V.int j2) = decide (j = j2) := by simp
          refine ⟨_, rfl, x, _, dx, _, _, rfl, hx, c_Road T, na_Road_back T, rf_back _ _ _ _ _, _, rfl, y, _, dy, _, _, rfl, hy, c_Road T, na_Road_back T, rf_back _ _ _ _ _, rfl, ?_⟩
          show Q (.bl (decide (V.int j = V.int j2))) H
          rw [e4]
          have z : decide (some (Sv.road t2 a2 b2 i2 j2) = some (Sv.road t a b i j)) = decide (j = j2) := by
            subst h0 h1 h2 h3
            by_cases u : j = j2
            · subst u
              simp
            · rw [decide_eq_false u]
              exact decide_eq_false fun w => u (by cases w; rfl)
          rw [z] at k
          exact k
end
end K8
namespace Nx
open PySem PySem.Spec PyProof.Rows L2
section
variable {X : Cx} {CX : CXT} {k : Nat} {C f : Addr} {fd : FuncData} {ps : List Str} {sp : Sp} {E : XK}
/-- str(x) by the own __str__ of the class of x -/
def rStrO (C : Addr) (sp : Sp) (E : XK) : List V → Hp → VK → Prop := fun xs H Q =>
  ∃ (a dx : Addr) (fs : List (Str × V)), xs = [.ref a] ∧ H a = some (.ins C dx fs) ∧ sp [.ref a] H (fun z H' => ∃ y, z = .str y ∧ Q z H') E
theorem call_strO (hs : PySem.W.findIn X.K (.ref C) "__str__" = some (some (.ref f))) (hf : PySem.W.isFn X.K (.ref f) = true)
    (F : FnOk X.prog X.w X.K X.mg X.base CX k f fd ps sp) (hb : Binds X.K fd ps []) (hr : Room (k + 2) X.A) (hx : Passes CX X E) : CallR X (.type "str") (rStrO C sp E) := by
  rintro pins s σ H xs us Q I r ⟨a, dx, fs, rfl, ha, q⟩
  obtain ⟨u, rfl, ru⟩ := r.one
  cases (show u = Value.ref a from ru)
  obtain ⟨mA, J, _⟩ := ins_get I.hok ha
  obtain ⟨od, J, _⟩ := J.look
  have r1 : Room (k + 1) X.A.in1 := Room.in1 hr
  have r2 : Room k X.A.in1.in1 := Room.in1 r1
  refine PySem.W.kso_call (by have := r2.un; omega) I.kIn J hs hf ?_
  refine wpAny_mono (run_at F r2 I.env0.in1.in1 hb hx I (.cons (show RelV (.ref a) (.ref a) from rfl) .nil) q) ?_ (fun _ _ e => e)
  rintro r s' ⟨c, H', I', rc, y, rfl, qy⟩
  obtain ⟨t, rfl⟩ := (show ∃ t, r = Value.str y t from rc)
  exact ⟨.str y, H', I', ⟨t, rfl⟩, qy⟩
end
end Nx
namespace K8
open PySem PySem.Spec PyProof.Rows L2 Hx Gx Nx
section
variable {P : Program} {w : World} {K : PySem.W.Frag} {mg : Str → Option Value} {base : Heap}

/-- its names are names, its prices are prices -/
def WfSv : Sv → Prop
  | .lane t a b => nameB t = true ∧ nameB a = true ∧ nameB b = true
  | .avenue t a b => nameB t = true ∧ nameB a = true ∧ nameB b = true
  | .road t a b i j => nameB t = true ∧ nameB a = true ∧ nameB b = true ∧ priceOk i ∧ priceOk j
def numText (i : Int) : Str := Str.ofString (toString i)
def Sv.text : Sv → Str
  | .lane t a b => Str.empty ++ "lane " ++ t ++ " " ++ a ++ " " ++ b
  | .avenue t a b => Str.empty ++ "avenue " ++ t ++ " " ++ a ++ " " ++ b
  | .road t a b i j => Str.empty ++ "road " ++ t ++ " " ++ a ++ " " ++ b ++ " " ++ numText i ++ " " ++ numText j
theorem numText_len {i : Int} (h : priceOk i) : (numText i).length ≤ 41 ∧ i.natAbs.log2 < 1920 := by
  obtain ⟨h1, h2⟩ := h
  have z : i.natAbs < 2 ^ 40 := by omega
  have l : i.natAbs.log2 < 40 := by
    by_cases h0 : i.natAbs = 0
    · rw [h0]; decide
    · exact (Nat.log2_lt h0).mpr z
  refine ⟨?_, by omega⟩
  unfold numText
  rw [PySem.ofString_length]
  exact int_text_length_le (by decide) l
theorem name8 {x : Str} (h : nameB x = true) : x.length ≤ 8 := by
  unfold nameB at h
  rw [Bool.and_eq_true, Bool.and_eq_true] at h
  exact of_decide_eq_true h.1.2
def spStr (K : PySem.W.Frag) (c : Str) : Sp := fun vs H Q _ => ∃ (x : Addr) (v : Sv), vs = [.ref x] ∧ v.cls = c ∧ WfSv v ∧ StAt K H x v ∧ Q (.str v.text) H
theorem sc_Lane_str : FnScope ["self"] ["self"] (defScope s_Lane_str) := ⟨rfl, rfl, rfl, by decide +kernel, rfl, by decide +kernel, by decide +kernel⟩
theorem p_Lane_str (T : Tx K mg) : Prom P w K mg base 1 d_Lane_str ["self"] (spStr K "Lane") := by
  obtain ⟨fd, F⟩ := f_Lane_str T
  refine ⟨fd, F, F.ok sc_Lane_str (fun vs H Q E h => ?_) (fun cdv A outer s H vs Q E hr h => ?_), F.bindsN fun _ _ _ _ _ _ us hl => match us, hl with | [_], _ => rfl⟩
  · obtain ⟨x, v, rfl, _⟩ := h
    rfl
  · obtain ⟨x, v, rfl, hv, wf, hx, k⟩ := h
    refine ⟨_, PSs.nox (pss_one (ps_ret (pe_joined (PJ.cons pe_str (PJ.cons (pe_fmt (pe_fld (pv 0) rfl)) (PJ.cons pe_str (PJ.cons (pe_fmt (pe_fld (pv 0) rfl)) (PJ.cons pe_str (PJ.cons (pe_fmt (pe_fld (pv 0) rfl)) PJ.nil))))))))), ?_⟩
    cases v with
    | avenue => exact absurd (show ("Avenue" : Str) = "Lane" from hv) (by decide +kernel)
    | road => exact absurd (show ("Road" : Str) = "Lane" from hv) (by decide +kernel)
    | lane t a b =>
    obtain ⟨dx, hx⟩ := hx
    obtain ⟨w0, w1, w2⟩ := wf
    have l0 := name8 w0
    have l1 := name8 w1
    have l2 := name8 w2


    have sl : 1000 ≤ sizeLine := by decide
    have z0 : Str.empty.length = 0 := rfl
    have z1 : (Str.ofString "lane ").length ≤ 10 := by decide
    have z2 : (Str.ofString " ").length = 1 := by decide
    refine ⟨_, rfl, (by simp only [Str.length_append, numText] at *; omega), ?_⟩
    refine ⟨_, rfl, x, _, dx, _, _, rfl, hx, c_Lane T, na_Lane_name T, lf_name _ _ _, .inl ⟨_, rfl, nameB_len w0, _, rfl, (by simp only [Str.length_append, numText] at *; omega), ?_⟩⟩
    refine ⟨_, rfl, (by simp only [Str.length_append, numText] at *; omega), ?_⟩
    refine ⟨_, rfl, x, _, dx, _, _, rfl, hx, c_Lane T, na_Lane_start T, lf_start _ _ _, .inl ⟨_, rfl, nameB_len w1, _, rfl, (by simp only [Str.length_append, numText] at *; omega), ?_⟩⟩
    refine ⟨_, rfl, (by simp only [Str.length_append, numText] at *; omega), ?_⟩
    refine ⟨_, rfl, x, _, dx, _, _, rfl, hx, c_Lane T, na_Lane_goal T, lf_goal _ _ _, .inl ⟨_, rfl, nameB_len w2, _, rfl, (by simp only [Str.length_append, numText] at *; omega), ?_⟩⟩
    exact k
theorem sc_Avenue_str : FnScope ["self"] ["self"] (defScope s_Avenue_str) := ⟨rfl, rfl, rfl, by decide +kernel, rfl, by decide +kernel, by decide +kernel⟩
theorem p_Avenue_str (T : Tx K mg) : Prom P w K mg base 1 d_Avenue_str ["self"] (spStr K "Avenue") := by
  obtain ⟨fd, F⟩ := f_Avenue_str T
  refine ⟨fd, F, F.ok sc_Avenue_str (fun vs H Q E h => ?_) (fun cdv A outer s H vs Q E hr h => ?_), F.bindsN fun _ _ _ _ _ _ us hl => match us, hl with | [_], _ => rfl⟩
  · obtain ⟨x, v, rfl, _⟩ := h
    rfl
  · obtain ⟨x, v, rfl, hv, wf, hx, k⟩ := h
    refine ⟨_, PSs.nox (pss_one (ps_ret (pe_joined (PJ.cons pe_str (PJ.cons (pe_fmt (pe_fld (pv 0) rfl)) (PJ.cons pe_str (PJ.cons (pe_fmt (pe_fld (pv 0) rfl)) (PJ.cons pe_str (PJ.cons (pe_fmt (pe_fld (pv 0) rfl)) PJ.nil))))))))), ?_⟩
    cases v with
    | lane => exact absurd (show ("Lane" : Str) = "Avenue" from hv) (by decide +kernel)
    | road => exact absurd (show ("Road" : Str) = "Avenue" from hv) (by decide +kernel)
    | avenue t a b =>
    obtain ⟨dx, hx⟩ := hx
    obtain ⟨w0, w1, w2⟩ := wf
    have l0 := name8 w0
    have l1 := name8 w1
    have l2 := name8 w2


    have sl : 1000 ≤ sizeLine := by decide
    have z0 : Str.empty.length = 0 := rfl
    have z1 : (Str.ofString "avenue ").length ≤ 10 := by decide
    have z2 : (Str.ofString " ").length = 1 := by decide
    refine ⟨_, rfl, (by simp only [Str.length_append, numText] at *; omega), ?_⟩
    refine ⟨_, rfl, x, _, dx, _, _, rfl, hx, c_Avenue T, na_Avenue_name T, af_name _ _ _, .inl ⟨_, rfl, nameB_len w0, _, rfl, (by simp only [Str.length_append, numText] at *; omega), ?_⟩⟩
    refine ⟨_, rfl, (by simp only [Str.length_append, numText] at *; omega), ?_⟩
    refine ⟨_, rfl, x, _, dx, _, _, rfl, hx, c_Avenue T, na_Avenue_one T, af_one _ _ _, .inl ⟨_, rfl, nameB_len w1, _, rfl, (by simp only [Str.length_append, numText] at *; omega), ?_⟩⟩
    refine ⟨_, rfl, (by simp only [Str.length_append, numText] at *; omega), ?_⟩
    refine ⟨_, rfl, x, _, dx, _, _, rfl, hx, c_Avenue T, na_Avenue_other T, af_other _ _ _, .inl ⟨_, rfl, nameB_len w2, _, rfl, (by simp only [Str.length_append, numText] at *; omega), ?_⟩⟩
    exact k
theorem sc_Road_str : FnScope ["self"] ["self"] (defScope s_Road_str) := ⟨rfl, rfl, rfl, by decide +kernel, rfl, by decide +kernel, by decide +kernel⟩
theorem p_Road_str (T : Tx K mg) : Prom P w K mg base 1 d_Road_str ["self"] (spStr K "Road") := by
  obtain ⟨fd, F⟩ := f_Road_str T
  refine ⟨fd, F, F.ok sc_Road_str (fun vs H Q E h => ?_) (fun cdv A outer s H vs Q E hr h => ?_), F.bindsN fun _ _ _ _ _ _ us hl => match us, hl with | [_], _ => rfl⟩
  · obtain ⟨x, v, rfl, _⟩ := h
    rfl
  · obtain ⟨x, v, rfl, hv, wf, hx, k⟩ := h
    refine ⟨_, PSs.nox (pss_one (ps_ret (pe_joined (PJ.cons pe_str (PJ.cons (pe_fmt (pe_fld (pv 0) rfl)) (PJ.cons pe_str (PJ.cons (pe_fmt (pe_fld (pv 0) rfl)) (PJ.cons pe_str (PJ.cons (pe_fmt (pe_fld (pv 0) rfl)) (PJ.cons pe_str (PJ.cons (pe_fmt (pe_fld (pv 0) rfl)) (PJ.cons pe_str (PJ.cons (pe_fmt (pe_fld (pv 0) rfl)) PJ.nil))))))))))))), ?_⟩
    cases v with
    | lane => exact absurd (show ("Lane" : Str) = "Road" from hv) (by decide +kernel)
    | avenue => exact absurd (show ("Avenue" : Str) = "Road" from hv) (by decide +kernel)
    | road t a b i j =>
    obtain ⟨dx, hx⟩ := hx
    obtain ⟨w0, w1, w2, w3, w4⟩ := wf
    have l0 := name8 w0
    have l1 := name8 w1
    have l2 := name8 w2
    have l3 := (numText_len w3).1
    have l4 := (numText_len w4).1
    have sl : 1000 ≤ sizeLine := by decide
    have z0 : Str.empty.length = 0 := rfl
    have z1 : (Str.ofString "road ").length ≤ 10 := by decide
    have z2 : (Str.ofString " ").length = 1 := by decide
    refine ⟨_, rfl, (by simp only [Str.length_append, numText] at *; omega), ?_⟩
    refine ⟨_, rfl, x, _, dx, _, _, rfl, hx, c_Road T, na_Road_name T, rf_name _ _ _ _ _, .inl ⟨_, rfl, nameB_len w0, _, rfl, (by simp only [Str.length_append, numText] at *; omega), ?_⟩⟩
    refine ⟨_, rfl, (by simp only [Str.length_append, numText] at *; omega), ?_⟩
    refine ⟨_, rfl, x, _, dx, _, _, rfl, hx, c_Road T, na_Road_one T, rf_one _ _ _ _ _, .inl ⟨_, rfl, nameB_len w1, _, rfl, (by simp only [Str.length_append, numText] at *; omega), ?_⟩⟩
    refine ⟨_, rfl, (by simp only [Str.length_append, numText] at *; omega), ?_⟩
    refine ⟨_, rfl, x, _, dx, _, _, rfl, hx, c_Road T, na_Road_other T, rf_other _ _ _ _ _, .inl ⟨_, rfl, nameB_len w2, _, rfl, (by simp only [Str.length_append, numText] at *; omega), ?_⟩⟩
    refine ⟨_, rfl, (by simp only [Str.length_append, numText] at *; omega), ?_⟩
    refine ⟨_, rfl, x, _, dx, _, _, rfl, hx, c_Road T, na_Road_there T, rf_there _ _ _ _ _, .inr ⟨_, rfl, (numText_len w3).2, _, rfl, (by simp only [Str.length_append, numText] at *; omega), ?_⟩⟩
    refine ⟨_, rfl, (by simp only [Str.length_append, numText] at *; omega), ?_⟩
    refine ⟨_, rfl, x, _, dx, _, _, rfl, hx, c_Road T, na_Road_back T, rf_back _ _ _ _ _, .inr ⟨_, rfl, (numText_len w4).2, _, rfl, (by simp only [Str.length_append, numText] at *; omega), ?_⟩⟩
    exact k

def Sv.ends : Sv → Str × Str
  | .lane _ a b => if strLt a b then (a, b) else (b, a)
  | .avenue _ a b => (a, b)
  | .road _ a b _ _ => (a, b)
def spEnds (K : PySem.W.Frag) (c : Str) : Sp := fun vs H Q _ => ∃ (x : Addr) (v : Sv), vs = [.ref x] ∧ v.cls = c ∧ StAt K H x v ∧ ∀ t, H t = none → Q (.ref t) (upd H t (.tup [.str v.ends.1, .str v.ends.2]))
theorem sc_Lane_ends : FnScope ["self"] ["self"] (defScope s_Lane_ends) := ⟨rfl, rfl, rfl, by decide +kernel, rfl, by decide +kernel, by decide +kernel⟩
theorem p_Lane_ends (T : Tx K mg) : Prom P w K mg base 1 d_Lane_ends ["self"] (spEnds K "Lane") := by
  obtain ⟨fd, F⟩ := f_Lane_ends T
  refine ⟨fd, F, F.ok sc_Lane_ends (fun vs H Q E h => ?_) (fun cdv A outer s H vs Q E hr h => ?_), F.bindsN fun _ _ _ _ _ _ us hl => match us, hl with | [_], _ => rfl⟩
  · obtain ⟨x, v, rfl, _⟩ := h
    rfl
  · obtain ⟨x, v, rfl, hv, hx, k⟩ := h
    refine ⟨_, PSs.nox (pss_cons (ps_if (pt_cmpR op_lt_str (pe_fld (pv 0) rfl) (pe_fld (pv 0) rfl) (nomark _)) (pss_one (ps_ret (pe_tup (pa_cons (pe_fld (pv 0) rfl) (pa_cons (pe_fld (pv 0) rfl) pa_nil))))) pss_nil)
      (pss_one (ps_ret (pe_tup (pa_cons (pe_fld (pv 0) rfl) (pa_cons (pe_fld (pv 0) rfl) pa_nil)))))), ?_⟩
    cases v with
    | avenue => exact absurd (show ("Avenue" : Str) = "Lane" from hv) (by decide +kernel)
    | road => exact absurd (show ("Road" : Str) = "Lane" from hv) (by decide +kernel)
    | lane t a b =>
    obtain ⟨dx, hx⟩ := hx
    refine ⟨_, rfl, x, _, dx, _, _, rfl, hx, c_Lane T, na_Lane_start T, lf_start _ _ _, _, rfl, x, _, dx, _, _, rfl, hx, c_Lane T, na_Lane_goal T, lf_goal _ _ _, _, _, rfl, rfl, _, rfl, ?_⟩
    have e : (Sv.lane t a b).ends = if strLt a b then (a, b) else (b, a) := rfl
    rw [e] at k
    by_cases h : strLt a b
    · rw [if_pos h] at k
      have e : decide (a.cps.toList < b.cps.toList) = true := decide_eq_true h
      rw [e]
      exact iteT ⟨_, rfl, x, _, dx, _, _, rfl, hx, c_Lane T, na_Lane_start T, lf_start _ _ _, _, rfl, x, _, dx, _, _, rfl, hx, c_Lane T, na_Lane_goal T, lf_goal _ _ _, (by show 2 ≤ sizeLine; decide), k⟩
    · rw [if_neg h] at k
      have e : decide (a.cps.toList < b.cps.toList) = false := decide_eq_false h
      rw [e]
      exact iteF ⟨_, rfl, x, _, dx, _, _, rfl, hx, c_Lane T, na_Lane_goal T, lf_goal _ _ _, _, rfl, x, _, dx, _, _, rfl, hx, c_Lane T, na_Lane_start T, lf_start _ _ _, (by show 2 ≤ sizeLine; decide), k⟩
theorem sc_Avenue_ends : FnScope ["self"] ["self"] (defScope s_Avenue_ends) := ⟨rfl, rfl, rfl, by decide +kernel, rfl, by decide +kernel, by decide +kernel⟩
theorem p_Avenue_ends (T : Tx K mg) : Prom P w K mg base 1 d_Avenue_ends ["self"] (spEnds K "Avenue") := by
  obtain ⟨fd, F⟩ := f_Avenue_ends T
  refine ⟨fd, F, F.ok sc_Avenue_ends (fun vs H Q E h => ?_) (fun cdv A outer s H vs Q E hr h => ?_), F.bindsN fun _ _ _ _ _ _ us hl => match us, hl with | [_], _ => rfl⟩
  · obtain ⟨x, v, rfl, _⟩ := h
    rfl
  · obtain ⟨x, v, rfl, hv, hx, k⟩ := h
    refine ⟨_, PSs.nox (pss_one (ps_ret (pe_tup (pa_cons (pe_fld (pv 0) rfl) (pa_cons (pe_fld (pv 0) rfl) pa_nil))))), ?_⟩
    cases v with
    | lane => exact absurd (show ("Lane" : Str) = "Avenue" from hv) (by decide +kernel)
    | road => exact absurd (show ("Road" : Str) = "Avenue" from hv) (by decide +kernel)
    | avenue t a b =>
    obtain ⟨dx, hx⟩ := hx
    exact ⟨_, rfl, x, _, dx, _, _, rfl, hx, c_Avenue T, na_Avenue_one T, af_one _ _ _, _, rfl, x, _, dx, _, _, rfl, hx, c_Avenue T, na_Avenue_other T, af_other _ _ _, (by show 2 ≤ sizeLine; decide), k⟩
theorem sc_Road_ends : FnScope ["self"] ["self"] (defScope s_Road_ends) := ⟨rfl, rfl, rfl, by decide +kernel, rfl, by decide +kernel, by decide +kernel⟩
theorem p_Road_ends (T : Tx K mg) : Prom P w K mg base 1 d_Road_ends ["self"] (spEnds K "Road") := by
  obtain ⟨fd, F⟩ := f_Road_ends T
  refine ⟨fd, F, F.ok sc_Road_ends (fun vs H Q E h => ?_) (fun cdv A outer s H vs Q E hr h => ?_), F.bindsN fun _ _ _ _ _ _ us hl => match us, hl with | [_], _ => rfl⟩
  · obtain ⟨x, v, rfl, _⟩ := h
    rfl
  · obtain ⟨x, v, rfl, hv, hx, k⟩ := h
    refine ⟨_, PSs.nox (pss_one (ps_ret (pe_tup (pa_cons (pe_fld (pv 0) rfl) (pa_cons (pe_fld (pv 0) rfl) pa_nil))))), ?_⟩
    cases v with
    | lane => exact absurd (show ("Lane" : Str) = "Road" from hv) (by decide +kernel)
    | avenue => exact absurd (show ("Avenue" : Str) = "Road" from hv) (by decide +kernel)
    | road t a b i j =>
    obtain ⟨dx, hx⟩ := hx
    exact ⟨_, rfl, x, _, dx, _, _, rfl, hx, c_Road T, na_Road_one T, rf_one _ _ _ _ _, _, rfl, x, _, dx, _, _, rfl, hx, c_Road T, na_Road_other T, rf_other _ _ _ _ _, (by show 2 ≤ sizeLine; decide), k⟩
end
end K8
namespace K8
open PySem PySem.Spec PyProof.Rows L2 Hx Gx Nx
section
variable {P : Program} {w : World} {K : PySem.W.Frag} {mg : Str → Option Value} {base : Heap}

structure Plan where
  kind : Str
  title : Str
  fst : Str
  snd : Str
  low : Int
  high : Int
def Plan.vs (p : Plan) : List V := [.str p.kind, .str p.title, .str p.fst, .str p.snd, .int p.low, .int p.high]
def kindOk (k : Str) : Prop := k = "lane" ∨ k = "avenue" ∨ k = "road"
structure Plan.Ok (p : Plan) : Prop where
  kd : kindOk p.kind
  ends : okEnds p.title p.fst p.snd = true
  lo : priceOk p.low
  hi : priceOk p.high
def Plan.sv (p : Plan) : Sv := if p.kind = "lane" then .lane p.title p.fst p.snd else if p.kind = "avenue" then mkAv p.title p.fst p.snd else mkRd p.title p.fst p.snd p.low p.high
theorem cls_mkAv (t a b : Str) : (mkAv t a b).cls = "Avenue" := by unfold mkAv; split <;> rfl
theorem cls_mkRd (t a b : Str) (i j : Int) : (mkRd t a b i j).cls = "Road" := by unfold mkRd; split <;> rfl
theorem br_Road {fd : FuncData} (F : Fd K d_Road_init fd) : Binds K fd ["self", "name", "one", "other", "there", "back"] [] := by
  obtain ⟨ds, hv, hb⟩ := FunD.binds1 (ps := ["self", "name", "one", "other", "there", "back"]) F 6 2 (by intro z; cases z) rfl (fun T kV doc pm an cdv ct us its hl h2 => match us, its, hl, h2 with | [_, _, _, _, _, _], [_, _], _, _ => ⟨_, rfl, rfl⟩)
  cases (show Vals [] ds from hv)
  exact hb
def spStreet (K : PySem.W.Frag) : Sp := fun vs H Q _ => ∃ (q : Addr) (p : Plan), vs = [.ref q] ∧ H q = some (.lst p.vs) ∧ p.Ok ∧ ∀ (H' : Hp) (x : Addr), Same H H' → H x = none → StAt K H' x p.sv → Q (.ref x) H'
theorem sc_street : FnScope ["_law_plan_here", "_law_kind", "_law_title", "_law_first", "_law_second", "_law_low", "_law_high"] ["_law_plan_here"] (defScope s__law_street) := ⟨rfl, rfl, rfl, by decide +kernel, rfl, by decide +kernel, by decide +kernel⟩
theorem p_street (T : Tx K mg) : Prom P w K mg base 6 d__law_street ["_law_plan_here"] (spStreet K) := by
  obtain ⟨fd, F⟩ := f__law_street T
  obtain ⟨fdL, FL, GL, BL⟩ := p_Lane_init (P := P) (w := w) (base := base) T
  obtain ⟨fdA, FA, GA, BA⟩ := p_Avenue_init (P := P) (w := w) (base := base) T
  obtain ⟨fdR, FR, GR⟩ := p_Road_init (P := P) (w := w) (base := base) T
  have BR := br_Road FR
  refine ⟨fd, F, F.ok sc_street (fun vs H Q E h => ?_) (fun cdv A outer s H vs Q E hr h => ?_), F.bindsN fun _ _ _ _ _ _ us hl => match us, hl with | [_], _ => rfl⟩
  · obtain ⟨x, p, rfl, _⟩ := h
    rfl
  · obtain ⟨q, p, rfl, hq, ok, k⟩ := h
    refine ⟨_, PSs.nox (pss_cons (ps_asg (pv 0) (pg_unl (by rfl) (pgs_cons (pg_name (i := 1) sc_street.nd rfl (Or.inl rfl)) (pgs_cons (pg_name (i := 2) sc_street.nd rfl (Or.inl rfl)) (pgs_cons (pg_name (i := 3) sc_street.nd rfl (Or.inl rfl)) (pgs_cons (pg_name (i := 4) sc_street.nd rfl (Or.inl rfl)) (pgs_cons (pg_name (i := 5) sc_street.nd rfl (Or.inl rfl)) (pgs_cons (pg_name (i := 6) sc_street.nd rfl (Or.inl rfl)) pgs_nil))))))))
      (pss_cons (ps_if (pt_cmpR op_eq (pv 1) pe_str (nomark _)) (pss_one (ps_ret (pe_make (mk_Lane T) GL (hr.mono (by decide)) rfl (g_Lane T) BL .nil pass0 (pa_cons (pv 2) (pa_cons (pv 3) (pa_cons (pv 4) pa_nil)))))) pss_nil)
      (pss_one (ps_ret (pe_ifExp (pt_cmpR op_eq (pv 1) pe_str (nomark _)) (pe_make (mk_Avenue T) GA (hr.mono (by decide)) rfl (g_Avenue T) BA .nil pass0 (pa_cons (pv 2) (pa_cons (pv 3) (pa_cons (pv 4) pa_nil)))) (pe_make (mk_Road T) GR (hr.mono (by decide)) rfl (g_Road T) BR .nil pass0 (pa_cons (pv 2) (pa_cons (pv 3) (pa_cons (pv 4) (pa_cons (pv 5) (pa_cons (pv 6) pa_nil))))))))))), ?_⟩
    refine ⟨_, rfl, q, p.vs, rfl, SqL.of hq, rfl, ?_⟩
    refine ⟨_, _, rfl, _, _, rfl, _, _, rfl, _, _, rfl, _, _, rfl, _, _, rfl, rfl, ?_⟩
    have mk : ∀ (H1 : Hp) (x dx : Addr) (c : Str) (fs : List (Str × V)), H x = none → H dx = none → dx ≠ x → But x (upd (upd H dx (.own x)) x (.ins (He.ga K c) dx [])) H1 → Same H H1 := fun H1 x dx c fs n1 n2 n3 b a o e => by
      refine b a o (ne_of_none e n1) ?_
      rw [upd_ne (ne_of_none e n1), upd_ne (ne_of_none e n2)]
      exact e
    have kd := ok.kd
    unfold Plan.sv at k
    refine ⟨_, rfl, rfl, _, rfl, ?_⟩
    by_cases h1 : p.kind = "lane"
    · rw [if_pos h1] at k
      have e : decide (V.str p.kind = V.str (Str.ofString "lane")) = true := decide_eq_true (by rw [h1])
      rw [e]
      refine iteT ⟨_, rfl, _, rfl, _, rfl, fun x dx hx hdx ne => ?_⟩
      refine ⟨x, dx, p.title, p.fst, p.snd, rfl, ok.ends, upd_same, fun H' b e => ⟨rfl, ?_⟩⟩
      exact k _ _ (mk _ _ _ _ [] hx hdx ne b) hx ⟨dx, e⟩
    · rw [if_neg h1] at k
      have e : decide (V.str p.kind = V.str (Str.ofString "lane")) = false := decide_eq_false (fun z => h1 (V.str.inj z))
      rw [e]
      refine iteF ⟨_, rfl, rfl, _, rfl, ?_⟩
      by_cases h2 : p.kind = "avenue"
      · rw [if_pos h2] at k
        have e : decide (V.str p.kind = V.str (Str.ofString "avenue")) = true := decide_eq_true (by rw [h2])
        rw [e]
        refine iteT ⟨_, rfl, _, rfl, _, rfl, fun x dx hx hdx ne => ?_⟩
        refine ⟨x, dx, p.title, p.fst, p.snd, rfl, ok.ends, upd_same, fun H' b e => ⟨rfl, ?_⟩⟩
        exact k _ _ (mk _ _ _ _ [] hx hdx ne b) hx ⟨dx, by rw [cls_mkAv]; exact e⟩
      · rw [if_neg h2] at k
        have e : decide (V.str p.kind = V.str (Str.ofString "avenue")) = false := decide_eq_false (fun z => h2 (V.str.inj z))
        rw [e]
        refine iteF ⟨_, rfl, _, rfl, _, rfl, _, rfl, _, rfl, fun x dx hx hdx ne => ?_⟩
        refine ⟨x, dx, p.title, p.fst, p.snd, p.low, p.high, rfl, ok.ends, ok.lo, ok.hi, upd_same, fun H' b e => ⟨rfl, ?_⟩⟩
        exact k _ _ (mk _ _ _ _ [] hx hdx ne b) hx ⟨dx, by rw [cls_mkRd]; exact e⟩
end
end K8
namespace K8
open PySem PySem.Spec PyProof.Rows L2 Hx Gx Nx
section
variable {P : Program} {w : World} {K : PySem.W.Frag} {mg : Str → Option Value} {base : Heap}

mutual
theorem dp_same {K : PySem.W.Frag} {H H' : Hp} (s : Same H H') : ∀ (d : PyData) (v : V), Dp K H v d → Dp K H' v d
  | .none, _, h => by cases h; exact .non
  | .bool b, _, h => by cases h; exact .bl b
  | .int i, _, h => by cases h; exact .int i
  | .str x, _, h => by cases h; exact .str x
  | .list ds, _, h => by
    cases h with
    | lst a b => exact .lst (s.seq a) (dp_sames s ds _ b)
  | .tuple ds, _, h => by
    cases h with
    | tup a b =>
      refine .tup ?_ (dp_sames s ds _ b)
      rcases a with (a | ⟨o, a⟩) | a
      · exact .inl (.inl (s _ _ a))
      · exact .inl (.inr ⟨o, s _ _ a⟩)
      · exact .inr a
  | .dict _, _, h => by cases h
theorem dp_sames {K : PySem.W.Frag} {H H' : Hp} (s : Same H H') : ∀ (ds : List PyData) (vs : List V), DpAll K H vs ds → DpAll K H' vs ds
  | [], _, h => by cases h; exact .nil
  | d :: ds, _, h => by
    cases h with
    | cons a b => exact .cons (dp_same s d _ a) (dp_sames s ds _ b)
end
theorem new_same {H : Hp} {a : Addr} (h : H a = none) (o : HO) : Same H (upd H a o) := fun b u e => by rw [upd_ne (ne_of_none e h)]; exact e
/-- what a plan's street looks like -/
def faceD (p : Plan) : PyData :=
  if p.kind = "lane" then .list [.str p.kind, .str p.title, .list (if strLt p.fst p.snd then [.str p.fst, .str p.snd] else [.str p.snd, .str p.fst]), .bool (decide (strLt p.fst p.snd))]
  else if p.kind = "avenue" then .list [.str p.kind, .str p.title, .list (if strLt p.fst p.snd then [.str p.fst, .str p.snd] else [.str p.snd, .str p.fst]), .list []]
  else .list [.str p.kind, .str p.title, .list (if strLt p.fst p.snd then [.str p.fst, .str p.snd] else [.str p.snd, .str p.fst]), .list (if strLt p.fst p.snd then [.int p.low, .int p.high] else [.int p.high, .int p.low])]
def spFace (K : PySem.W.Frag) : Sp := fun vs H Q _ => ∃ (q : Addr) (p : Plan), vs = [.ref q] ∧ H q = some (.lst p.vs) ∧ ∀ (H' : Hp) (r : Addr), Same H H' → Dp K H' (.ref r) (faceD p) → Q (.ref r) H'
theorem sc_face : FnScope ["_law_plan_here", "_law_kind", "_law_title", "_law_first", "_law_second", "_law_low", "_law_high", "_law_is_up", "_law_ends"] ["_law_plan_here"] (defScope s__law_face) := ⟨rfl, rfl, rfl, by decide +kernel, rfl, by decide +kernel, by decide +kernel⟩
theorem p_face (T : Tx K mg) : Prom P w K mg base 1 d__law_face ["_law_plan_here"] (spFace K) := by
  obtain ⟨fd, F⟩ := f__law_face T
  refine ⟨fd, F, F.ok sc_face (fun vs H Q E h => ?_) (fun cdv A outer s H vs Q E hr h => ?_), F.bindsN fun _ _ _ _ _ _ us hl => match us, hl with | [_], _ => rfl⟩
  · obtain ⟨x, p, rfl, _⟩ := h
    rfl
  · obtain ⟨q, p, rfl, hq, k⟩ := h
    refine ⟨_, PSs.nox (pss_cons (ps_asg (pv 0) (pg_unl (by rfl) (pgs_cons (pg_name (i := 1) sc_face.nd rfl (Or.inl rfl)) (pgs_cons (pg_name (i := 2) sc_face.nd rfl (Or.inl rfl)) (pgs_cons (pg_name (i := 3) sc_face.nd rfl (Or.inl rfl)) (pgs_cons (pg_name (i := 4) sc_face.nd rfl (Or.inl rfl)) (pgs_cons (pg_name (i := 5) sc_face.nd rfl (Or.inl rfl)) (pgs_cons (pg_name (i := 6) sc_face.nd rfl (Or.inl rfl)) pgs_nil))))))))
      (pss_cons (ps_set (i := 7) sc_face.nd rfl (Or.inl rfl) (pe_cmpR op_lt_str (pv 3) (pv 4) (nomark _)))
      (pss_cons (ps_set (i := 8) sc_face.nd rfl (Or.inl rfl) (pe_ifExp (pt_val (pv 7)) (pe_lst (pa_cons (pv 3) (pa_cons (pv 4) pa_nil))) (pe_lst (pa_cons (pv 4) (pa_cons (pv 3) pa_nil)))))
      (pss_cons (ps_if (pt_cmpR op_eq (pv 1) pe_str (nomark _)) (pss_one (ps_ret (pe_lst (pa_cons (pv 1) (pa_cons (pv 2) (pa_cons (pv 8) (pa_cons (pv 7) pa_nil))))))) pss_nil)
      (pss_cons (ps_if (pt_cmpR op_eq (pv 1) pe_str (nomark _)) (pss_one (ps_ret (pe_lst (pa_cons (pv 1) (pa_cons (pv 2) (pa_cons (pv 8) (pa_cons (pe_lst pa_nil) pa_nil))))))) pss_nil)
      (pss_one (ps_ret (pe_lst (pa_cons (pv 1) (pa_cons (pv 2) (pa_cons (pv 8) (pa_cons (pe_ifExp (pt_val (pv 7)) (pe_lst (pa_cons (pv 5) (pa_cons (pv 6) pa_nil))) (pe_lst (pa_cons (pv 6) (pa_cons (pv 5) pa_nil)))) pa_nil)))))))))))), ?_⟩
    refine ⟨_, rfl, q, p.vs, rfl, SqL.of hq, rfl, _, _, rfl, _, _, rfl, _, _, rfl, _, _, rfl, _, _, rfl, _, _, rfl, rfl, ?_⟩
    refine ⟨_, rfl, _, rfl, _, _, rfl, rfl, ?_⟩
    unfold faceD at k
    by_cases h : strLt p.fst p.snd
    · have z0 := h
      have e : decide (p.fst.cps.toList < p.snd.cps.toList) = true := decide_eq_true h
      have e9 : decide (strLt p.fst p.snd) = true := decide_eq_true h
      rw [if_pos h, if_pos h, e9] at k
      rw [e]
      refine ⟨_, rfl, _, rfl, iteT ⟨_, rfl, _, rfl, (by show 2 ≤ sizeLine; decide), fun u hu => ?_⟩⟩
      have s1 : Same H (upd H u (.lst [.str p.fst, .str p.snd])) := fun b o z => by rw [upd_ne (ne_of_none z hu)]; exact z
      have d1 : Dp K (upd H u (.lst [.str p.fst, .str p.snd])) (.ref u) (.list [.str p.fst, .str p.snd]) := .lst (SqL.of upd_same) (.cons (.str _) (.cons (.str _) .nil))
      generalize upd H u (.lst [.str p.fst, .str p.snd]) = H1 at s1 d1
      refine ⟨_, rfl, rfl, _, rfl, ?_⟩
      by_cases h1 : p.kind = "lane"
      · rw [if_pos h1] at k
        have e1 : decide (V.str p.kind = V.str (Str.ofString "lane")) = true := decide_eq_true (by rw [h1])
        rw [e1]
        refine iteT ⟨_, rfl, _, rfl, _, rfl, _, rfl, (by show 4 ≤ sizeLine; decide), fun r hr1 => ?_⟩
        have s2 := new_same hr1 (.lst [.str p.kind, .str p.title, .ref u, .bl true])
        exact k _ r (s1.trans s2) (.lst (SqL.of upd_same) (.cons (.str _) (.cons (.str _) (.cons (dp_same s2 _ _ d1) (.cons (.bl _) .nil)))))
      · rw [if_neg h1] at k
        have e1 : decide (V.str p.kind = V.str (Str.ofString "lane")) = false := decide_eq_false (fun z => h1 (V.str.inj z))
        rw [e1]
        refine iteF ⟨_, rfl, rfl, _, rfl, ?_⟩
        by_cases h2 : p.kind = "avenue"
        · rw [if_pos h2] at k
          have e2 : decide (V.str p.kind = V.str (Str.ofString "avenue")) = true := decide_eq_true (by rw [h2])
          rw [e2]
          refine iteT ⟨_, rfl, _, rfl, _, rfl, (by show 0 ≤ sizeLine; decide), fun n hn => ⟨(by show 4 ≤ sizeLine; decide), fun r hr1 => ?_⟩⟩
          have s2 := new_same hn (.lst [])
          have s3 := new_same hr1 (.lst [.str p.kind, .str p.title, .ref u, .ref n])
          exact k _ r ((s1.trans s2).trans s3) (.lst (SqL.of upd_same) (.cons (.str _) (.cons (.str _) (.cons (dp_same s3 _ _ (dp_same s2 _ _ d1)) (.cons (dp_same s3 _ _ (.lst (SqL.of upd_same) .nil)) .nil)))))
        · rw [if_neg h2] at k
          have e2 : decide (V.str p.kind = V.str (Str.ofString "avenue")) = false := decide_eq_false (fun z => h2 (V.str.inj z))
          rw [e2]
          refine iteF ⟨_, rfl, _, rfl, _, rfl, _, rfl, _, rfl, iteT ⟨_, rfl, _, rfl, (by show 2 ≤ sizeLine; decide), fun n hn => ⟨(by show 4 ≤ sizeLine; decide), fun r hr1 => ?_⟩⟩⟩
          have s2 := new_same hn (.lst [.int p.low, .int p.high])
          have s3 := new_same hr1 (.lst [.str p.kind, .str p.title, .ref u, .ref n])
          exact k _ r ((s1.trans s2).trans s3) (.lst (SqL.of upd_same) (.cons (.str _) (.cons (.str _) (.cons (dp_same s3 _ _ (dp_same s2 _ _ d1)) (.cons (dp_same s3 _ _ (.lst (SqL.of upd_same) (.cons (.int _) (.cons (.int _) .nil)))) .nil)))))
    · have z0 := h
      have e : decide (p.fst.cps.toList < p.snd.cps.toList) = false := decide_eq_false h
      have e9 : decide (strLt p.fst p.snd) = false := decide_eq_false h
      rw [if_neg h, if_neg h, e9] at k
      rw [e]
      refine ⟨_, rfl, _, rfl, iteF ⟨_, rfl, _, rfl, (by show 2 ≤ sizeLine; decide), fun u hu => ?_⟩⟩
      have s1 : Same H (upd H u (.lst [.str p.snd, .str p.fst])) := fun b o z => by rw [upd_ne (ne_of_none z hu)]; exact z
      have d1 : Dp K (upd H u (.lst [.str p.snd, .str p.fst])) (.ref u) (.list [.str p.snd, .str p.fst]) := .lst (SqL.of upd_same) (.cons (.str _) (.cons (.str _) .nil))
      generalize upd H u (.lst [.str p.snd, .str p.fst]) = H1 at s1 d1
      refine ⟨_, rfl, rfl, _, rfl, ?_⟩
      by_cases h1 : p.kind = "lane"
      · rw [if_pos h1] at k
        have e1 : decide (V.str p.kind = V.str (Str.ofString "lane")) = true := decide_eq_true (by rw [h1])
        rw [e1]
        refine iteT ⟨_, rfl, _, rfl, _, rfl, _, rfl, (by show 4 ≤ sizeLine; decide), fun r hr1 => ?_⟩
        have s2 := new_same hr1 (.lst [.str p.kind, .str p.title, .ref u, .bl false])
        exact k _ r (s1.trans s2) (.lst (SqL.of upd_same) (.cons (.str _) (.cons (.str _) (.cons (dp_same s2 _ _ d1) (.cons (.bl _) .nil)))))
      · rw [if_neg h1] at k
        have e1 : decide (V.str p.kind = V.str (Str.ofString "lane")) = false := decide_eq_false (fun z => h1 (V.str.inj z))
        rw [e1]
        refine iteF ⟨_, rfl, rfl, _, rfl, ?_⟩
        by_cases h2 : p.kind = "avenue"
        · rw [if_pos h2] at k
          have e2 : decide (V.str p.kind = V.str (Str.ofString "avenue")) = true := decide_eq_true (by rw [h2])
          rw [e2]
          refine iteT ⟨_, rfl, _, rfl, _, rfl, (by show 0 ≤ sizeLine; decide), fun n hn => ⟨(by show 4 ≤ sizeLine; decide), fun r hr1 => ?_⟩⟩
          have s2 := new_same hn (.lst [])
          have s3 := new_same hr1 (.lst [.str p.kind, .str p.title, .ref u, .ref n])
          exact k _ r ((s1.trans s2).trans s3) (.lst (SqL.of upd_same) (.cons (.str _) (.cons (.str _) (.cons (dp_same s3 _ _ (dp_same s2 _ _ d1)) (.cons (dp_same s3 _ _ (.lst (SqL.of upd_same) .nil)) .nil)))))
        · rw [if_neg h2] at k
          have e2 : decide (V.str p.kind = V.str (Str.ofString "avenue")) = false := decide_eq_false (fun z => h2 (V.str.inj z))
          rw [e2]
          refine iteF ⟨_, rfl, _, rfl, _, rfl, _, rfl, _, rfl, iteF ⟨_, rfl, _, rfl, (by show 2 ≤ sizeLine; decide), fun n hn => ⟨(by show 4 ≤ sizeLine; decide), fun r hr1 => ?_⟩⟩⟩
          have s2 := new_same hn (.lst [.int p.high, .int p.low])
          have s3 := new_same hr1 (.lst [.str p.kind, .str p.title, .ref u, .ref n])
          exact k _ r ((s1.trans s2).trans s3) (.lst (SqL.of upd_same) (.cons (.str _) (.cons (.str _) (.cons (dp_same s3 _ _ (dp_same s2 _ _ d1)) (.cons (dp_same s3 _ _ (.lst (SqL.of upd_same) (.cons (.int _) (.cons (.int _) .nil)))) .nil)))))
end
end K8
namespace K8
open PySem PySem.Spec PyProof.Rows L2 Hx Gx Nx
theorem ne_la : ((Str.ofString "lane") == (Str.ofString "avenue")) = false := by decide +kernel
theorem ne_al : ((Str.ofString "avenue") == (Str.ofString "lane")) = false := by decide +kernel
theorem ne_lr : ((Str.ofString "lane") == (Str.ofString "road")) = false := by decide +kernel
theorem ne_rl : ((Str.ofString "road") == (Str.ofString "lane")) = false := by decide +kernel
theorem ne_ar : ((Str.ofString "avenue") == (Str.ofString "road")) = false := by decide +kernel
theorem ne_ra : ((Str.ofString "road") == (Str.ofString "avenue")) = false := by decide +kernel
theorem nq_al : ¬ (Str.ofString "avenue") = (Str.ofString "lane") := by decide +kernel
theorem nq_rl : ¬ (Str.ofString "road") = (Str.ofString "lane") := by decide +kernel
theorem nq_ra : ¬ (Str.ofString "road") = (Str.ofString "avenue") := by decide +kernel
theorem face_lane (t a b : Str) (i j : Int) : faceD ⟨"lane", t, a, b, i, j⟩ = .list [.str "lane", .str t, .list (if strLt a b then [.str a, .str b] else [.str b, .str a]), .bool (decide (strLt a b))] := by
  unfold faceD
  rw [if_pos rfl]
theorem face_av (t a b : Str) (i j : Int) : faceD ⟨"avenue", t, a, b, i, j⟩ = .list [.str "avenue", .str t, .list (if strLt a b then [.str a, .str b] else [.str b, .str a]), .list []] := by
  unfold faceD
  rw [if_neg nq_al, if_pos rfl]
theorem face_rd (t a b : Str) (i j : Int) : faceD ⟨"road", t, a, b, i, j⟩ = .list [.str "road", .str t, .list (if strLt a b then [.str a, .str b] else [.str b, .str a]), .list (if strLt a b then [.int i, .int j] else [.int j, .int i])] := by
  unfold faceD
  rw [if_neg nq_rl, if_neg nq_ra]
theorem sv_lane (t a b : Str) (i j : Int) : Plan.sv ⟨"lane", t, a, b, i, j⟩ = .lane t a b := by
  unfold Plan.sv
  rw [if_pos rfl]
theorem sv_av (t a b : Str) (i j : Int) : Plan.sv ⟨"avenue", t, a, b, i, j⟩ = mkAv t a b := by
  unfold Plan.sv
  rw [if_neg nq_al, if_pos rfl]
theorem sv_rd (t a b : Str) (i j : Int) : Plan.sv ⟨"road", t, a, b, i, j⟩ = mkRd t a b i j := by
  unfold Plan.sv
  rw [if_neg nq_rl, if_neg nq_ra]
theorem beq_str (x y : Str) : (x == y) = decide (x = y) := by
  by_cases h : x = y
  · subst h; simp
  · rw [decide_eq_false h]; exact beq_false_of_ne h
theorem eqv_face {p q : Plan} (hp : kindOk p.kind) (hq : kindOk q.kind) : PyData.eqv (faceD p) (faceD q) = decide (p.sv = q.sv) := by
  obtain ⟨k, t, a, b, i, j⟩ := p
  obtain ⟨k2, t2, a2, b2, i2, j2⟩ := q
  have hp' : k = "lane" ∨ k = "avenue" ∨ k = "road" := hp
  have hq' : k2 = "lane" ∨ k2 = "avenue" ∨ k2 = "road" := hq
  rcases hp' with rfl | rfl | rfl <;> rcases hq' with rfl | rfl | rfl
  · rw [face_lane, face_lane, sv_lane, sv_lane]
    by_cases h : strLt a b <;> by_cases h2 : strLt a2 b2 <;> simp [PyData.eqv, PyData.eqvAll, h, h2] <;> grind
  · rw [face_lane, face_av, sv_lane, sv_av]
    simp [PyData.eqv, PyData.eqvAll, ne_la, mkAv]
    split <;> simp
  · rw [face_lane, face_rd, sv_lane, sv_rd]
    simp [PyData.eqv, PyData.eqvAll, ne_lr, mkRd]
    split <;> simp
  · rw [face_av, face_lane, sv_av, sv_lane]
    simp [PyData.eqv, PyData.eqvAll, ne_al, mkAv]
    split <;> simp
  · rw [face_av, face_av, sv_av, sv_av]
    by_cases h : strLt a b <;> by_cases h2 : strLt a2 b2 <;> simp [PyData.eqv, PyData.eqvAll, h, h2, mkAv] <;> grind
  · rw [face_av, face_rd, sv_av, sv_rd]
    simp [PyData.eqv, PyData.eqvAll, ne_ar, mkAv, mkRd]
    split <;> split <;> simp
  · rw [face_rd, face_lane, sv_rd, sv_lane]
    simp [PyData.eqv, PyData.eqvAll, ne_rl, mkRd]
    split <;> simp
  · rw [face_rd, face_av, sv_rd, sv_av]
    simp [PyData.eqv, PyData.eqvAll, ne_ra, mkAv, mkRd]
    split <;> split <;> simp
  · rw [face_rd, face_rd, sv_rd, sv_rd]
    by_cases h : strLt a b <;> by_cases h2 : strLt a2 b2 <;> simp [PyData.eqv, PyData.eqvAll, h, h2, mkRd] <;> grind
theorem strOk_name {x : Str} (h : nameB x = true) : PyData.strOk x = true := by
  unfold nameB at h
  rw [Bool.and_eq_true] at h
  have a := List.all_eq_true.mp h.2
  unfold PyData.strOk
  rw [← Array.all_toList, List.all_eq_true]
  intro c hc
  have z := a c hc
  unfold isLow at z
  rw [Bool.and_eq_true] at z
  have z2 := of_decide_eq_true z.2
  exact decide_eq_true (by omega)
theorem shaped_face {p : Plan} (ok : p.Ok) : SeqAt.shaped (faceD p) = true := by
  obtain ⟨o1, o2, o3, _⟩ := okEnds_iff ok.ends
  obtain ⟨k, t, a, b, i, j⟩ := p
  have s1 := strOk_name (show nameB t = true from o1)
  have s2 := strOk_name (show nameB a = true from o2)
  have s3 := strOk_name (show nameB b = true from o3)
  have kd : k = "lane" ∨ k = "avenue" ∨ k = "road" := ok.kd
  have c1 : PyData.strOk (Str.ofString "lane") = true := by decide +kernel
  have c2 : PyData.strOk (Str.ofString "avenue") = true := by decide +kernel
  have c3 : PyData.strOk (Str.ofString "road") = true := by decide +kernel
  unfold SeqAt.shaped
  rcases kd with rfl | rfl | rfl
  · rw [face_lane]
    by_cases h : strLt a b <;> simp [PyData.canLay0, PyData.canLayAll0, PyData.depth, PyData.depthAll, h, s1, s2, s3, c1]
  · rw [face_av]
    by_cases h : strLt a b <;> simp [PyData.canLay0, PyData.canLayAll0, PyData.depth, PyData.depthAll, h, s1, s2, s3, c2]
  · rw [face_rd]
    by_cases h : strLt a b <;> simp [PyData.canLay0, PyData.canLayAll0, PyData.depth, PyData.depthAll, h, s1, s2, s3, c3]
end K8
namespace K8
open PySem PySem.Spec PyProof.Rows L2 Hx Gx Nx
section
variable {P : Program} {w : World} {K : PySem.W.Frag} {mg : Str → Option Value} {base : Heap}

theorem mem_strs {v : V} {xs : List Str} (h : v ∈ xs.map V.str) : ∃ x, x ∈ xs ∧ v = .str x := by
  obtain ⟨x, h1, h2⟩ := List.mem_map.mp h
  exact ⟨x, h1, h2.symm⟩
theorem But.at {p D : Addr} {H H' : Hp} {o : HO} (b : But p H H') (h : H D = none) : But p H (upd H' D o) := fun a u n e => by
  rw [upd_ne (ne_of_none e h)]
  exact b a u n e
theorem But.free {p D : Addr} {H H' : Hp} (b : But p H H') (n : D ≠ p) (h : H' D = none) : H D = none := by
  cases e : H D with
  | none => rfl
  | some o =>
    rw [b D o n e] at h
    cases h
structure Semi (p : Plan) : Prop where
  ok : p.Ok
  tl : p.title.length ≤ 7
  lo : -9 ≤ p.low ∧ p.low ≤ 9
  hi : -9 ≤ p.high ∧ p.high ≤ 9
  f : p.fst ≠ "zz"
  s : p.snd ≠ "yy"
structure Plain (p : Plan) : Prop where
  ok : p.Ok
  tl : p.title.length ≤ 6
  lo : -8 ≤ p.low ∧ p.low ≤ 8
  hi : -8 ≤ p.high ∧ p.high ≤ 8
  f1 : p.fst ≠ "zz"
  f2 : p.fst ≠ "yy"
  s1 : p.snd ≠ "zz"
  s2 : p.snd ≠ "yy"
theorem okEnds_mk {t a b : Str} (h1 : nameB t = true) (h2 : nameB a = true) (h3 : nameB b = true) (h4 : a ≠ b) : okEnds t a b = true := by
  unfold okEnds
  rw [h1, h2, h3, decide_eq_false h4]
  rfl
theorem plain_of {k t a b : Str} {i j : Int} (hk : k ∈ [Str.ofString "lane", "avenue", "road"]) (ht : t ∈ [Str.ofString "r", "a", "street"]) (ha : a ∈ [Str.ofString "a", "b", "m"]) (hb : b ∈ [Str.ofString "a", "b", "aa", "n"]) (h : a ≠ b)
    (hi : -8 ≤ i ∧ i ≤ 8) (hj : -8 ≤ j ∧ j ≤ 8) : Plain ⟨k, t, a, b, i, j⟩ := by
  have kt : nameB t = true ∧ t.length ≤ 6 := by
    simp only [List.mem_cons, List.not_mem_nil, or_false] at ht
    rcases ht with rfl | rfl | rfl <;> exact ⟨by decide +kernel, by decide +kernel⟩
  have ka : nameB a = true ∧ a ≠ "zz" ∧ a ≠ "yy" := by
    simp only [List.mem_cons, List.not_mem_nil, or_false] at ha
    rcases ha with rfl | rfl | rfl <;> exact ⟨by decide +kernel, by decide +kernel, by decide +kernel⟩
  have kb : nameB b = true ∧ b ≠ "zz" ∧ b ≠ "yy" := by
    simp only [List.mem_cons, List.not_mem_nil, or_false] at hb
    rcases hb with rfl | rfl | rfl | rfl <;> exact ⟨by decide +kernel, by decide +kernel, by decide +kernel⟩
  have kk : kindOk k := by
    simp only [List.mem_cons, List.not_mem_nil, or_false] at hk
    exact hk
  exact ⟨⟨kk, okEnds_mk kt.1 ka.1 kb.1 h, ⟨by show (-999999999999 : Int) ≤ i; omega, by show i ≤ (999999999999 : Int); omega⟩, ⟨by show (-999999999999 : Int) ≤ j; omega, by show j ≤ (999999999999 : Int); omega⟩⟩, kt.2, hi, hj, ka.2.1, ka.2.2, kb.2.1, kb.2.2⟩
def spPlan : Sp := fun vs H Q _ => ∃ (p : Addr) (n : Nat), vs = [.ref p] ∧ PenAt H p n ∧ n ≤ 90000 ∧ ∀ (H' : Hp) (q : Addr) (d : Plan), But p H H' → PenAt H' p (n + 6) → q ≠ p → H' q = some (.lst d.vs) → Plain d → Q (.ref q) H'
theorem sc_plan : FnScope ["_law_pen_here", "_law_title", "_law_first", "_law_second", "_law_one"] ["_law_pen_here"] (defScope s__law_plan) := ⟨rfl, rfl, rfl, by decide +kernel, rfl, by decide +kernel, by decide +kernel⟩
theorem p_plan (T : Tx K mg) : Prom P w K mg base 3 d__law_plan ["_law_pen_here"] spPlan := by
  obtain ⟨fd, F⟩ := f__law_plan T
  obtain ⟨fdP, FP, GP, BP⟩ := p_pick (P := P) (w := w) (base := base) T
  obtain ⟨fdD, FD, GD, BD⟩ := p_draw (P := P) (w := w) (base := base) T
  refine ⟨fd, F, F.ok sc_plan (fun vs H Q E h => ?_) (fun cdv A outer s H vs Q E hr h => ?_), F.bindsN fun _ _ _ _ _ _ us hl => match us, hl with | [_], _ => rfl⟩
  · obtain ⟨x, n, rfl, _⟩ := h
    rfl
  · obtain ⟨p, n, rfl, hp, hn, k⟩ := h
    refine ⟨_, PSs.nox (pss_cons (ps_asg (pe_tup (pa_cons (pe_call GP (hr.mono (by decide)) rfl (g__law_pick T) FP.kp BP .nil pass0 (pa_cons (pv 0) (pa_cons (pe_lst (pa_cons pe_str (pa_cons pe_str (pa_cons pe_str pa_nil)))) pa_nil))) (pa_cons (pe_call GP (hr.mono (by decide)) rfl (g__law_pick T) FP.kp BP .nil pass0 (pa_cons (pv 0) (pa_cons (pe_lst (pa_cons pe_str (pa_cons pe_str (pa_cons pe_str pa_nil)))) pa_nil))) pa_nil))) (pg_tup (by rfl) (pgs_cons (pg_name (i := 1) sc_plan.nd rfl (Or.inl rfl)) (pgs_cons (pg_name (i := 2) sc_plan.nd rfl (Or.inr rfl)) pgs_nil))))
      (pss_cons (ps_set (i := 3) sc_plan.nd rfl (Or.inl rfl) (pe_call GP (hr.mono (by decide)) rfl (g__law_pick T) FP.kp BP .nil pass0 (pa_cons (pv 0) (pa_cons (pe_lc (own := [("_law_one", 4)]) (g := gName 4) (by rfl) sc_plan.nd (pi_list (pe_lst (pa_cons pe_str (pa_cons pe_str (pa_cons pe_str (pa_cons pe_str pa_nil)))))) (blkOk_by (own := [("_law_one", 4)]) (N := ["_law_pen_here", "_law_title", "_law_first", "_law_second", "_law_one"]) (sc := defScope s__law_plan) (by decide +kernel)) (fun _ _ _ _ _ => pg_name (i := 4) sc_plan.nd rfl (Or.inl rfl)) (fun _ _ _ _ _ => (pts_one (pt_cmpR op_ne (pv 4) (pv 2) (nomark _)))) (fun _ _ _ _ _ => (pv 4))) pa_nil))))
      (pss_one (ps_ret (pe_lst (pa_cons (pe_call GP (hr.mono (by decide)) rfl (g__law_pick T) FP.kp BP .nil pass0 (pa_cons (pv 0) (pa_cons (pe_lst (pa_cons pe_str (pa_cons pe_str (pa_cons pe_str pa_nil)))) pa_nil))) (pa_cons (pv 1) (pa_cons (pv 2) (pa_cons (pv 3) (pa_cons (pe_op op_sub (pe_call GD (hr.mono (by decide)) rfl (g__law_draw T) FD.kp BD .nil pass0 (pa_cons (pv 0) (pa_cons pe_int pa_nil))) pe_int) (pa_cons (pe_call GD (hr.mono (by decide)) rfl (g__law_draw T) FD.kp BD .nil pass0 (pa_cons (pv 0) (pa_cons pe_int pa_nil))) pa_nil))))))))))), ?_⟩
    -- title, first
    refine ⟨_, rfl, (by show 3 ≤ sizeLine; decide), fun l1 n1 => ⟨p, l1, n, _, rfl, hp.new n1, by omega, SqL.of upd_same, (hp.ne n1).symm, by decide, by decide, ?_⟩⟩
    intro H1 title b1 p1 m1
    have B1 : But p H H1 := ((But.refl p H).new n1).trans b1
    clear b1
    refine ⟨_, rfl, (by show 3 ≤ sizeLine; decide), fun l2 n2 => ⟨p, l2, n + 1, _, rfl, p1.new n2, by omega, SqL.of upd_same, (p1.ne n2).symm, by decide, by decide, ?_⟩⟩
    intro H2 first b2 p2 m2
    have B2 : But p H H2 := (B1.new n2).trans b2
    clear b2
    obtain ⟨ti, mt, rfl⟩ := mem_strs (xs := ["r", "a", "street"]) m1
    obtain ⟨fi, mf, rfl⟩ := mem_strs (xs := ["a", "b", "m"]) m2
    refine ⟨(by show 2 ≤ sizeLine; decide), fun t3 n3 => ⟨t3, _, rfl, SqT.of upd_same, rfl, _, _, rfl, _, _, rfl, rfl, ?_⟩⟩
    have B3 : But p H _ := B2.new (o := .tup [.str ti, .str fi]) n3
    have p3 : PenAt _ p (n + 1 + 1) := p2.new (o := .tup [.str ti, .str fi]) n3
    generalize upd H2 t3 (.tup [.str ti, .str fi]) = H3 at B3 p3
    -- second
    refine ⟨_, rfl, (by show 4 ≤ sizeLine; decide), fun l4 n4 => ⟨l4, rfl, ⟨_, SqL.of upd_same⟩, fun D nD => ?_⟩⟩
    have B4 : But p H _ := B3.new (o := .lst [.str "a", .str "b", .str "aa", .str "n"]) n4
    have p4 : PenAt _ p (n + 1 + 1) := p3.new (o := .lst [.str "a", .str "b", .str "aa", .str "n"]) n4
    have q4 : (upd H3 l4 (.lst [.str "a", .str "b", .str "aa", .str "n"])) l4 = some (.lst [.str "a", .str "b", .str "aa", .str "n"]) := upd_same
    generalize upd H3 l4 (.lst [.str "a", .str "b", .str "aa", .str "n"]) = H4 at B4 p4 q4 nD
    have lD : l4 ≠ D := ne_of_none q4 nD
    obtain ⟨c, ns, ca, cr, e1, e2, e3, e4⟩ := p4
    have pD : p ≠ D := ne_of_none e1 nD
    have cD : c ≠ D := ne_of_none e3 nD
    refine lc_list (K := K) (a := l4) (xs := [.str "a", .str "b", .str "aa", .str "n"]) (fun i H' => But p H H' ∧ H' p = some (.lst [.ref c, .int ca, .int cr]) ∧ H' c = some (.lst (ns.map V.int)) ∧ H' l4 = some (.lst [.str "a", .str "b", .str "aa", .str "n"]) ∧
      H' D = some (.lst (([.str "a", .str "b", .str "aa", .str "n"].take i).filter fun v => !decide (v = V.str fi)))) ⟨B4.new nD, by rw [upd_ne pD]; exact e1, by rw [upd_ne cD]; exact e3, by rw [upd_ne lD]; exact q4, upd_same⟩ (fun i H' _ z => SqL.of z.2.2.2.1) ?_ ?_
    · rintro i x H' hi ⟨b', p', c', q', d'⟩
      obtain ⟨xs, rfl⟩ : ∃ y, x = V.str y := by
        have z := List.mem_of_getElem? hi
        simp only [List.mem_cons, List.not_mem_nil, or_false] at z
        rcases z with rfl | rfl | rfl | rfl <;> exact ⟨_, rfl⟩
      have hlen : i < 4 := (List.getElem?_eq_some_iff.mp hi).1
      have tk : ∀ f : V → Bool, ([V.str "a", .str "b", .str "aa", .str "n"].take (i + 1)).filter f = (([V.str "a", .str "b", .str "aa", .str "n"].take i).filter f) ++ [V.str xs].filter f := fun f => by
        rw [List.take_succ, hi, List.filter_append]
        rfl
      refine ⟨rfl, _, rfl, _, rfl, rfl, _, rfl, ?_⟩
      by_cases hx : V.str xs = V.str fi
      · rw [decide_eq_true hx]
        refine iteF ⟨b', p', c', q', ?_⟩
        rw [tk, d']
        have z : [V.str xs].filter (fun v => !decide (v = V.str fi)) = [] := by
          rw [List.filter_cons_of_neg (by rw [decide_eq_true hx]; decide), List.filter_nil]
        rw [z, List.append_nil]
      · rw [decide_eq_false hx]
        refine iteT ⟨_, rfl, _, d', ?_, But.at b' (B4.free pD.symm nD), by rw [upd_ne pD]; exact p', by rw [upd_ne cD]; exact c', by rw [upd_ne lD]; exact q', ?_⟩
        · refine Nat.lt_of_le_of_lt (List.length_filter_le _ _) ?_
          rw [List.length_take]
          have z : (4 : Nat) < sizeLine := by decide
          omega
        · rw [upd_same, tk]
          have z : [V.str xs].filter (fun v => !decide (v = V.str fi)) = [V.str xs] := by
            rw [List.filter_cons_of_pos (by rw [decide_eq_false hx]; rfl), List.filter_nil]
          rw [z]
    · rintro H5 ⟨b5, p5, c5, q5, d5⟩
      have P5 : PenAt H5 p (n + 1 + 1) := ⟨c, ns, ca, cr, p5, e2, c5, e4⟩
      have B5 : But p H H5 := b5
      have full : ([V.str "a", .str "b", .str "aa", .str "n"].take 4) = [V.str "a", .str "b", .str "aa", .str "n"] := rfl
      have d5' : H5 D = some (.lst (([V.str "a", .str "b", .str "aa", .str "n"]).filter fun v => !decide (v = V.str fi))) := d5
      have nIn : V.str "n" ∈ ([V.str "a", .str "b", .str "aa", .str "n"]).filter fun v => !decide (v = V.str fi) := by
        refine List.mem_filter.mpr ⟨by simp, ?_⟩
        have z : ¬ V.str "n" = V.str fi := fun u => by
          have u2 := V.str.inj u
          simp only [List.mem_cons, List.not_mem_nil, or_false] at mf
          rcases mf with rfl | rfl | rfl <;> exact absurd u2 (by decide +kernel)
        rw [decide_eq_false z]
        rfl
      refine ⟨p, D, n + 1 + 1, _, rfl, P5, by omega, SqL.of d5', pD.symm, List.length_pos_of_mem nIn, Nat.le_trans (List.length_filter_le _ _) (by decide), ?_⟩
      intro H6 sec b6 p6 m6
      have B6 := B5.trans b6
      obtain ⟨m6, hne⟩ := List.mem_filter.mp m6
      obtain ⟨si, ms, rfl⟩ := mem_strs (xs := ["a", "b", "aa", "n"]) m6
      have sf : fi ≠ si := fun u => by
        subst u
        simp at hne
      clear d5 d5' nIn hne m6 b6
      -- kind
      refine ⟨_, rfl, (by show 3 ≤ sizeLine; decide), fun l7 n7 => ⟨p, l7, n + 1 + 1 + 1, _, rfl, p6.new n7, by omega, SqL.of upd_same, (p6.ne n7).symm, by decide, by decide, ?_⟩⟩
      intro H8 kv b8 p8 m8
      have B8 := (B6.new n7).trans b8
      obtain ⟨ki, mk, rfl⟩ := mem_strs (xs := ["lane", "avenue", "road"]) m8
      refine ⟨_, rfl, _, rfl, _, rfl, _, rfl, p, _, 3, rfl, p8, by omega, by decide, by decide, ?_⟩
      intro H9 d1 b9 p9 g1 g2
      have B9 := B8.trans b9
      refine ⟨_, _, rfl, rfl, _, rfl, p, _, 3, rfl, p9, by omega, by decide, by decide, ?_⟩
      intro H10 d2 b10 p10 g3 g4
      have B10 := B9.trans b10
      refine ⟨(by show 6 ≤ sizeLine; decide), fun q nq => ?_⟩
      refine k _ q ⟨ki, ti, fi, si, d1 - 1, d2⟩ (B10.new nq) (p10.new nq) (p10.ne nq).symm upd_same ?_
      exact plain_of mk mt mf ms sf (by omega) (by omega)
end
end K8
namespace K8
open PySem PySem.Spec PyProof.Rows L2 Hx Gx Nx
section
variable {P : Program} {w : World} {K : PySem.W.Frag} {mg : Str → Option Value} {base : Heap}

def NearOk (d e : Plan) : Prop := e.Ok ∧ (Plain d → Semi e)
def spNear : Sp := fun vs H Q _ => ∃ (p q : Addr) (n : Nat) (d : Plan), vs = [.ref p, .ref q] ∧ PenAt H p n ∧ n ≤ 95000 ∧ q ≠ p ∧ H q = some (.lst d.vs) ∧ Semi d ∧
  ∀ (H' : Hp) (r : Addr) (e : Plan), But p H H' → PenAt H' p (n + 2) → r ≠ p → H' r = some (.lst e.vs) → NearOk d e → Q (.ref r) H'
theorem near_lo {i : Int} (h : -9 ≤ i ∧ i ≤ 9) : priceOk i ∧ priceOk (i + 1) := ⟨⟨by omega, by omega⟩, ⟨by omega, by omega⟩⟩
theorem okEnds_swap {t a b : Str} (h : okEnds t a b = true) : okEnds t b a = true := by
  obtain ⟨h1, h2, h3, h4⟩ := okEnds_iff h
  exact okEnds_mk h1 h3 h2 h4.symm
theorem near0 {d : Plan} (s : Semi d) : NearOk d ⟨d.kind, d.title, d.snd, d.fst, d.high, d.low⟩ :=
  ⟨⟨s.ok.kd, okEnds_swap s.ok.ends, s.ok.hi, s.ok.lo⟩, fun z => ⟨⟨s.ok.kd, okEnds_swap s.ok.ends, s.ok.hi, s.ok.lo⟩, s.tl, s.hi, s.lo, z.s1, z.f2⟩⟩
theorem near1 {d : Plan} (s : Semi d) : NearOk d ⟨d.kind, d.title, d.snd, d.fst, d.low, d.high⟩ :=
  ⟨⟨s.ok.kd, okEnds_swap s.ok.ends, s.ok.lo, s.ok.hi⟩, fun z => ⟨⟨s.ok.kd, okEnds_swap s.ok.ends, s.ok.lo, s.ok.hi⟩, s.tl, s.lo, s.hi, z.s1, z.f2⟩⟩
theorem near2 {d : Plan} (s : Semi d) {k : Str} (hk : kindOk k) : NearOk d ⟨k, d.title, d.fst, d.snd, d.low, d.high⟩ :=
  ⟨⟨hk, s.ok.ends, s.ok.lo, s.ok.hi⟩, fun z => ⟨⟨hk, s.ok.ends, s.ok.lo, s.ok.hi⟩, s.tl, s.lo, s.hi, s.f, s.s⟩⟩
theorem nameB_x {t : Str} (h : nameB t = true) (l : t.length ≤ 7) : nameB (t ++ "x") = true := by
  unfold nameB at h ⊢
  rw [Bool.and_eq_true, Bool.and_eq_true] at h
  obtain ⟨⟨h1, h2⟩, h3⟩ := h
  have h1 := of_decide_eq_true h1
  have e : (t ++ Str.ofString "x").length = t.length + 1 := by
    rw [Str.length_append]
    rfl
  have c : (t ++ Str.ofString "x").cps.toList = t.cps.toList ++ [120] := by
    rw [Str.cps_append, Array.toList_append]
    rfl
  have a : [120].all isLow = true := by decide
  rw [e, c, List.all_append, h3, a, decide_eq_true (show 1 ≤ t.length + 1 by omega), decide_eq_true (show t.length + 1 ≤ 8 by omega)]
  rfl
theorem near3 {d : Plan} (s : Semi d) : NearOk d ⟨d.kind, d.title ++ "x", d.fst, d.snd, d.low, d.high⟩ := by
  obtain ⟨h1, h2, h3, h4⟩ := okEnds_iff s.ok.ends
  have k := okEnds_mk (nameB_x h1 s.tl) h2 h3 h4
  refine ⟨⟨s.ok.kd, k, s.ok.lo, s.ok.hi⟩, fun z => ⟨⟨s.ok.kd, k, s.ok.lo, s.ok.hi⟩, ?_, s.lo, s.hi, s.f, s.s⟩⟩
  show (d.title ++ Str.ofString "x").length ≤ 7
  have := z.tl
  rw [Str.length_append]
  show d.title.length + 1 ≤ 7
  omega
theorem near4 {d : Plan} (s : Semi d) : NearOk d ⟨d.kind, d.title, d.fst, "zz", d.low, d.high⟩ := by
  obtain ⟨h1, h2, h3, h4⟩ := okEnds_iff s.ok.ends
  have k : okEnds d.title d.fst "zz" = true := okEnds_mk h1 h2 (by decide +kernel) s.f
  exact ⟨⟨s.ok.kd, k, s.ok.lo, s.ok.hi⟩, fun z => ⟨⟨s.ok.kd, k, s.ok.lo, s.ok.hi⟩, s.tl, s.lo, s.hi, s.f, by show Str.ofString "zz" ≠ Str.ofString "yy"; decide +kernel⟩⟩
theorem near5 {d : Plan} (s : Semi d) : NearOk d ⟨d.kind, d.title, "yy", d.snd, d.low, d.high⟩ := by
  obtain ⟨h1, h2, h3, h4⟩ := okEnds_iff s.ok.ends
  have k : okEnds d.title "yy" d.snd = true := okEnds_mk h1 (by decide +kernel) h3 s.s.symm
  exact ⟨⟨s.ok.kd, k, s.ok.lo, s.ok.hi⟩, fun z => ⟨⟨s.ok.kd, k, s.ok.lo, s.ok.hi⟩, s.tl, s.lo, s.hi, by show Str.ofString "yy" ≠ Str.ofString "zz"; decide +kernel, s.s⟩⟩
theorem near6 {d : Plan} (s : Semi d) : NearOk d ⟨d.kind, d.title, d.fst, d.snd, d.low + 1, d.high⟩ :=
  ⟨⟨s.ok.kd, s.ok.ends, (near_lo s.lo).2, s.ok.hi⟩, fun z => ⟨⟨s.ok.kd, s.ok.ends, (near_lo s.lo).2, s.ok.hi⟩, s.tl, by have := z.lo; show -9 ≤ d.low + 1 ∧ d.low + 1 ≤ 9; omega, s.hi, s.f, s.s⟩⟩
theorem near7 {d : Plan} (s : Semi d) : NearOk d ⟨d.kind, d.title, d.fst, d.snd, d.low, d.high + 1⟩ :=
  ⟨⟨s.ok.kd, s.ok.ends, s.ok.lo, (near_lo s.hi).2⟩, fun z => ⟨⟨s.ok.kd, s.ok.ends, s.ok.lo, (near_lo s.hi).2⟩, s.tl, s.lo, by have := z.hi; show -9 ≤ d.high + 1 ∧ d.high + 1 ≤ 9; omega, s.f, s.s⟩⟩
theorem near8 {d : Plan} (s : Semi d) : NearOk d d := ⟨s.ok, fun z => s⟩
theorem sc_near : FnScope ["_law_pen_here", "_law_plan_here", "_law_kind", "_law_title", "_law_first", "_law_second", "_law_low", "_law_high", "_law_way"] ["_law_pen_here", "_law_plan_here"] (defScope s__law_near) := ⟨rfl, rfl, rfl, by decide +kernel, rfl, by decide +kernel, by decide +kernel⟩
theorem p_near (T : Tx K mg) : Prom P w K mg base 3 d__law_near ["_law_pen_here", "_law_plan_here"] spNear := by
  obtain ⟨fd, F⟩ := f__law_near T
  obtain ⟨fdP, FP, GP, BP⟩ := p_pick (P := P) (w := w) (base := base) T
  obtain ⟨fdD, FD, GD, BD⟩ := p_draw (P := P) (w := w) (base := base) T
  refine ⟨fd, F, F.ok sc_near (fun vs H Q E h => ?_) (fun cdv A outer s H vs Q E hr h => ?_), F.bindsN fun _ _ _ _ _ _ us hl => match us, hl with | [_, _], _ => rfl⟩
  · obtain ⟨p, q, n, d, rfl, _⟩ := h
    rfl
  · obtain ⟨p, q, n, d, rfl, hp, hn, hqp, hq, sd, k⟩ := h
    refine ⟨_, PSs.nox (pss_cons (ps_asg (pv 1) (pg_unl (by rfl) (pgs_cons (pg_name (i := 2) sc_near.nd rfl (Or.inl rfl)) (pgs_cons (pg_name (i := 3) sc_near.nd rfl (Or.inl rfl)) (pgs_cons (pg_name (i := 4) sc_near.nd rfl (Or.inl rfl)) (pgs_cons (pg_name (i := 5) sc_near.nd rfl (Or.inl rfl)) (pgs_cons (pg_name (i := 6) sc_near.nd rfl (Or.inl rfl)) (pgs_cons (pg_name (i := 7) sc_near.nd rfl (Or.inl rfl)) pgs_nil))))))))
      (pss_cons (ps_set (i := 8) sc_near.nd rfl (Or.inl rfl) (pe_call GD (hr.mono (by decide)) rfl (g__law_draw T) FD.kp BD .nil pass0 (pa_cons (pv 0) (pa_cons pe_int pa_nil))))
      (pss_cons (ps_if (pt_cmpR op_eq (pv 8) pe_int (nomark _)) (pss_one (ps_ret (pe_lst (pa_cons (pv 2) (pa_cons (pv 3) (pa_cons (pv 5) (pa_cons (pv 4) (pa_cons (pv 7) (pa_cons (pv 6) pa_nil))))))))) pss_nil)
      (pss_cons (ps_if (pt_cmpR op_eq (pv 8) pe_int (nomark _)) (pss_one (ps_ret (pe_lst (pa_cons (pv 2) (pa_cons (pv 3) (pa_cons (pv 5) (pa_cons (pv 4) (pa_cons (pv 6) (pa_cons (pv 7) pa_nil))))))))) pss_nil)
      (pss_cons (ps_if (pt_cmpR op_eq (pv 8) pe_int (nomark _)) (pss_one (ps_ret (pe_lst (pa_cons (pe_call GP (hr.mono (by decide)) rfl (g__law_pick T) FP.kp BP .nil pass0 (pa_cons (pv 0) (pa_cons (pe_lst (pa_cons pe_str (pa_cons pe_str (pa_cons pe_str pa_nil)))) pa_nil))) (pa_cons (pv 3) (pa_cons (pv 4) (pa_cons (pv 5) (pa_cons (pv 6) (pa_cons (pv 7) pa_nil))))))))) pss_nil)
      (pss_cons (ps_if (pt_cmpR op_eq (pv 8) pe_int (nomark _)) (pss_one (ps_ret (pe_lst (pa_cons (pv 2) (pa_cons (pe_op op_add_str (pv 3) pe_str) (pa_cons (pv 4) (pa_cons (pv 5) (pa_cons (pv 6) (pa_cons (pv 7) pa_nil))))))))) pss_nil)
      (pss_cons (ps_if (pt_cmpR op_eq (pv 8) pe_int (nomark _)) (pss_one (ps_ret (pe_lst (pa_cons (pv 2) (pa_cons (pv 3) (pa_cons (pv 4) (pa_cons pe_str (pa_cons (pv 6) (pa_cons (pv 7) pa_nil))))))))) pss_nil)
      (pss_cons (ps_if (pt_cmpR op_eq (pv 8) pe_int (nomark _)) (pss_one (ps_ret (pe_lst (pa_cons (pv 2) (pa_cons (pv 3) (pa_cons pe_str (pa_cons (pv 5) (pa_cons (pv 6) (pa_cons (pv 7) pa_nil))))))))) pss_nil)
      (pss_cons (ps_if (pt_cmpR op_eq (pv 8) pe_int (nomark _)) (pss_one (ps_ret (pe_lst (pa_cons (pv 2) (pa_cons (pv 3) (pa_cons (pv 4) (pa_cons (pv 5) (pa_cons (pe_op op_add (pv 6) pe_int) (pa_cons (pv 7) pa_nil))))))))) pss_nil)
      (pss_one (ps_ret (pe_ifExp (pt_cmpR op_eq (pv 8) pe_int (nomark _)) (pe_lst (pa_cons (pv 2) (pa_cons (pv 3) (pa_cons (pv 4) (pa_cons (pv 5) (pa_cons (pv 6) (pa_cons (pe_op op_add (pv 7) pe_int) pa_nil))))))) (pe_callTy call_list_of (by rfl) (n_list T) (by decide +kernel) (pa_cons (pv 1) pa_nil)))))))))))))), ?_⟩
    refine ⟨_, rfl, q, d.vs, rfl, SqL.of hq, rfl, _, _, rfl, _, _, rfl, _, _, rfl, _, _, rfl, _, _, rfl, _, _, rfl, rfl, ?_⟩
    refine ⟨_, rfl, p, n, 9, rfl, hp, by omega, by decide, by decide, ?_⟩
    intro H1 w b1 p1 w0 w9
    have q1 : H1 q = some (.lst d.vs) := b1 q _ hqp hq
    have fin : ∀ (e : Plan), NearOk d e → ∀ r, H1 r = none → Q (.ref r) (upd H1 r (.lst e.vs)) := fun e ne r hr1 =>
      k _ r e (b1.new hr1) ((p1.new hr1).mono (by omega)) (p1.ne hr1).symm upd_same ne
    refine ⟨_, rfl, rfl, _, rfl, ?_⟩
    refine ite2 (fun e => ?_) (fun e => ?_)
    · exact ⟨_, rfl, _, rfl, _, rfl, _, rfl, _, rfl, _, rfl, (by show 6 ≤ sizeLine; decide), fin _ (near0 sd)⟩
    refine ⟨_, rfl, rfl, _, rfl, ?_⟩
    refine ite2 (fun e => ?_) (fun e => ?_)
    · exact ⟨_, rfl, _, rfl, _, rfl, _, rfl, _, rfl, _, rfl, (by show 6 ≤ sizeLine; decide), fin _ (near1 sd)⟩
    refine ⟨_, rfl, rfl, _, rfl, ?_⟩
    refine ite2 (fun e => ?_) (fun e => ?_)
    · refine ⟨_, rfl, (by show 3 ≤ sizeLine; decide), fun l2 n2 => ⟨p, l2, n + 1, _, rfl, p1.new n2, by omega, SqL.of upd_same, (p1.ne n2).symm, by decide, by decide, ?_⟩⟩
      intro H2 kv b2 p2 m2
      obtain ⟨ki, mk, rfl⟩ := mem_strs (xs := ["lane", "avenue", "road"]) m2
      have kk : kindOk ki := by
        simp only [List.mem_cons, List.not_mem_nil, or_false] at mk
        exact mk
      refine ⟨_, rfl, _, rfl, _, rfl, _, rfl, _, rfl, (by show 6 ≤ sizeLine; decide), fun r hr1 => ?_⟩
      exact k _ r ⟨ki, d.title, d.fst, d.snd, d.low, d.high⟩ (((b1.new n2).trans b2).new hr1) (p2.new hr1) (p2.ne hr1).symm upd_same (near2 sd kk)
    refine ⟨_, rfl, rfl, _, rfl, ?_⟩
    refine ite2 (fun e => ?_) (fun e => ?_)
    · refine ⟨_, rfl, _, rfl, _, _, rfl, rfl, ?_, _, rfl, _, rfl, _, rfl, _, rfl, (by show 6 ≤ sizeLine; decide), fin _ (near3 sd)⟩
      have t7 := sd.tl
      have sl : (100 : Nat) ≤ sizeLine := by decide
      show d.title.length + 1 ≤ sizeLine
      omega
    refine ⟨_, rfl, rfl, _, rfl, ?_⟩
    refine ite2 (fun e => ?_) (fun e => ?_)
    · exact ⟨_, rfl, _, rfl, _, rfl, _, rfl, _, rfl, (by show 6 ≤ sizeLine; decide), fin _ (near4 sd)⟩
    refine ⟨_, rfl, rfl, _, rfl, ?_⟩
    refine ite2 (fun e => ?_) (fun e => ?_)
    · exact ⟨_, rfl, _, rfl, _, rfl, _, rfl, _, rfl, (by show 6 ≤ sizeLine; decide), fin _ (near5 sd)⟩
    refine ⟨_, rfl, rfl, _, rfl, ?_⟩
    refine ite2 (fun e => ?_) (fun e => ?_)
    · exact ⟨_, rfl, _, rfl, _, rfl, _, rfl, _, rfl, _, _, rfl, rfl, _, rfl, (by show 6 ≤ sizeLine; decide), fin _ (near6 sd)⟩
    refine ⟨_, rfl, rfl, _, rfl, ?_⟩
    refine ite2 (fun e => ?_) (fun e => ?_)
    · exact ⟨_, rfl, _, rfl, _, rfl, _, rfl, _, rfl, _, rfl, _, _, rfl, rfl, (by show 6 ≤ sizeLine; decide), fin _ (near7 sd)⟩
    · exact ⟨_, rfl, q, _, rfl, .inl (SqL.of q1), fin _ (near8 sd)⟩
end
end K8
namespace K8
open PySem PySem.Spec PyProof.Rows L2 Hx Gx Nx
section
variable {X : Cx}
/-- street == anything -/
def rEqS (K : PySem.W.Frag) : R2 := fun x y H Q => ∃ (a : Addr) (v : Sv) (o : Option Sv), x = .ref a ∧ StAt K H a v ∧ YSt K H y o ∧ Q (.bl (decide (o = some v))) H
def rNeS (K : PySem.W.Frag) : R2 := fun x y H Q => ∃ (a : Addr) (v : Sv) (o : Option Sv), x = .ref a ∧ StAt K H a v ∧ YSt K H y o ∧ Q (.bl (!decide (o = some v))) H
theorem right_of (T : Tx X.K X.mg) {H : Hp} {y : V} {o : Option Sv} (h : YSt X.K H y o) : ∃ t, TyX X.K H y t ∧ PySem.W.notFirst X.K (He.ga X.K "Lane") t = true ∧ PySem.W.notFirst X.K (He.ga X.K "Avenue") t = true ∧ PySem.W.notFirst X.K (He.ga X.K "Road") t = true := by
  cases o with
  | none =>
    obtain ⟨t, h1, h2⟩ := h
    exact ⟨_, h1, nfs_Lane T h2, nfs_Avenue T h2, nfs_Road T h2⟩
  | some v =>
    obtain ⟨a, rfl, h⟩ := h
    refine ⟨_, tyx_st T h, ?_⟩
    cases v with
    | lane => exact ⟨nf_Lane_Lane T, nf_Avenue_Lane T, nf_Road_Lane T⟩
    | avenue => exact ⟨nf_Lane_Avenue T, nf_Avenue_Avenue T, nf_Road_Avenue T⟩
    | road => exact ⟨nf_Lane_Road T, nf_Avenue_Road T, nf_Road_Road T⟩
theorem op_eqS (T : Tx X.K X.mg) (hr : Room 1 X.A) : OpR X (compareOp .Eq) (rEqS X.K) := by
  rintro pins s σ H x y v u Q I rx ry ⟨a, sv, o, rfl, hx, hy, q⟩
  obtain ⟨t, ht, n1, n2, n3⟩ := right_of T hy
  cases sv with
  | lane =>
    obtain ⟨fd, F, G, B⟩ := p_Lane_eq (P := X.prog) (w := X.w) (base := X.base) T
    have hx' := hx
    obtain ⟨dx, hx⟩ := hx
    exact op_eqO (X := X) (C := He.ga X.K "Lane") ⟨(m_Lane_eq T).at_, (ci_Lane T).ne, (m_Lane_eq T).fn, (ci_Lane T).cm⟩ G B hr pass0 pins s σ H _ y v u Q I rx ry ⟨a, dx, _, t, rfl, hx, ht, n1, a, y, _, o, rfl, rfl, hx', hy, q⟩
  | avenue =>
    obtain ⟨fd, F, G, B⟩ := p_Avenue_eq (P := X.prog) (w := X.w) (base := X.base) T
    have hx' := hx
    obtain ⟨dx, hx⟩ := hx
    exact op_eqO (X := X) (C := He.ga X.K "Avenue") ⟨(m_Avenue_eq T).at_, (ci_Avenue T).ne, (m_Avenue_eq T).fn, (ci_Avenue T).cm⟩ G B hr pass0 pins s σ H _ y v u Q I rx ry ⟨a, dx, _, t, rfl, hx, ht, n2, a, y, _, o, rfl, rfl, hx', hy, q⟩
  | road =>
    obtain ⟨fd, F, G, B⟩ := p_Road_eq (P := X.prog) (w := X.w) (base := X.base) T
    have hx' := hx
    obtain ⟨dx, hx⟩ := hx
    exact op_eqO (X := X) (C := He.ga X.K "Road") ⟨(m_Road_eq T).at_, (ci_Road T).ne, (m_Road_eq T).fn, (ci_Road T).cm⟩ G B hr pass0 pins s σ H _ y v u Q I rx ry ⟨a, dx, _, t, rfl, hx, ht, n3, a, y, _, o, rfl, rfl, hx', hy, q⟩
theorem op_neS (T : Tx X.K X.mg) (hr : Room 2 X.A) : OpR X (compareOp .NotEq) (rNeS X.K) := by
  rintro pins s σ H x y v u Q I rx ry ⟨a, sv, o, rfl, hx, hy, q⟩
  obtain ⟨t, ht, n1, n2, n3⟩ := right_of T hy
  cases sv with
  | lane =>
    obtain ⟨fd, F, G, B⟩ := p_Lane_eq (P := X.prog) (w := X.w) (base := X.base) T
    have hx' := hx
    obtain ⟨dx, hx⟩ := hx
    exact op_neO (X := X) (C := He.ga X.K "Lane") ⟨(m_Lane_eq T).at_, (ci_Lane T).ne, (m_Lane_eq T).fn, (ci_Lane T).cm⟩ G B hr pass0 pins s σ H _ y v u Q I rx ry ⟨a, dx, _, t, rfl, hx, ht, n1, a, y, _, o, rfl, rfl, hx', hy, _, rfl, q⟩
  | avenue =>
    obtain ⟨fd, F, G, B⟩ := p_Avenue_eq (P := X.prog) (w := X.w) (base := X.base) T
    have hx' := hx
    obtain ⟨dx, hx⟩ := hx
    exact op_neO (X := X) (C := He.ga X.K "Avenue") ⟨(m_Avenue_eq T).at_, (ci_Avenue T).ne, (m_Avenue_eq T).fn, (ci_Avenue T).cm⟩ G B hr pass0 pins s σ H _ y v u Q I rx ry ⟨a, dx, _, t, rfl, hx, ht, n2, a, y, _, o, rfl, rfl, hx', hy, _, rfl, q⟩
  | road =>
    obtain ⟨fd, F, G, B⟩ := p_Road_eq (P := X.prog) (w := X.w) (base := X.base) T
    have hx' := hx
    obtain ⟨dx, hx⟩ := hx
    exact op_neO (X := X) (C := He.ga X.K "Road") ⟨(m_Road_eq T).at_, (ci_Road T).ne, (m_Road_eq T).fn, (ci_Road T).cm⟩ G B hr pass0 pins s σ H _ y v u Q I rx ry ⟨a, dx, _, t, rfl, hx, ht, n3, a, y, _, o, rfl, rfl, hx', hy, _, rfl, q⟩
/-- str(street) -/
def rStrS (K : PySem.W.Frag) : List V → Hp → VK → Prop := fun xs H Q => ∃ (a : Addr) (v : Sv), xs = [.ref a] ∧ StAt K H a v ∧ WfSv v ∧ Q (.str v.text) H
theorem call_strS (T : Tx X.K X.mg) (hr : Room 3 X.A) : CallR X (.type "str") (rStrS X.K) := by
  rintro pins s σ H xs us Q I r ⟨a, sv, rfl, hx, wf, q⟩
  cases sv with
  | lane =>
    obtain ⟨fd, F, G, B⟩ := p_Lane_str (P := X.prog) (w := X.w) (base := X.base) T
    have hx' := hx
    obtain ⟨dx, hx⟩ := hx
    exact call_strO (X := X) (C := He.ga X.K "Lane") (m_Lane_str T).at_ (m_Lane_str T).fn G B hr pass0 pins s σ H _ us Q I r ⟨a, dx, _, rfl, hx, a, _, rfl, rfl, wf, hx', _, rfl, q⟩
  | avenue =>
    obtain ⟨fd, F, G, B⟩ := p_Avenue_str (P := X.prog) (w := X.w) (base := X.base) T
    have hx' := hx
    obtain ⟨dx, hx⟩ := hx
    exact call_strO (X := X) (C := He.ga X.K "Avenue") (m_Avenue_str T).at_ (m_Avenue_str T).fn G B hr pass0 pins s σ H _ us Q I r ⟨a, dx, _, rfl, hx, a, _, rfl, rfl, wf, hx', _, rfl, q⟩
  | road =>
    obtain ⟨fd, F, G, B⟩ := p_Road_str (P := X.prog) (w := X.w) (base := X.base) T
    have hx' := hx
    obtain ⟨dx, hx⟩ := hx
    exact call_strO (X := X) (C := He.ga X.K "Road") (m_Road_str T).at_ (m_Road_str T).fn G B hr pass0 pins s σ H _ us Q I r ⟨a, dx, _, rfl, hx, a, _, rfl, rfl, wf, hx', _, rfl, q⟩
/-- street.ends, a property -/
def tEndsS (K : PySem.W.Frag) (ta : TE) : TE := fun σ H Q => ta σ H fun x H1 => ∃ (a : Addr) (v : Sv), x = .ref a ∧ StAt K H1 a v ∧ ∀ t, H1 t = none → Q (.ref t) (upd H1 t (.tup [.str v.ends.1, .str v.ends.2]))
theorem pe_endsS {e : Expr} {pos : Pos} {ta : TE} (T : Tx X.K X.mg) (hr : Room 2 X.A) (he : PE X e ta) (hab : attributeBase e "ends" X.env (eval e X.env) = eval e X.env := by rfl) : PE X (.Attribute e "ends" pos) (tEndsS X.K ta) := by
  refine ⟨fun pins s σ H Q I h => ?_⟩
  refine attr_of hab (thn (he.run pins s σ H _ I h) fun u s1 ⟨x, H1, I1, rx, a, v, ex, hx, q⟩ => ?_)
  subst ex
  obtain rfl : u = Value.ref a := rx
  cases v with
  | lane =>
    obtain ⟨fd, F, G, B⟩ := p_Lane_ends (P := X.prog) (w := X.w) (base := X.base) T
    have hx' := hx
    obtain ⟨dx, hx⟩ := hx
    exact getprop_ok I1 hx (c_Lane T) (pr_Lane_ends T) G hr B .nil pass0 ⟨a, _, rfl, rfl, hx', q⟩
  | avenue =>
    obtain ⟨fd, F, G, B⟩ := p_Avenue_ends (P := X.prog) (w := X.w) (base := X.base) T
    have hx' := hx
    obtain ⟨dx, hx⟩ := hx
    exact getprop_ok I1 hx (c_Avenue T) (pr_Avenue_ends T) G hr B .nil pass0 ⟨a, _, rfl, rfl, hx', q⟩
  | road =>
    obtain ⟨fd, F, G, B⟩ := p_Road_ends (P := X.prog) (w := X.w) (base := X.base) T
    have hx' := hx
    obtain ⟨dx, hx⟩ := hx
    exact getprop_ok I1 hx (c_Road T) (pr_Road_ends T) G hr B .nil pass0 ⟨a, _, rfl, rfl, hx', q⟩
/-- street.name -/
def tNameS (K : PySem.W.Frag) (ta : TE) : TE := fun σ H Q => ta σ H fun x H1 => ∃ (a : Addr) (v : Sv) (t : Str), x = .ref a ∧ StAt K H1 a v ∧ (v.fs.lookup ("name" : Str) = some (V.str t)) ∧ Q (.str t) H1
theorem pe_nameS {e : Expr} {pos : Pos} {ta : TE} (T : Tx X.K X.mg) (he : PE X e ta) (hab : attributeBase e "name" X.env (eval e X.env) = eval e X.env := by rfl) : PE X (.Attribute e "name" pos) (tNameS X.K ta) := by
  refine ⟨fun pins s σ H Q I h => ?_⟩
  refine attr_of hab (thn (he.run pins s σ H _ I h) fun u s1 ⟨x, H1, I1, rx, a, v, t, ex, hx, hl, q⟩ => ?_)
  subst ex
  obtain rfl : u = Value.ref a := rx
  obtain ⟨dx, hx⟩ := hx
  cases v with
  | lane => exact getattr_ok I1 hx (c_Lane T) (na_Lane_name T) hl fun u' s2 I2 ru => ⟨_, H1, I2, ru, q⟩
  | avenue => exact getattr_ok I1 hx (c_Avenue T) (na_Avenue_name T) hl fun u' s2 I2 ru => ⟨_, H1, I2, ru, q⟩
  | road => exact getattr_ok I1 hx (c_Road T) (na_Road_name T) hl fun u' s2 I2 ru => ⟨_, H1, I2, ru, q⟩
theorem op_eqT {K : PySem.W.Frag} {mg : Str → Option Value} (T : Tx K mg) (e1 : X.K = K) (e2 : X.mg = mg) (hr : Room 1 X.A) : OpR X (compareOp .Eq) (rEqS K) := by
  subst e1
  subst e2
  exact op_eqS T hr
theorem op_neT {K : PySem.W.Frag} {mg : Str → Option Value} (T : Tx K mg) (e1 : X.K = K) (e2 : X.mg = mg) (hr : Room 2 X.A) : OpR X (compareOp .NotEq) (rNeS K) := by
  subst e1
  subst e2
  exact op_neS T hr
end
end K8
namespace K8
open PySem PySem.Spec PyProof.Rows L2 Hx Gx Nx
section
variable {P : Program} {w : World} {K : PySem.W.Frag} {mg : Str → Option Value} {base : Heap}

theorem PenAt.same {H H' : Hp} {p : Addr} {n : Nat} (h : PenAt H p n) (s : Same H H') : PenAt H' p n := by
  obtain ⟨c, ns, a, r, h1, h2, h3, h4⟩ := h
  exact ⟨c, ns, a, r, s _ _ h1, h2, s _ _ h3, h4⟩
theorem StAt.but {H H' : Hp} {p x : Addr} {n : Nat} {v : Sv} (h : StAt K H x v) (q : PenAt H p n) (b : But p H H') : StAt K H' x v := by
  obtain ⟨c, ns, a, r, h1, _⟩ := q
  obtain ⟨dx, h⟩ := h
  exact ⟨dx, b _ _ (ne_of h h1 (by intro z; cases z)) h⟩
theorem StAt.same {H H' : Hp} {x : Addr} {v : Sv} (h : StAt K H x v) (s : Same H H') : StAt K H' x v := by
  obtain ⟨dx, h⟩ := h
  exact ⟨dx, s _ _ h⟩
theorem Plain.semi {d : Plan} (z : Plain d) : Semi d := ⟨z.ok, by have := z.tl; omega, by have := z.lo; omega, by have := z.hi; omega, z.f1, z.s2⟩
theorem told_ok (b : Bool) : PyData.showable (.list [.bool b, .bool b, .bool (!b), .bool (!b)]) = true ∧ PyData.hasDict (.list [.bool b, .bool b, .bool (!b), .bool (!b)]) = false ∧ PyData.depth (.list [.bool b, .bool b, .bool (!b), .bool (!b)]) ≤ 60 ∧ (PyData.shown (.list [.bool b, .bool b, .bool (!b), .bool (!b)])).length ≤ sizeLine := by
  cases b <;> decide +kernel
theorem wf_sv {d : Plan} (ok : d.Ok) : WfSv d.sv := by
  obtain ⟨h1, h2, h3, _⟩ := okEnds_iff ok.ends
  unfold Plan.sv mkAv mkRd
  split
  · exact ⟨h1, h2, h3⟩
  · split
    · split
      · exact ⟨h1, h2, h3⟩
      · exact ⟨h1, h3, h2⟩
    · split
      · exact ⟨h1, h2, h3, ok.lo, ok.hi⟩
      · exact ⟨h1, h3, h2, ok.hi, ok.lo⟩
theorem name_sv (d : Plan) : d.sv.fs.lookup ("name" : Str) = some (V.str d.title) := by
  unfold Plan.sv mkAv mkRd
  split
  · exact lf_name _ _ _
  · split
    · split
      · exact af_name _ _ _
      · exact af_name _ _ _
    · split
      · exact rf_name _ _ _ _ _
      · exact rf_name _ _ _ _ _
theorem made_same {H H1 : Hp} {x dx : Addr} {o u : HO} (n1 : H x = none) (n2 : H dx = none) (b : But x (upd (upd H dx u) x o) H1) : Same H H1 := fun c z e => by
  refine b c z (ne_of_none e n1) ?_
  rw [upd_ne (ne_of_none e n1), upd_ne (ne_of_none e n2)]
  exact e
def spLaw (K : PySem.W.Frag) : Sp := fun vs H Q _ => ∃ (a : Addr) (ns : List Int), vs = [.ref a] ∧ SqL K H a (ns.map V.int) ∧ ns.length ≤ 63 ∧ ∀ H', Q (.bl true) H'
theorem br3_Road {fd : FuncData} (F : Fd K d_Road_init fd) : ∃ ds, Vals [.int 0, .int 0] ds ∧ Binds K fd ["self", "name", "one", "other", "there", "back"] ds := by
  obtain ⟨ds, hv, hb⟩ := FunD.binds1 (ps := ["self", "name", "one", "other", "there", "back"]) F 4 0 (by intro z; cases z) rfl (fun T kV doc pm an cdv ct us its hl h2 => match us, its, hl, h2 with | [_, _, _, _], [_, _], _, _ => ⟨_, rfl, rfl⟩)
  exact ⟨ds, hv, hb⟩
theorem sc_law : FnScope ["_law_script", "_law_pen_here", "_law_turn", "_law_plan_here", "_law_street_here", "_law_again", "_law_mate", "_law_near_here", "_law_is_due", "_law_told", "_law_odd", "_law_one"] ["_law_script"] (defScope s_law) := ⟨rfl, rfl, rfl, by decide +kernel, rfl, by decide +kernel, by decide +kernel⟩
theorem p_law (T : Tx K mg) : ∃ fd, Fd K d_law fd ∧ FnG P w K mg base CX0 7 (d_law.adr K) fd ["_law_script"] (spLaw K) := by
  obtain ⟨fd, F⟩ := f_law T
  obtain ⟨fdE, FE, GE, BE⟩ := p_pen (P := P) (w := w) (base := base) T
  obtain ⟨fdP, FP, GP, BP⟩ := p_plan (P := P) (w := w) (base := base) T
  obtain ⟨fdS, FS, GS, BS⟩ := p_street (P := P) (w := w) (base := base) T
  obtain ⟨fdN, FN, GN, BN⟩ := p_near (P := P) (w := w) (base := base) T
  obtain ⟨fdD, FD, GD, BD⟩ := p_draw (P := P) (w := w) (base := base) T
  obtain ⟨fdF, FF, GF, BF⟩ := p_face (P := P) (w := w) (base := base) T
  obtain ⟨fdL, FL, GL, BL⟩ := p_Lane_init (P := P) (w := w) (base := base) T
  obtain ⟨fdA, FA, GA, BA⟩ := p_Avenue_init (P := P) (w := w) (base := base) T
  obtain ⟨fdR, FR, GR⟩ := p_Road_init (P := P) (w := w) (base := base) T
  obtain ⟨ds3, DR3, BR3⟩ := br3_Road FR
  refine ⟨fd, F, FnG.body F sc_law (fun vs H Q E h => ?_) (fun cdv A outer s H vs Q E hr gu h => ?_)⟩
  · obtain ⟨a, ns, rfl, _⟩ := h
    rfl
  · obtain ⟨a, ns, rfl, hs, hl, k⟩ := h
    have hr1 := hr.mono (show 1 ≤ 6 by decide)
    have hr2 := hr.mono (show 2 ≤ 6 by decide)
    refine ⟨_, PSs.nox (pss_cons (ps_set (i := 1) sc_law.nd rfl (Or.inl rfl) (pe_call GE (hr.mono (by decide)) rfl (g__law_pen T) FE.kp BE .nil pass0 (pa_cons (pv 0) pa_nil)))
      (pss_cons (ps_for PassesOwn.never rfl (pi_range1 (by rfl) (n_range T) (pa_cons pe_int pa_nil)) (pg_name (i := 2) sc_law.nd rfl (Or.inl rfl)) (pss_cons (ps_set (i := 3) sc_law.nd rfl (Or.inl rfl) (pe_call GP (hr.mono (by decide)) rfl (g__law_plan T) FP.kp BP .nil pass0 (pa_cons (pv 1) pa_nil)))
      (pss_cons (ps_set (i := 4) sc_law.nd rfl (Or.inr rfl) (pe_call GS (hr.mono (by decide)) rfl (g__law_street T) FS.kp BS .nil pass0 (pa_cons (pv 3) pa_nil)))
      (pss_cons (ps_for PassesOwn.never rfl (pi_range1 (by rfl) (n_range T) (pa_cons pe_int pa_nil)) (pg_name (i := 5) sc_law.nd rfl (Or.inl rfl)) (pss_cons (ps_set (i := 6) sc_law.nd rfl (Or.inl rfl) (pe_call GN (hr.mono (by decide)) rfl (g__law_near T) FN.kp BN .nil pass0 (pa_cons (pv 1) (pa_cons (pv 3) pa_nil))))
      (pss_cons (ps_if (pt_cmpR op_eq (pe_call GD (hr.mono (by decide)) rfl (g__law_draw T) FD.kp BD .nil pass0 (pa_cons (pv 1) (pa_cons pe_int pa_nil))) pe_int (nomark _)) (pss_one (ps_set (i := 6) sc_law.nd rfl (Or.inl rfl) (pe_call GN (hr.mono (by decide)) rfl (g__law_near T) FN.kp BN .nil pass0 (pa_cons (pv 1) (pa_cons (pv 6) pa_nil))))) pss_nil)
      (pss_cons (ps_par (i := 7) (j := 8) (by rfl) sc_law.nd rfl rfl (by decide) rfl rfl (pa_cons (pe_call GS (hr.mono (by decide)) rfl (g__law_street T) FS.kp BS .nil pass0 (pa_cons (pv 6) pa_nil)) (pa_cons (pe_cmpR (op_eqD (hu64 hr)) (pe_call GF (hr.mono (by decide)) rfl (g__law_face T) FF.kp BF .nil pass0 (pa_cons (pv 6) pa_nil)) (pe_call GF (hr.mono (by decide)) rfl (g__law_face T) FF.kp BF .nil pass0 (pa_cons (pv 3) pa_nil)) (nomark _)) pa_nil)) (by rfl))
      (pss_cons (ps_set (i := 9) sc_law.nd rfl (Or.inl rfl) (pe_lst (pa_cons (pe_cmpR (by refine op_eqT T ?_ ?_ ?_; rfl; rfl; exact hr1) (pv 4) (pv 7) (nomark _)) (pa_cons (pe_cmpR (by refine op_eqT T ?_ ?_ ?_; rfl; rfl; exact hr1) (pv 7) (pv 4) (nomark _)) pa_nil))))
      (pss_cons (ps_set (i := 9) sc_law.nd rfl (Or.inl rfl) (pe_op op_cat (pv 9) (pe_lst (pa_cons (pe_cmpR (by refine op_neT T ?_ ?_ ?_; rfl; rfl; exact hr2) (pv 4) (pv 7) (nomark _)) (pa_cons (pe_cmpR (by refine op_neT T ?_ ?_ ?_; rfl; rfl; exact hr2) (pv 7) (pv 4) (nomark _)) pa_nil)))))
      (pss_one (ps_if (pt_cmpR op_ne (pe_callB (call_reprD gu (hu64 hr)) (by rfl) (n_repr T) (by decide +kernel) (pa_cons (pv 9) pa_nil)) (pe_callB (call_reprD gu (hu64 hr)) (by rfl) (n_repr T) (by decide +kernel) (pa_cons (pe_op op_cat (pe_op op_rep (pe_lst (pa_cons (pv 8) pa_nil)) pe_int) (pe_op op_rep (pe_lst (pa_cons (pe_not (pv 8)) pa_nil)) pe_int)) pa_nil)) (nomark _)) (pss_one (ps_ret pe_bl)) pss_nil))))))))
      (pss_cons (ps_set (i := 10) sc_law.nd rfl (Or.inl rfl) (pe_lst (pa_cons pe_non (pa_cons pe_bl (pa_cons pe_int (pa_cons (pe_callTy (call_strS T (hr.mono (by decide))) (by rfl) (n_str T) (by decide +kernel) (pa_cons (pv 4) pa_nil)) (pa_cons (pv 3) (pa_cons (pe_callTy call_tuple_of (by rfl) (n_tuple T) (by decide +kernel) (pa_cons (pv 3) pa_nil)) (pa_cons pe_dnewK (pa_cons (pe_lst (pa_cons (pv 4) pa_nil)) (pa_cons (pe_nameS T (pv 4)) (pa_cons (pe_endsS T (hr.mono (by decide)) (pv 4)) pa_nil))))))))))))
      (pss_cons (ps_if (PW.pt (pw_or (pt_cmpR (op_neD (hu64 hr)) (pe_lc (own := [("_law_one", 11)]) (g := gName 11) (by rfl) sc_law.nd (pi_list (pv 10)) (blkOk_by (own := [("_law_one", 11)]) (N := ["_law_script", "_law_pen_here", "_law_turn", "_law_plan_here", "_law_street_here", "_law_again", "_law_mate", "_law_near_here", "_law_is_due", "_law_told", "_law_odd", "_law_one"]) (sc := defScope s_law) (by decide +kernel)) (fun _ _ _ _ _ => pg_name (i := 11) sc_law.nd rfl (Or.inl rfl)) (fun _ _ _ _ _ => (pts_one (pt_cmpR (by refine op_eqT T ?_ ?_ ?_; rfl; rfl; exact hr1) (pv 4) (pv 11) (nomark _)))) (fun _ _ _ _ _ => (pv 11))) (pe_lst pa_nil) (nomark _)) (pw_or1 (pt_cmpR (op_neD (hu64 hr)) (pe_lc (own := [("_law_one", 11)]) (g := gName 11) (by rfl) sc_law.nd (pi_list (pv 10)) (blkOk_by (own := [("_law_one", 11)]) (N := ["_law_script", "_law_pen_here", "_law_turn", "_law_plan_here", "_law_street_here", "_law_again", "_law_mate", "_law_near_here", "_law_is_due", "_law_told", "_law_odd", "_law_one"]) (sc := defScope s_law) (by decide +kernel)) (fun _ _ _ _ _ => pg_name (i := 11) sc_law.nd rfl (Or.inl rfl)) (fun _ _ _ _ _ => (pts_one (pt_not (pt_cmpR (by refine op_neT T ?_ ?_ ?_; rfl; rfl; exact hr2) (pv 4) (pv 11) (nomark _))))) (fun _ _ _ _ _ => (pv 11))) (pe_lst pa_nil) (nomark _))))) (pss_one (ps_ret pe_bl)) pss_nil)
      (pss_one (ps_if (PW.pt (pw_or (pt_not (pt_cmpR (by refine op_eqT T ?_ ?_ ?_; rfl; rfl; exact hr1) (pv 4) (pv 4) (nomark _))) (pw_or1 (pt_cmpR (by refine op_neT T ?_ ?_ ?_; rfl; rfl; exact hr2) (pv 4) (pe_call GS (hr.mono (by decide)) rfl (g__law_street T) FS.kp BS .nil pass0 (pa_cons (pv 3) pa_nil)) (nomark _))))) (pss_one (ps_ret pe_bl)) pss_nil))))))))
      (pss_one (ps_ret (pe_and (pe_cmpR (by refine op_neT T ?_ ?_ ?_; rfl; rfl; exact hr2) (pe_make (mk_Lane T) GL (hr.mono (by decide)) rfl (g_Lane T) BL .nil pass0 (pa_cons pe_str (pa_cons pe_str (pa_cons pe_str pa_nil)))) (pe_make (mk_Avenue T) GA (hr.mono (by decide)) rfl (g_Avenue T) BA .nil pass0 (pa_cons pe_str (pa_cons pe_str (pa_cons pe_str pa_nil)))) (nomark _)) (pe_one (pe_cmpR (by refine op_neT T ?_ ?_ ?_; rfl; rfl; exact hr2) (pe_make (mk_Avenue T) GA (hr.mono (by decide)) rfl (g_Avenue T) BA .nil pass0 (pa_cons pe_str (pa_cons pe_str (pa_cons pe_str pa_nil)))) (pe_make (mk_Road T) GR (hr.mono (by decide)) rfl (g_Road T) BR3 DR3 pass0 (pa_cons pe_str (pa_cons pe_str (pa_cons pe_str pa_nil)))) (nomark _)))))))), ?_⟩
    refine ⟨_, rfl, a, ns, rfl, hs, hl, fun H1 p s1 np p1 => ?_⟩
    refine ⟨14, rfl, by decide, by decide, for_range (n := 14) (fun i σ H' => PenAt H' p (40 * i) ∧ ∃ v2 v3 v4 v5 v6 v7 v8 v9 v10 v11, σ = [some (.ref a), some (.ref p), v2, v3, v4, v5, v6, v7, v8, v9, v10, v11]) ⟨p1, none, none, none, none, none, none, none, none, none, none, rfl⟩ ?_ ?_⟩
    · rintro i σ H2 hi ⟨p2, v2, v3, v4, v5, v6, v7, v8, v9, v10, v11, rfl⟩
      refine ⟨_, rfl, p, _, rfl, p2, by omega, fun H3 q d b3 p3 qp hq pl => ?_⟩
      refine ⟨_, rfl, q, d, rfl, hq, pl.ok, fun H4 x s4 nx hx => ?_⟩
      have p4 := p3.same s4
      have hq4 := s4 _ _ hq
      refine ⟨5, rfl, by decide, by decide, for_range (n := 5) (fun j σ H' => PenAt H' p (40 * i + 6 + 6 * j) ∧ H' q = some (.lst d.vs) ∧ StAt K H' x d.sv ∧ ∃ v2 v5 v6 v7 v8 v9 v10 v11, σ = [some (.ref a), some (.ref p), v2, some (.ref q), some (.ref x), v5, v6, v7, v8, v9, v10, v11]) ⟨p4, hq4, hx, _, _, _, _, _, _, _, _, rfl⟩ ?_ ?_⟩
      · rintro j σ H5 hj ⟨p5, hq5, hx5, v2, v5, v6, v7, v8, v9, v10, v11, rfl⟩
        refine ⟨_, rfl, _, rfl, p, q, _, d, rfl, p5, by omega, qp, hq5, pl.semi, fun H6 r e b6 p6 rp hr6 ne6 => ?_⟩
        refine ⟨_, rfl, p, _, 4, rfl, p6, by omega, by decide, by decide, fun H7 d4 b7 p7 _ _ => ?_⟩
        have hq6 := b6 q _ qp hq5
        have hx6 := hx5.but p5 b6
        have hq7 := b7 q _ qp hq6
        have hx7 := hx6.but p6 b7
        have hr7 := b7 r _ rp hr6
        refine ⟨rfl, _, rfl, ?_⟩
        refine ite2 (fun h0 => ?_) (fun h0 => ?_)
        · refine ⟨_, rfl, _, rfl, p, r, _, e, rfl, p7, by omega, rp, hr7, ne6.2 pl, fun H7' r' e' b7' p7' rp' hr7' ne7 => ?_⟩
          have hq8 := b7' q _ qp hq7
          have hx8 := hx7.but p7 b7'
          clear hq7 hx7 hr7 b7'
          rename_i z1 z2
          revert hq8 hx8 hr7' p7' ne7
          generalize H7' = H7
          intro p7 hr7 ne7 hq7 hx7
          have ok7 := ne7.1
          refine ⟨_, rfl, r', e', rfl, hr7, ok7, fun H8 y s8 ny hy => ?_⟩
          refine ⟨_, rfl, r', e', rfl, s8 _ _ hr7, fun H9 f1 s9 dp1 => ?_⟩
          refine ⟨_, rfl, q, d, rfl, s9 _ _ (s8 _ _ hq7), fun H10 f2 s10 dp2 => ?_⟩
          have s7 := (s8.trans s9).trans s10
          refine ⟨_, _, dp_same s10 _ _ dp1, dp2, shaped_face ok7, shaped_face pl.ok, ?_⟩
          rw [eqv_face ok7.kd pl.ok.kd]
          have p10 := p7.same s7
          have hq10 := s7 _ _ hq7
          have hx10 := hx7.same s7
          have hy10 := hy.same (s9.trans s10)
          clear s8 s9 s10 dp1 dp2 hr7 p7 hq7 hx7 hy
          refine ⟨_, _, rfl, ?_⟩
          -- told
          refine ⟨_, rfl, _, rfl, x, d.sv, some e'.sv, rfl, hx10, ⟨y, rfl, hy10⟩, ?_⟩
          refine ⟨_, rfl, _, rfl, y, e'.sv, some d.sv, rfl, hy10, ⟨x, rfl, hx10⟩, (by show 2 ≤ sizeLine; decide), fun t1 m1 => ?_⟩
          have S1 := new_same m1 (.lst [.bl (decide (some e'.sv = some d.sv)), .bl (decide (some d.sv = some e'.sv))])
          have q1 : (upd H10 t1 (.lst [.bl (decide (some e'.sv = some d.sv)), .bl (decide (some d.sv = some e'.sv))])) t1 = some (.lst [.bl (decide (some e'.sv = some d.sv)), .bl (decide (some d.sv = some e'.sv))]) := upd_same
          generalize upd H10 t1 (.lst [.bl (decide (some e'.sv = some d.sv)), .bl (decide (some d.sv = some e'.sv))]) = H11 at S1 q1
          refine ⟨_, rfl, _, rfl, _, rfl, x, d.sv, some e'.sv, rfl, hx10.same S1, ⟨y, rfl, hy10.same S1⟩, ?_⟩
          refine ⟨_, rfl, _, rfl, y, e'.sv, some d.sv, rfl, hy10.same S1, ⟨x, rfl, hx10.same S1⟩, (by show 2 ≤ sizeLine; decide), fun t2 m2 => ?_⟩
          have S2 := new_same m2 (.lst [.bl (!decide (some e'.sv = some d.sv)), .bl (!decide (some d.sv = some e'.sv))])
          refine ⟨t1, t2, _, _, rfl, rfl, S2 _ _ q1, upd_same, (by show 4 ≤ sizeLine; decide), fun t3 m3 => ?_⟩
          have u1 : decide (some d.sv = some e'.sv) = decide (e'.sv = d.sv) := by simp [eq_comm]
          have u2 : decide (some e'.sv = some d.sv) = decide (e'.sv = d.sv) := by simp
          rw [u1, u2] at S2 m3 q1
          rw [u1, u2]
          generalize decide (e'.sv = d.sv) = b at S2 m3 q1
          have S3 := new_same m3 (.lst ([.bl b, .bl b] ++ [.bl (!b), .bl (!b)]))
          have q3 : (upd (upd H11 t2 (.lst [.bl (!b), .bl (!b)])) t3 (.lst ([.bl b, .bl b] ++ [.bl (!b), .bl (!b)]))) t3 = some (.lst ([.bl b, .bl b] ++ [.bl (!b), .bl (!b)])) := upd_same
          have S4 := ((s7.trans S1).trans S2).trans S3
          generalize upd (upd H11 t2 (.lst [.bl (!b), .bl (!b)])) t3 (.lst ([.bl b, .bl b] ++ [.bl (!b), .bl (!b)])) = H12 at S3 S4 q3
          obtain ⟨tk1, tk2, tk3, tk4⟩ := told_ok b
          refine ⟨_, rfl, t3, .list [.bool b, .bool b, .bool (!b), .bool (!b)], rfl, .lst (SqL.of q3) (.cons (.bl _) (.cons (.bl _) (.cons (.bl _) (.cons (.bl _) .nil)))), tk1, tk2, tk3, tk4, ?_⟩
          refine ⟨_, rfl, (by show 1 ≤ sizeLine; decide), fun l1 k1 => ⟨l1, 2, [.bl b], rfl, rfl, upd_same, by decide, by decide, (by show 2 ≤ sizeLine; decide), fun l2 k2 => ?_⟩⟩
          refine ⟨_, rfl, _, rfl, (by show 1 ≤ sizeLine; decide), fun l3 k3 => ⟨l3, 2, [.bl (!b)], rfl, rfl, upd_same, by decide, by decide, (by show 2 ≤ sizeLine; decide), fun l4 k4 => ?_⟩⟩
          have n2 : l2 ≠ l3 := ne_of_none upd_same k3
          have n4 : l2 ≠ l4 := ne_of_none (by rw [upd_ne n2]; exact upd_same) k4
          refine ⟨l2, l4, _, _, rfl, rfl, by rw [upd_ne n4, upd_ne n2]; exact upd_same, upd_same, (by show 4 ≤ sizeLine; decide), fun l5 k5 => ?_⟩
          have S5 := (((new_same k1 (.lst [.bl b])).trans (new_same k2 (.lst (List.replicate (Int.toNat 2) [V.bl b]).flatten))).trans (new_same k3 (.lst [.bl (!b)]))).trans ((new_same k4 (.lst (List.replicate (Int.toNat 2) [V.bl (!b)]).flatten)).trans (new_same k5 (.lst ((List.replicate (Int.toNat 2) [V.bl b]).flatten ++ (List.replicate (Int.toNat 2) [V.bl (!b)]).flatten))))
          refine ⟨l5, .list [.bool b, .bool b, .bool (!b), .bool (!b)], rfl, .lst (xs := [.bl b, .bl b, .bl (!b), .bl (!b)]) (SqL.of upd_same) (.cons (.bl _) (.cons (.bl _) (.cons (.bl _) (.cons (.bl _) .nil)))), tk1, tk2, tk3, tk4, ?_⟩
          refine ⟨rfl, _, rfl, ?_⟩
          rw [decide_eq_true rfl]
          have S6 := S5
          refine iteF ⟨((p10.same S1).same ((S2.trans S3).trans S5)).mono (by omega), S5 _ _ (S3 _ _ (S2 _ _ (S1 _ _ hq10))), (((hx10.same S1).same S2).same S3).same S5, _, _, _, _, _, _, _, _, rfl⟩
        · have ok7 := ne6.1
          refine ⟨_, rfl, r, e, rfl, hr7, ne6.1, fun H8 y s8 ny hy => ?_⟩
          refine ⟨_, rfl, r, e, rfl, s8 _ _ hr7, fun H9 f1 s9 dp1 => ?_⟩
          refine ⟨_, rfl, q, d, rfl, s9 _ _ (s8 _ _ hq7), fun H10 f2 s10 dp2 => ?_⟩
          have s7 := (s8.trans s9).trans s10
          refine ⟨_, _, dp_same s10 _ _ dp1, dp2, shaped_face ne6.1, shaped_face pl.ok, ?_⟩
          rw [eqv_face ne6.1.kd pl.ok.kd]
          have p10 := p7.same s7
          have hq10 := s7 _ _ hq7
          have hx10 := hx7.same s7
          have hy10 := hy.same (s9.trans s10)
          clear s8 s9 s10 dp1 dp2 hr7 p7 hq7 hx7 hy
          refine ⟨_, _, rfl, ?_⟩
          -- told
          refine ⟨_, rfl, _, rfl, x, d.sv, some e.sv, rfl, hx10, ⟨y, rfl, hy10⟩, ?_⟩
          refine ⟨_, rfl, _, rfl, y, e.sv, some d.sv, rfl, hy10, ⟨x, rfl, hx10⟩, (by show 2 ≤ sizeLine; decide), fun t1 m1 => ?_⟩
          have S1 := new_same m1 (.lst [.bl (decide (some e.sv = some d.sv)), .bl (decide (some d.sv = some e.sv))])
          have q1 : (upd H10 t1 (.lst [.bl (decide (some e.sv = some d.sv)), .bl (decide (some d.sv = some e.sv))])) t1 = some (.lst [.bl (decide (some e.sv = some d.sv)), .bl (decide (some d.sv = some e.sv))]) := upd_same
          generalize upd H10 t1 (.lst [.bl (decide (some e.sv = some d.sv)), .bl (decide (some d.sv = some e.sv))]) = H11 at S1 q1
          refine ⟨_, rfl, _, rfl, _, rfl, x, d.sv, some e.sv, rfl, hx10.same S1, ⟨y, rfl, hy10.same S1⟩, ?_⟩
          refine ⟨_, rfl, _, rfl, y, e.sv, some d.sv, rfl, hy10.same S1, ⟨x, rfl, hx10.same S1⟩, (by show 2 ≤ sizeLine; decide), fun t2 m2 => ?_⟩
          have S2 := new_same m2 (.lst [.bl (!decide (some e.sv = some d.sv)), .bl (!decide (some d.sv = some e.sv))])
          refine ⟨t1, t2, _, _, rfl, rfl, S2 _ _ q1, upd_same, (by show 4 ≤ sizeLine; decide), fun t3 m3 => ?_⟩
          have u1 : decide (some d.sv = some e.sv) = decide (e.sv = d.sv) := by simp [eq_comm]
          have u2 : decide (some e.sv = some d.sv) = decide (e.sv = d.sv) := by simp
          rw [u1, u2] at S2 m3 q1
          rw [u1, u2]
          generalize decide (e.sv = d.sv) = b at S2 m3 q1
          have S3 := new_same m3 (.lst ([.bl b, .bl b] ++ [.bl (!b), .bl (!b)]))
          have q3 : (upd (upd H11 t2 (.lst [.bl (!b), .bl (!b)])) t3 (.lst ([.bl b, .bl b] ++ [.bl (!b), .bl (!b)]))) t3 = some (.lst ([.bl b, .bl b] ++ [.bl (!b), .bl (!b)])) := upd_same
          have S4 := ((s7.trans S1).trans S2).trans S3
          generalize upd (upd H11 t2 (.lst [.bl (!b), .bl (!b)])) t3 (.lst ([.bl b, .bl b] ++ [.bl (!b), .bl (!b)])) = H12 at S3 S4 q3
          obtain ⟨tk1, tk2, tk3, tk4⟩ := told_ok b
          refine ⟨_, rfl, t3, .list [.bool b, .bool b, .bool (!b), .bool (!b)], rfl, .lst (SqL.of q3) (.cons (.bl _) (.cons (.bl _) (.cons (.bl _) (.cons (.bl _) .nil)))), tk1, tk2, tk3, tk4, ?_⟩
          refine ⟨_, rfl, (by show 1 ≤ sizeLine; decide), fun l1 k1 => ⟨l1, 2, [.bl b], rfl, rfl, upd_same, by decide, by decide, (by show 2 ≤ sizeLine; decide), fun l2 k2 => ?_⟩⟩
          refine ⟨_, rfl, _, rfl, (by show 1 ≤ sizeLine; decide), fun l3 k3 => ⟨l3, 2, [.bl (!b)], rfl, rfl, upd_same, by decide, by decide, (by show 2 ≤ sizeLine; decide), fun l4 k4 => ?_⟩⟩
          have n2 : l2 ≠ l3 := ne_of_none upd_same k3
          have n4 : l2 ≠ l4 := ne_of_none (by rw [upd_ne n2]; exact upd_same) k4
          refine ⟨l2, l4, _, _, rfl, rfl, by rw [upd_ne n4, upd_ne n2]; exact upd_same, upd_same, (by show 4 ≤ sizeLine; decide), fun l5 k5 => ?_⟩
          have S5 := (((new_same k1 (.lst [.bl b])).trans (new_same k2 (.lst (List.replicate (Int.toNat 2) [V.bl b]).flatten))).trans (new_same k3 (.lst [.bl (!b)]))).trans ((new_same k4 (.lst (List.replicate (Int.toNat 2) [V.bl (!b)]).flatten)).trans (new_same k5 (.lst ((List.replicate (Int.toNat 2) [V.bl b]).flatten ++ (List.replicate (Int.toNat 2) [V.bl (!b)]).flatten))))
          refine ⟨l5, .list [.bool b, .bool b, .bool (!b), .bool (!b)], rfl, .lst (xs := [.bl b, .bl b, .bl (!b), .bl (!b)]) (SqL.of upd_same) (.cons (.bl _) (.cons (.bl _) (.cons (.bl _) (.cons (.bl _) .nil)))), tk1, tk2, tk3, tk4, ?_⟩
          refine ⟨rfl, _, rfl, ?_⟩
          rw [decide_eq_true rfl]
          have S6 := S5
          refine iteF ⟨((p10.same S1).same ((S2.trans S3).trans S5)).mono (by omega), S5 _ _ (S3 _ _ (S2 _ _ (S1 _ _ hq10))), (((hx10.same S1).same S2).same S3).same S5, _, _, _, _, _, _, _, _, rfl⟩
      · rintro σ H5 ⟨p5, hq5, hx5, v2, v5, v6, v7, v8, v9, v10, v11, rfl⟩
        refine ⟨_, rfl, x, d.sv, rfl, hx5, wf_sv pl.ok, ?_⟩
        refine ⟨_, rfl, _, rfl, q, _, rfl, .inl ⟨SqL.of hq5, fun tp h1 => ?_⟩⟩
        have S1 := new_same h1 (.tup d.vs)
        have T1 : (upd H5 tp (.tup d.vs)) tp = some (.tup d.vs) := upd_same
        generalize upd H5 tp (.tup d.vs) = H6 at S1 T1
        refine fun dd h2 => ?_
        have S2 := new_same h2 (.dK [])
        have T2 : (upd H6 dd (.dK [])) dd = some (.dK []) := upd_same
        generalize upd H6 dd (.dK []) = H7 at S2 T2
        refine ⟨_, rfl, (by show 1 ≤ sizeLine; decide), fun l3 h3 => ?_⟩
        have S3 := new_same h3 (.lst [.ref x])
        have T3 : (upd H7 l3 (.lst [.ref x])) l3 = some (.lst [.ref x]) := upd_same
        generalize upd H7 l3 (.lst [.ref x]) = H8 at S3 T3
        have X8 := ((hx5.same S1).same S2).same S3
        refine ⟨_, rfl, x, d.sv, d.title, rfl, X8, name_sv d, ?_⟩
        refine ⟨_, rfl, x, d.sv, rfl, X8, fun t4 h4 => ?_⟩
        have S4 := new_same h4 (.tup [.str d.sv.ends.1, .str d.sv.ends.2])
        have T4 : (upd H8 t4 (.tup [.str d.sv.ends.1, .str d.sv.ends.2])) t4 = some (.tup [.str d.sv.ends.1, .str d.sv.ends.2]) := upd_same
        generalize upd H8 t4 (.tup [.str d.sv.ends.1, .str d.sv.ends.2]) = H9 at S4 T4
        refine ⟨(by show 10 ≤ sizeLine; decide), fun od h5 => ?_⟩
        have S5 := new_same h5 (.lst [.non, .bl true, .int 0, .str d.sv.text, .ref q, .ref tp, .ref dd, .ref l3, .str d.title, .ref t4])
        have T5 : (upd H9 od (.lst [.non, .bl true, .int 0, .str d.sv.text, .ref q, .ref tp, .ref dd, .ref l3, .str d.title, .ref t4])) od = some (.lst [.non, .bl true, .int 0, .str d.sv.text, .ref q, .ref tp, .ref dd, .ref l3, .str d.title, .ref t4]) := upd_same
        generalize upd H9 od (.lst [.non, .bl true, .int 0, .str d.sv.text, .ref q, .ref tp, .ref dd, .ref l3, .str d.title, .ref t4]) = HA at S5 T5
        have R1 := ((S2.trans S3).trans S4).trans S5
        have R0 := S1.trans R1
        have PA := p5.same R0
        have QA := R0 _ _ hq5
        have XA := hx5.same R0
        have t1 := R1 _ _ T1
        have t2 := ((S3.trans S4).trans S5) _ _ T2
        have t3 := (S4.trans S5) _ _ T3
        have t4' := S5 _ _ T4
        clear S1 S2 S3 S4 S5 T1 T2 T3 T4 R1 R0 p5 hq5 hx5 X8
        have odd : ∀ (H' : Hp), Same HA H' → ∀ v, v ∈ [V.non, .bl true, .int 0, .str d.sv.text, .ref q, .ref tp, .ref dd, .ref l3, .str d.title, .ref t4] → YSt K H' v none := fun H' sm v hv => by
          simp only [List.mem_cons, List.not_mem_nil, or_false] at hv
          rcases hv with rfl | rfl | rfl | rfl | rfl | rfl | rfl | rfl | rfl | rfl
          · exact ⟨"NoneType", .base .non, by decide⟩
          · exact ⟨"bool", .base (.bl _), by decide⟩
          · exact ⟨"int", .base (.int _), by decide⟩
          · exact ⟨"str", .base (.str _), by decide⟩
          · exact ⟨"list", .base (.lst (sm _ _ QA)), by decide⟩
          · exact ⟨"tuple", .base (.tup (sm _ _ t1)), by decide⟩
          · exact ⟨"dict", .base (.dK (sm _ _ t2)), by decide⟩
          · exact ⟨"list", .base (.lst (sm _ _ t3)), by decide⟩
          · exact ⟨"str", .base (.str _), by decide⟩
          · exact ⟨"tuple", .base (.tup (sm _ _ t4')), by decide⟩
        have sNo : decide ((none : Option Sv) = some d.sv) = false := decide_eq_false (fun z => by cases z)
        -- [one for one in odd if street == one] != []
        refine ⟨_, rfl, od, rfl, ⟨_, SqL.of T5⟩, fun D nD => ?_⟩
        have oD : od ≠ D := ne_of_none T5 nD
        refine lc_list (K := K) (a := od) (xs := [.non, .bl true, .int 0, .str d.sv.text, .ref q, .ref tp, .ref dd, .ref l3, .str d.title, .ref t4]) (fun _ H' => Same HA H' ∧ H' D = some (.lst [])) ⟨new_same nD _, upd_same⟩ (fun _ H' _ z => SqL.of (z.1 _ _ T5)) ?_ ?_
        · rintro n v H' hv ⟨sm, dl⟩
          refine ⟨rfl, _, rfl, _, rfl, x, d.sv, none, rfl, XA.same sm, odd H' sm v (List.mem_of_getElem? hv), _, rfl, ?_⟩
          rw [sNo]
          exact iteF ⟨sm, dl⟩
        rintro HB ⟨sB, dB⟩
        refine ⟨(by show 0 ≤ sizeLine; decide), fun u hu => ?_⟩
        have SB := sB.trans (new_same hu (.lst []))
        refine ⟨.list [], .list [], .lst (SqL.of (new_same hu (.lst []) _ _ dB)) .nil, .lst (SqL.of upd_same) .nil, by decide, by decide, _, rfl, ?_⟩
        refine iteF ?_
        generalize upd HB u (.lst []) = HC at SB
        have T5c := SB _ _ T5
        -- [one for one in odd if not street != one] != []
        refine ⟨_, rfl, od, rfl, ⟨_, SqL.of T5c⟩, fun D2 nD2 => ?_⟩
        refine lc_list (K := K) (a := od) (xs := [.non, .bl true, .int 0, .str d.sv.text, .ref q, .ref tp, .ref dd, .ref l3, .str d.title, .ref t4]) (fun _ H' => Same HC H' ∧ H' D2 = some (.lst [])) ⟨new_same nD2 _, upd_same⟩ (fun _ H' _ z => SqL.of (z.1 _ _ T5c)) ?_ ?_
        · rintro n v H' hv ⟨sm, dl⟩
          refine ⟨rfl, _, rfl, _, rfl, x, d.sv, none, rfl, (XA.same SB).same sm, odd H' (SB.trans sm) v (List.mem_of_getElem? hv), _, rfl, ?_⟩
          rw [sNo]
          exact iteF ⟨sm, dl⟩
        rintro HD ⟨sD, dD⟩
        refine ⟨(by show 0 ≤ sizeLine; decide), fun u2 hu2 => ?_⟩
        have SD := (SB.trans sD).trans (new_same hu2 (.lst []))
        refine ⟨.list [], .list [], .lst (SqL.of (new_same hu2 (.lst []) _ _ dD)) .nil, .lst (SqL.of upd_same) .nil, by decide, by decide, _, rfl, ?_⟩
        refine iteF ?_
        generalize upd HD u2 (.lst []) = HE at SD
        have XE := XA.same SD
        -- not street == street or street != street(plan)
        have sYes : decide (some d.sv = some d.sv) = true := decide_eq_true rfl
        refine ⟨_, rfl, _, rfl, x, d.sv, some d.sv, rfl, XE, ⟨x, rfl, XE⟩, _, rfl, ?_⟩
        rw [sYes]
        refine iteF ⟨_, rfl, _, rfl, q, d, rfl, SD _ _ QA, pl.ok, fun HF y sF ny hy => ?_⟩
        refine ⟨x, d.sv, some d.sv, rfl, XE.same sF, ⟨y, rfl, hy⟩, _, rfl, ?_⟩
        rw [sYes]
        refine iteF ⟨((PA.same SD).same sF).mono (by omega), _, _, _, _, _, _, _, _, _, _, rfl⟩
    · rintro σ H2 ⟨p2, v2, v3, v4, v5, v6, v7, v8, v9, v10, v11, rfl⟩
      have okR : okEnds "r" "a" "b" = true := by decide +kernel
      refine fun x1 e1 i1 j1 n1 => ⟨x1, e1, "r", "a", "b", rfl, okR, upd_same, fun H3 b3 h3 => ⟨rfl, ?_⟩⟩
      refine fun x2 e2 i2 j2 n2 => ⟨x2, e2, "r", "a", "b", rfl, okR, upd_same, fun H4 b4 h4 => ⟨rfl, ?_⟩⟩
      have A1 : StAt K H3 x1 (.lane "r" "a" "b") := ⟨_, h3⟩
      have A2 : StAt K H4 x2 (mkAv "r" "a" "b") := ⟨_, by rw [cls_mkAv]; exact h4⟩
      refine ⟨x1, _, some (mkAv "r" "a" "b"), rfl, A1.same (made_same i2 j2 b4), ⟨x2, rfl, A2⟩, _, rfl, ?_⟩
      have d1 : decide (some (mkAv "r" "a" "b") = some (Sv.lane "r" "a" "b")) = false := by decide +kernel
      rw [d1]
      refine iteT ?_
      refine fun x3 e3 i3 j3 n3 => ⟨x3, e3, "r", "a", "b", rfl, okR, upd_same, fun H5 b5 h5 => ⟨rfl, ?_⟩⟩
      refine fun x4 e4 i4 j4 n4 => ⟨x4, e4, "r", "a", "b", 0, 0, rfl, okR, ⟨by decide, by decide⟩, ⟨by decide, by decide⟩, upd_same, fun H6 b6 h6 => ⟨rfl, ?_⟩⟩
      have A3 : StAt K H5 x3 (mkAv "r" "a" "b") := ⟨_, by rw [cls_mkAv]; exact h5⟩
      have A4 : StAt K H6 x4 (mkRd "r" "a" "b" 0 0) := ⟨_, by rw [cls_mkRd]; exact h6⟩
      refine ⟨x3, _, some (mkRd "r" "a" "b" 0 0), rfl, A3.same (made_same i4 j4 b6), ⟨x4, rfl, A4⟩, ?_⟩
      have d2 : decide (some (mkRd "r" "a" "b" 0 0) = some (mkAv "r" "a" "b")) = false := by decide +kernel
      rw [d2]
      exact k _
end
end K8
namespace Hx
open PySem L2
theorem fd_one {K : PySem.W.Frag} {d : Dx} {f g : FuncData} (F : Fd K d f) (G : Fd K d g) : f = g := by
  obtain ⟨oc, od, dV, kV, doc, pm, an, cdv, ct, osl, _, h, _⟩ := F.ex
  obtain ⟨oc2, od2, dV2, kV2, doc2, pm2, an2, cdv2, ct2, osl2, _, h2, _⟩ := G.ex
  have e := h.symm.trans h2
  simp only [Option.some.injEq, Obj.mk.injEq, Data.func.injEq] at e
  exact e.2.2.1
end Hx
open PySem PySem.W PySem.Calls PyProof.Rows
set_option maxRecDepth 100000 in
set_option maxHeartbeats 8000000 in
theorem PySem.Challenge.cw_signtown_k08_streets_compared_holds : PySem.Challenge.rw_signtown_k08_streets_compared.Holds := by
  w_on; o_law
  refine HandSHeadRun.head_any (r := OpenLaw.row PySem.Challenge.rw_signtown_k08_streets_compared) (q := view (OpenLaw.row PySem.Challenge.rw_signtown_k08_streets_compared).prog [42]) (H := K8.hk) (ob := K8.ob) (M := 20000) (loose := K8.loose)
    (d := HandSHeadRun.topDef (OpenLaw.row PySem.Challenge.rw_signtown_k08_streets_compared).prog 42) (kwd := []) K8.ob_eq
    (by kernel_rfl) (fun s => by kernel_rfl) K8.run (by kernel_rfl) (by kernel_rfl) (by kernel_rfl) (by rfl)
    (by first | assumption | decide +kernel) (by decide +kernel) ⟨rfl, rfl, rfl, rfl, rfl, by decide +kernel⟩ ?hw ?hc
  case hw => w_witness2
  case hc =>
    refine Gx.walk_G (l := PySem.Challenge.rw_signtown_k08_streets_compared) (n := 63) (k := 7) (x := "_law_script") (CX := L2.CX0) rfl (by decide) (by kernel_rfl) ⟨rfl, by decide, by decide⟩ ?F (fun _ _ _ _ z => z)
    intro w mg fa h Y G hmg0
    obtain ⟨K, KX, c⟩ := Y
    have T : K8.Tx K mg := ⟨h, KX, G, c⟩
    have hmg : mg ("law" : PySem.Str) = some (.ref fa) := by
      have e : (HandSHeadRun.topDef (OpenLaw.row PySem.Challenge.rw_signtown_k08_streets_compared).prog 42).name = ("law" : PySem.Str) := by kernel_rfl
      rw [← e]
      exact hmg0
    have e := hmg.symm.trans (K8.g_law T)
    cases e
    obtain ⟨fd0, F0⟩ := K8.f_law T
    have b := L2.FunD.bindsA (ps := ["_law_script"]) F0 fun _ _ _ _ _ _ us hl => match us, hl with | [_], _ => rfl
    have all : ∀ base : Heap, ∃ fd, Hx.Fd K K8.d_law fd ∧ Gx.FnG (PySem.Challenge.rw_signtown_k08_streets_compared).prog w K mg base L2.CX0 7 (K8.d_law.adr K) fd ["_law_script"] (K8.spLaw K) := fun base => K8.p_law T
    refine ⟨K, fd0, K8.spLaw K, KX, fun s v => b s [v] rfl, fun H a ns hl _ hS => ⟨a, ns, rfl, hS, hl, fun _ => rfl⟩, fun base _ _ => ?_⟩
    obtain ⟨fd, F, Gf⟩ := all base
    have e : fd = fd0 := Hx.fd_one F F0
    rw [← e]
    exact Gf
