import PyProof.Rows.All
import Wide.All
import OpenK.AllK
import Wide.FinOn
import PyProof.ReprRoads
import HandS.ForMost
import HandS.Defaults
import HandS.HeadHook3
import HandS.HeadWalk
import HandS.HeadEnd
import HandS.Head2
import HandS.IsInst
import HandS.Property
import HandS.FStr
import HandS.Wide
import HandS.OwnEq
import HandS.Flow
import HandS.Walk
import HandS.Style
import HandS.Zip
import HandS.Conv
import HandS.Exc
import HandS.ExcIs
import HandS.ExcField
import HandS.Lambda
import HandS.RaiseMore
import PyProof.NeKinds
import HandS.HeadHook4
import HandS.MakeKw
import HandS.MakeKwOnly
import HandS.ClsMeth
import HandS.ExcInit
import PySem.Challenge.RW_signtown_k06_streets_refused
import HandS.ExcOwn
import HandS.TryOnly
set_option Elab.async false
set_option linter.all false
set_option maxRecDepth 100000
set_option maxHeartbeats 4000000
namespace Gx
open PySem PySem.Spec PyProof.Rows L2
/-- a def's promise where no repr is under way -/
structure FnG (P : Program) (w : World) (K : PySem.W.Frag) (mg : Str → Option Value) (base : Heap) (CX : CXT) (k : Nat) (f : Addr) (fd : FuncData) (ps : List Str) (sp : Sp) : Prop where
  len : ∀ vs H Q E, sp vs H Q E → vs.length = ps.length
  run : ∀ (A : Around) (outer : List Env) (s : Shared) (H : Hp) (args : Args) (us : List Value) (vs : List V) (Q : VK) (E : XK),
    A.guards = some [] → Room k A → Env0 P w K mg base A outer s H → BindsTo s fd args (ps.zip us) → Vals vs us → sp vs H Q E →
      codeAny (model P w) A (.call (.ref f) args) (CR CX outer P w H s Q E) s
theorem FnG.of {P : Program} {w : World} {K : PySem.W.Frag} {mg : Str → Option Value} {base : Heap} {CX : CXT} {k : Nat} {f : Addr} {fd : FuncData} {ps : List Str} {sp : Sp}
    (F : FnOk P w K mg base CX k f fd ps sp) : FnG P w K mg base CX k f fd ps sp :=
  ⟨F.len, fun A outer s H args us vs Q E _ => F.run A outer s H args us vs Q E⟩
section
variable {P : Program} {w : World} {K : PySem.W.Frag} {mg : Str → Option Value} {base : Heap}
/-- its body, walked where no repr is under way -/
theorem FnG.body {CX : CXT} {x qual : Str} {params : Arguments} {body : List Stmt} {scope : Scope} {dvs : List V} {kws : List (Str × V)} {f : Addr} {fd : FuncData} {N ps : List Str} {k : Nat} {sp : Sp}
    (F : FunD K x qual params body scope dvs kws f fd) (S : FnScope N ps scope) (len : ∀ vs H Q E, sp vs H Q E → vs.length = ps.length)
    (hb : ∀ (cdv : Value) (A : Around) (outer : List Env) (s : Shared) (H : Hp) (vs : List V) (Q : VK) (E : XK),
      Room k (A.deeper (envOfC qual scope s.heap.objs.size f cdv)) → (cxOf CX P w K mg base N qual scope f cdv A outer s H E).A.guards = some [] → sp vs H Q E →
      ∃ t, PSs (cxOf CX P w K mg base N qual scope f cdv A outer s H E) body t ∧ t { nx := fun _ H' => Q .non H', rt := Q } (start N vs) H) :
    FnG P w K mg base CX (k + 1) f fd ps sp := by
  obtain ⟨oc, od, dV, kV, doc, pm, an, cdv, ct, osl, rfl, lk, hcd, _, _⟩ := F.ex
  refine ⟨len, ?_⟩
  intro A outer s H args us vs Q E gu hr e0 bind r hsp
  have hl := len _ _ _ _ hsp
  have held : ∀ b o, base.get? b = some o → s.heap.get? b = some o := fun b o e => (e0.bs b o e).1
  have KX : K.In s.heap := e0.mod.kin.keeps held
  have par : ∀ y ∈ ps.zip us, scope.names.lookup y.1 = some .local ∨ (scope.names.lookup y.1 = some .cell ∧ ((cellsFrom (s.heap.objs.size + 1) scope.names []).lookup y.1).isSome = true) := by
    rintro ⟨n, v⟩ hy
    rcases S.par n (List.of_mem_zip hy).1 with q | q
    · left; exact q
    · right; exact ⟨q, PySem.W.cellsFrom_some _ _ _ (.inl q)⟩
  refine codeAny_call_function hr.depth (KX _ _ lk) rfl S.co S.gen rfl
    (PySem.W.codeRec_of KX hcd) (bind _ _ _ _ ?_)
  refine wpAny_newFunctionEnv_cells S.kind par ?_
  intro env he s1 x
  subst he
  refine ⟨(e0.mod.nolimit.keeps held).keeps x.toInCall.keep, codeAny_func ?_⟩
  obtain ⟨t, ht, hq⟩ := hb cdv A outer s H vs Q E (hr.deeper _) gu hsp
  have I := inv_start (CX := CX) (mg := mg) (E := E) S hr.hd e0 hl r x
  refine wpAny_mono (ht.run [] s1 (start N vs) H _ I hq) ?_ (fun e s' hs => hs)
  intro fl s' hs
  cases fl with
  | ret u => obtain ⟨v, σ', H', J, rv, q⟩ := hs; exact ⟨v, H', J.os, J.bare, J.base, J.hok, rv, q⟩
  | next => obtain ⟨σ', H', J, q⟩ := hs; exact ⟨V.non, H', J.os, J.bare, J.base, J.hok, rfl, q⟩
  | brk => obtain ⟨_, _, _, q⟩ := hs; cases q
  | cont => obtain ⟨_, _, _, q⟩ := hs; cases q
end
section
variable {X : Cx} {CX : CXT} {k : Nat} {f : Addr} {fd : FuncData} {ps : List Str} {sp : Sp} {dvs : List V} {ds : List Value} {E : XK} {x : Str} {p pos : Pos} {e : Expr} {es : List Expr} {t : TA}
theorem run_g {pins : List (Addr × Obj)} {σ : L2.St} {H : Hp} {s : Shared} {Q : VK} {us : List Value} {vs : List V}
    (gu : X.A.guards = some []) (F : FnG X.prog X.w X.K X.mg X.base CX k f fd ps sp) (hr : Room k X.A) (hb : Binds X.K fd ps ds) (hd : Vals dvs ds) (hx : Passes CX X E)
    (I : Inv X pins σ H s) (r : Vals vs us) (h : sp (vs ++ dvs) H Q E) :
    wpAny (model X.prog X.w) X.A (call (.ref f) us) (EP X pins σ Q) X.xe s := by
  have all := r.append hd
  have hl : (us ++ ds).length = ps.length := all.length ▸ F.len _ _ _ _ h
  have go := F.run X.A X.stack s H ⟨us, []⟩ (us ++ ds) (vs ++ dvs) Q E gu hr I.env0 (hb s us I.kIn hl) all h
  refine wpAny_call (codeAny_mono go ?_)
  intro r s' hq
  match r, hq with
  | .error e, hq => exact hx pins σ H s e s' I hq
  | .ok (.ret u), hq => exact I.after hq
  | .ok .next, hq => exact hq.elim
  | .ok .brk, hq => exact hq.elim
  | .ok .cont, hq => exact hq.elim
/-- f(e, ..) -/
theorem pe_callG (gu : X.A.guards = some []) (F : FnG X.prog X.w X.K X.mg X.base CX k f fd ps sp) (hr : Room k X.A)
    (hg : Gl X x) (hm : X.mg x = some (.ref f)) (hk : PySem.W.keepIn X.K (.ref f) = true) (hb : Binds X.K fd ps ds) (hd : Vals dvs ds) (hx : Passes CX X E) (ha : PA X (e :: es) t)
    (hdb : (x == ("__debug__" : Str)) = false := by decide)
    (he : starEach (e :: es) X.env = (false, eval e X.env) :: starEach es X.env := by rfl)
    (hpl : (backTo pos (starEach es X.env)).any (·.1) = false := by rfl) :
    PE X (.Call (.Name x p) (e :: es) [] pos) (tCall sp dvs E t) := by
  constructor
  intro pins s σ H Q I h
  refine wpAny_Call_Name_kw (ld_glob I hg hm ?_ hdb)
  refine PySem.W.callWith_K (h₀ := X.base) I.ok.mod.kin hk
    (thn (ha.run pos pins s σ H _ I h) ?_) he hpl
  rintro us s1 ⟨vs, H1, I1, r, q⟩
  exact ⟨I1.kIn, run_g gu F hr hb hd hx I1 r q⟩
/-- repr of data: None, bools, ints, texts, lists, tuples -/
def rRepr (K : PySem.W.Frag) : List V → Hp → VK → Prop := fun xs H Q =>
  ∃ (a : Addr) (d : PyData), xs = [.ref a] ∧ Dp K H (.ref a) d ∧ d.showable = true ∧ d.hasDict = false ∧ d.depth ≤ 60 ∧ d.shown.length ≤ sizeLine ∧ Q (.str d.shown) H
theorem call_reprD (gu : X.A.guards = some []) (hu : X.A.units + 64 < cLine) : CallR X (.builtin "repr") (rRepr X.K) := by
  rintro pins s σ H xs us Q I r ⟨a, d, rfl, hd, sh, nd, dp, sz, q⟩
  obtain ⟨u, rfl, ru⟩ := r.one
  cases (show u = Value.ref a from ru)
  obtain ⟨as, rd⟩ := Dp.reads I d _ _ hd rfl
  refine repr_of_reads' rd sh (PyData.noDict_hsm nd) gu (by omega) (fun _ _ e => e) ?_ sz
  intro h' u tk kp
  exact ⟨.str d.shown, H, I.kept kp, ⟨u, rfl⟩, q⟩
end
/-- the law's call -/
theorem law_callG {P : Program} {w : World} {K : PySem.W.Frag} {mg mb : Str → Option Value} {CX : CXT} {k : Nat} {fa a : Addr} {fd : FuncData} {x : Str} {sp : Sp} {s₁ : Shared} {vs : List Value} {ns : List Int}
    (KX : K.In s₁.heap) (hns : s₁.heap.Ns mainGlobals mg) (hb : s₁.heap.Ns builtinsNs mb) (hbb : ∀ x : Str, x ≠ "__name__" → mb x = bootBuiltins x) (hlim : s₁.heap.NoLimit) (hg : s₁.gens = #[])
    (ha : s₁.heap.get? a = some { cls := .type "list", data := .seq vs.toArray })
    (hi : IntsAre vs ns) (hl : ns.length ≤ sizeLine) (hr : Room k callerA)
    (F : ∀ base : Heap, K.In base → base.Ns mainGlobals mg → FnG P w K mg base CX k fa fd [x] sp)
    (hbind : ∀ (s : Shared) (u : Value), BindsTo s fd ⟨[u], []⟩ [(x, u)])
    (hsp : ∀ H : Hp, Only H → SqL K H a (ns.map V.int) → sp [.ref a] H (fun v _ => v = .bl true) fun _ _ _ => False)
    (hCX : ∀ H e s', CX [] H s₁ (fun _ _ _ => False) e s' → False) :
    codeAny (model P w) callerA (.call (.ref fa) ⟨[.ref a], []⟩)
      (fun r s' => r = .ok (.ret (.bool true)) ∧ OldK s₁.heap s'.heap ∧ s'.os = s₁.os ∧ AllBare s'.gens) s₁ := by
  have rv := vals_ints hi
  have go : ∀ H : Hp, Only H → SqL K H a (ns.map V.int) → HOk P w H s₁.heap → (∀ b, H b ≠ none → b = a) → (H a ≠ none → K.lookup a = none) →
      codeAny (model P w) callerA (.call (.ref fa) ⟨[.ref a], []⟩)
        (fun r s' => r = .ok (.ret (.bool true)) ∧ OldK s₁.heap s'.heap ∧ s'.os = s₁.os ∧ AllBare s'.gens) s₁ := by
    intro H hO hS hok only hK
    have isA : ∀ {b : Addr} {u : HO}, H b = some u → b = a := fun {b u} q => only b (by rw [q]; exact Option.some_ne_none u)
    have noDict : ∀ {b : Addr} {o : Obj} {es : Array DictEntry} {ep : Nat}, s₁.heap.get? b = some o → o.data = .dict es ep → H b = none := by
      intro b o es ep e d
      cases q : H b with
      | none => rfl
      | some u =>
        cases isA q
        rw [ha] at e
        cases e
        cases (show Data.seq vs.toArray _ = Data.dict es ep from d)
    have ns' : ∀ {b : Addr} {m : Str → Option Value}, s₁.heap.Ns b m → (hidT s₁.heap H).Ns b m := by
      rintro b m ⟨o, es, ep, e, d, r⟩
      exact ⟨o, es, ep, hidT_get e (noDict e d), d, r⟩
    have kin : K.In (hidT s₁.heap H) := by
      intro b o e
      refine hidT_get (KX b o e) ?_
      cases q : H b with
      | none => rfl
      | some u =>
        cases isA q
        rw [hK (by rw [q]; exact Option.some_ne_none u)] at e
        cases e
    obtain ⟨mc, c1, c2⟩ := hlim
    have md : Mod K mg (hidT s₁.heap H) := ⟨kin, ns' hns, ⟨mb, ns' hb, hbb⟩, ⟨mc, ns' c1, c2⟩⟩
    have none_in : ∀ b : Addr, ¬ b ∈ ([] : List Addr) := fun b z => by cases z
    have e0 : Env0 P w K mg (hidT s₁.heap H) callerA [] s₁ H :=
      ⟨rfl, md, fun b o e => of_hidT e, Nat.le_of_eq (hidT_size _ _), trivial, fun b z => (none_in b z).elim, hok, .of_eq hg⟩
    have run := (F _ kin (ns' hns)).run callerA [] s₁ H ⟨[.ref a], []⟩ [.ref a] [.ref a] _ _ rfl hr e0 (hbind s₁ (.ref a)) (.cons rfl .nil) (hsp H hO hS)
    refine codeAny_mono run ?_
    intro r s' h
    match r, h with
    | .error e, h => exact (hCX H e s' h).elim
    | .ok .next, h => exact h.elim
    | .ok .brk, h => exact h.elim
    | .ok .cont, h => exact h.elim
    | .ok (.ret u), ⟨v, H', os, bare, un, hok', r', q⟩ =>
      cases (show v = .bl true from q)
      cases (show u = Value.bool true from r')
      refine ⟨rfl, OldK.of_keep ?_, os, bare⟩
      intro b o e
      cases hb : H b with
      | none => exact un.keep b o e hb (none_in b) (none_in b)
      | some u =>
        rcases hO b with z | ⟨ob, xs, z⟩
        · rw [hb] at z
          cases z
        · obtain ⟨e1, _⟩ := hok b _ z
          obtain ⟨e2, _⟩ := hok' b _ (un.frzs b ob _ z)
          rw [e] at e1
          cases e1
          exact e2
  cases hk : K.lookup a with
  | some o =>
    have e := (KX a o hk).symm.trans ha
    cases e
    have sq : SqL K (fun _ => none) a (ns.map V.int) :=
      .inr ⟨_, vs.toArray, _, hk, rfl, rfl, rfl, by rw [List.size_toArray, hi.length]; exact hl, by simpa using rv⟩
    exact go (fun _ => none) (fun _ => .inl rfl) sq (fun b u z => by cases z) (fun b z => (z rfl).elim) (fun z => (z rfl).elim)
  | none =>
    let L : HO := .frz { cls := .type "list", data := .seq vs.toArray } (.lst (ns.map V.int))
    have at1 : ∀ {b}, b = a → (fun b => if b = a then some L else none : Hp) b = some L := fun h => if_pos h
    have at0 : ∀ {b}, ¬ b = a → (fun b => if b = a then some L else none : Hp) b = none := fun h => if_neg h
    refine go (fun b => if b = a then some L else none) ?_ (.inl (.inr ⟨_, at1 rfl⟩)) ?_ ?_ (fun _ => hk)
    · intro b
      by_cases h : b = a
      · exact .inr ⟨_, _, at1 h⟩
      · exact .inl (at0 h)
    · intro b u z
      by_cases h : b = a
      · cases (at1 h).symm.trans z
        subst h
        exact ⟨ha, by rw [List.length_map]; exact hl, vs, _, rv, ha⟩
      · cases (at0 h).symm.trans z
    · intro b z
      by_cases h : b = a
      · exact h
      · exact (z (at0 h)).elim
/-- a law's end, over facts of the head -/
theorem walk_G {l : PySem.W.OpenLaw} {n k : Nat} {q : Program} {loose : List Str} {XP : (Str → Option Value) → Heap → Prop} {YP : World → Heap → Prop} {d : DefRec} {CX : CXT} {x : Str}
    (hn : l.most = some n) (hn2 : n ≤ sizeLine) (hdf : d.params.defaults = []) (hr : Room k callerA)
    (F : ∀ (w : World) (mg : Str → Option Value) (fa : Addr) (h : Heap), YP w h → h.Ns mainGlobals mg → mg d.name = some (.ref fa) →
      ∃ (K : PySem.W.Frag) (fd : FuncData) (sp : Sp), K.In h ∧ (∀ (s : Shared) (u : Value), BindsTo s fd ⟨[u], []⟩ [(x, u)]) ∧
        (∀ (H : Hp) (a : Addr) (ns : List Int), ns.length ≤ n → Only H → SqL K H a (ns.map V.int) → sp [.ref a] H (fun v _ => v = .bl true) fun _ _ _ => False) ∧
        ∀ base : Heap, K.In base → base.Ns mainGlobals mg → FnG l.prog w K mg base CX k fa fd [x] sp)
    (hCX : ∀ (H : Hp) (s : Shared) (e : Value) (s' : Shared), CX [] H s (fun _ _ _ => False) e s' → False) :
    PySem.W.WalkO q loose XP YP l.row.toRowW d [] (fun f vs => PySem.call f vs) := by
  refine Att.attach_call hn hdf ?_
  intro w s₀ s₁ mg mb fa o pm cd doc a vs ns G Y ho hd hcd hmg hobj hints hlen hg
  obtain ⟨K, fd, sp, KX, bind, hsp, hF⟩ := F w mg fa _ Y G.T.g hmg
  exact law_callG KX G.T.g G.T.b G.T.builtins G.T.nolimit hg hobj hints (Nat.le_trans hlen hn2) hr hF bind
    (fun H hO hS => hsp H a ns hlen hO hS) (fun H e s' => hCX H s₁ e s')
end Gx
/-! a caught error that is kept behind its clause: the statements behind the try know it -/
namespace KX
open PySem PySem.Spec PyProof.Rows L2
/-- what the clause 'except x as n' wishes, the rest of the block following it: t1, where the error is kept -/
def wKeep (K : PySem.W.Frag) (c : Value) (i : Nat) (ts t1 : Addr → Value → Option Addr → TS) (Wout : WX) (D : Ends) : WX := fun cls d σ H =>
  ∃ b, PySem.W.exmOne K cls c = some b ∧ (b = true → ∀ a, H a = none → ts a cls d { nx := fun σ' H' => t1 a cls d D (σ'.set i none) H', rt := D.rt, bk := fun σ' H' => D.bk (σ'.set i none) H', ct := fun σ' H' => D.ct (σ'.set i none) H' } (σ.set i (some (.ref a))) H) ∧
    (b = false → Wout cls d σ H)
section
variable {X : Cx} {x n : Str} {c : Value} {i : Nat} {body suite rest : List Stmt} {b₀ : Stmt} {np pos pos' : Pos} {tb : WX → TS} {ts t1 : Addr → Value → Option Addr → TS} {t0 : TS} {Wout : WX}
theorem pss_try_keep (hs : X.stack = X.env :: X.outer) (hf : X.env.frame = some X.env.locals) (hN : X.N.Nodup) (hi : X.N[i]? = some n) (hln : X.env.kindOf n = some .local) (hc : Names X x c) (tk : Takes X Wout)
    (hb : ∀ (W : WX) (pn : List (Addr × Obj)) (xe : Value → Shared → Prop), Takes (X.tr pn xe) W → PassesOwn (model X.prog X.w) X.A X.env xe → PSs (X.tr pn xe) body (tb W))
    (hsu : ∀ (a : Addr) (oe : Obj) (cls : Value) (d : Option Addr) (pn : List (Addr × Obj)), Zc cls d oe → (∃ vs, oe.data = .fields vs) → PSs (X.suite a ((a, oe) :: pn)) (b₀ :: suite) (ts a cls d))
    (h0 : PSs X rest t0)
    (h1 : ∀ (a : Addr) (oe : Obj) (cls : Value) (d : Option Addr) (pn : List (Addr × Obj)), Zc cls d oe → (∃ vs, oe.data = .fields vs) → PSs (X.tr ((a, oe) :: pn) X.xe) rest (t1 a cls d)) :
    PSs X (.Try body [.ExceptHandler (some (.Name x np)) (some n) (b₀ :: suite) pos'] [] [] pos :: rest) (fun D σ H => tb (wKeep X.K c i ts t1 Wout D) { D with nx := t0 D } σ H) := by
  refine ⟨fun pins s σ H D I h => ?_⟩
  have okX := I.ok
  have fr0 : X.A.frames = some (X.env :: X.outer) := by rw [okX.frames, hs]
  have lc0 : Loc X.env.scope n := .inl hln
  -- what stands behind the try: the rest where nothing was caught; the ends where the rest was run already
  let SPr : Flow → Shared → Prop := fun f w1 => match f with
    | .next => wpAny (model X.prog X.w) X.A (execs rest X.env) (SP X pins D) X.xe w1
    | f => SP X pins D f w1
  refine wpAny_execs_cons (wpAny_mono (Q := SPr) ?_ (fun f w2 q => ?_) (fun _ _ z => z))
  · refine wpAny_Try_except ?_
    refine wpAny_mono ((hb (wKeep X.K c i ts t1 Wout D) (X.pn ++ pins) (fun e s₁ => wpAny (model X.prog X.w) X.A (noteFrame e X.env) (fun _ s₂ => wpAny (model X.prog X.w) X.A (setFlight e none) (fun _ s₃ =>
      wpAny (model X.prog X.w) X.A (handleBy e X.env [.ExceptHandler (some (.Name x np)) (some n) (b₀ :: suite) pos']) SPr X.xe s₃) X.xe s₂) X.xe s₁) (fun u w1 hx => ?_) PassesOwn.looking).run [] s σ H { D with nx := t0 D } (I.toTry _) h) (fun f w2 hq => ?_) (fun e w2 he => he)
    · -- the catch
      obtain ⟨a, B, sg, pz, τ, G, cls, d, rfl, Jt, gb, us, s0, nn, oo, bb, b, eb1, yes, no⟩ := hx
      have J : Inv X pins τ G sg := Jt.ofTry okX
      have sk : Sky B (X.env :: X.outer) a (Zc cls d) X.env.locals w1.heap := by rw [← hs]; exact s0
      show wpAny (model X.prog X.w) X.A (noteFrame (.ref a) X.env) _ _ _
      refine Sky.land Zc.steady fr0 hf sk fun ha fa ua => ?_
      have Ja : Inv X pins τ G { w1 with heap := ha } := J.landed gb fa.1 (us.trans ua) oo bb
      obtain ⟨oa, va, ea, za, da⟩ := fa.there
      have offFr : ∀ {h : Heap} {o : Obj} {vs : Array Value}, h.FunFrames B (X.env :: X.outer) → h.get? a = some o → o.data = .fields vs → a ∉ frs (X.env :: X.outer) := fun {h o vs} ff e dd hm => by
        obtain ⟨_, o', e', hnf⟩ := ff.mem hm
        rw [e] at e'; cases e'
        exact hnf _ dd
      have nf := offFr fa.2.2.1 ea da
      have nl : a ≠ X.env.locals := fun z => nf (List.mem_filterMap.mpr ⟨X.env, List.mem_cons_self, by rw [hf, z]⟩)
      have ng : a ∉ X.fs := fun hm => by
        obtain ⟨e, he, q⟩ := List.mem_filterMap.mp hm
        exact nf (List.mem_filterMap.mpr ⟨e, List.mem_cons_of_mem _ he, q⟩)
      have Sa := Ja.suite ea da nn nl ng
      refine wpAny_handleBy_cons (codeAny_handlers_test ?_) (by intro q; cases q)
      have ty0 : PySem.W.Looks (model X.prog X.w) ha (typeOf (.ref a)) cls := fun A Q E s k q => wpAny_typeOf_ref (k _ _ ea) (by rw [za.1]; exact q)
      have mt := PySem.W.exm_one (M := model X.prog X.w) (Ja.kIn) ty0 eb1
      have ask : ∀ {Q : Value → Shared → Prop} {E : Value → Shared → Prop}, Q c { w1 with heap := ha } → wpAny (model X.prog X.w) (X.A.mark (some (.ref a))) (eval (.Name x np) X.env) Q E { w1 with heap := ha } := fun {Q E} q => by
        obtain ⟨hg, hdbg, hm | ⟨hm, hv, hnn⟩⟩ := hc
        · exact ld_glob (X := X.suite a ((a, oa) :: (X.pn ++ pins))) Sa hg hm q hdbg
        · exact ld_blt (X := X.suite a ((a, oa) :: (X.pn ++ pins))) Sa hg hm hv q hnn hdbg
      refine ask (mt.here ?_)
      cases b with
      | true =>
        refine codeAny_handlers_suite_as ?_
        refine HandSPX.lands_againZ fa fun hb2 fb ub => ?_
        have Jb : Inv X pins τ G { w1 with heap := hb2 } := J.landed gb fb.1 ((us.trans ua).trans ub) oo bb
        obtain ⟨ob, vb, eb, zb, db⟩ := fb.there
        have Sb := Jb.suite eb db nn nl ng
        refine store_ok (X := X.suite a ((a, ob) :: (X.pn ++ pins))) (v := .ref a) Sb hN hi lc0 rfl (fun w5 Sc => ?_) (.inr hln)
        refine wpAny_mono ((hsu a ob cls d (X.pn ++ pins) zb ⟨_, db⟩).run [] w5 _ G _ Sc (yes rfl a nn)) (fun f w6 hq => ?_) (fun _ _ z => False.elim z)
        -- the rest, the error known
        have keep1 : ∀ {τ6 : L2.St} {G6 : Hp} {w6 : Shared}, Inv (X.suite a ((a, ob) :: (X.pn ++ pins))) [] τ6 G6 w6 → Inv (X.tr ((a, ob) :: (X.pn ++ pins)) X.xe) [] τ6 G6 w6 := fun S =>
          ⟨okX.toTry _ _, S.os, S.bare, S.base, S.loc, S.cell, S.free, S.freeC, S.pin, S.hok, S.len⟩
        have back1 : ∀ {τ6 : L2.St} {G6 : Hp} {w6 : Shared}, Inv (X.tr ((a, ob) :: (X.pn ++ pins)) X.xe) [] τ6 G6 w6 → Inv X pins τ6 G6 w6 := fun S =>
          ⟨okX, S.os, S.bare, S.base, S.loc, S.cell, S.free, S.freeC, fun p hp => S.pin p (List.mem_append_left _ (List.mem_cons_of_mem _ hp)), S.hok, S.len⟩
        have after : ∀ {τ6 : L2.St} {G6 : Hp} {Q : Shared → Prop}, Inv (X.suite a ((a, ob) :: (X.pn ++ pins))) [] τ6 G6 w6 → (∀ w7, Inv (X.tr ((a, ob) :: (X.pn ++ pins)) X.xe) [] (τ6.set i none) G6 w7 → Q w7) →
            wpAny (model X.prog X.w) X.A (do bindName X.env n .none; unbindBehindTheSuite X.env n pos') (fun _ w7 => Q w7) X.xe w6 := fun {τ6 G6 Q} Sd hq =>
          gone_ok (X := X.tr ((a, ob) :: (X.pn ++ pins)) X.xe) (keep1 Sd) hN hi hln hq
        cases f with
        | next =>
          obtain ⟨τ6, G6, Sd, k6⟩ := hq
          refine after Sd fun w7 Jz => ?_
          refine wpAny_mono ((h1 a ob cls d (X.pn ++ pins) zb ⟨_, db⟩).run [] w7 _ G6 D Jz k6) (fun f w8 hq8 => ?_) (fun _ _ z => z)
          cases f with
          | next => obtain ⟨τ8, G8, Sz, k8⟩ := hq8; exact ⟨τ8, G8, back1 Sz, k8⟩
          | brk => obtain ⟨τ8, G8, Sz, k8⟩ := hq8; exact ⟨τ8, G8, back1 Sz, k8⟩
          | cont => obtain ⟨τ8, G8, Sz, k8⟩ := hq8; exact ⟨τ8, G8, back1 Sz, k8⟩
          | ret u => obtain ⟨y8, τ8, G8, Sz, rr8, k8⟩ := hq8; exact ⟨y8, τ8, G8, back1 Sz, rr8, k8⟩
        | brk =>
          obtain ⟨τ6, G6, Sd, k6⟩ := hq
          exact after Sd fun w7 Jz => ⟨_, _, back1 Jz, k6⟩
        | cont =>
          obtain ⟨τ6, G6, Sd, k6⟩ := hq
          exact after Sd fun w7 Jz => ⟨_, _, back1 Jz, k6⟩
        | ret u =>
          obtain ⟨y6, τ6, G6, Sd, rr6, k6⟩ := hq
          exact after Sd fun w7 Jz => ⟨_, _, _, back1 Jz, rr6, k6⟩
      | false =>
        show wpAny _ X.A (handleBy (.ref a) X.env []) _ _ _
        refine wpAny_handleBy_nil ?_
        obtain ⟨k1, k2, k3, oe, vs, T, oT, ts', he, hz, hd, h1, hr⟩ := id fa
        unfold PySem.passOn
        refine wpAny_bind (wpAny_field he hd h1 ?_)
        rw [if_neg (show ¬ ((Value.ref T == Value.none) = true) from by simp)]
        have go : wpAny (model X.prog X.w) X.A (setFlight (.ref a) X.env.frame) (fun _ s4 => wpAny (model X.prog X.w) X.A (throw (.ref a) : Sem Flow) SPr X.xe s4) X.xe { w1 with heap := ha } := by
          rw [hf]
          refine HandSPX.setFlight_upZ fa fun hb2 hh4 ub => wpAny_throw (tk _ _ ?_)
          exact ⟨a, B, sg, pins, τ, G, cls, d, rfl, J, gb, (us.trans ua).trans ub, .inr (.inr (by rw [hs]; exact hh4)), nn, oo, bb, no rfl⟩
        first
          | exact wpAny_bind (wpAny_pure (wpAny_bind go))
          | exact wpAny_bind go
    · cases f with
      | next =>
        obtain ⟨τ, G, Jt, q⟩ := hq
        exact wpAny_execs_nil (h0.run pins w2 τ G D (Jt.ofTry okX) q)
      | brk =>
        obtain ⟨τ, G, Jt, q⟩ := hq
        exact ⟨τ, G, Jt.ofTry okX, q⟩
      | cont =>
        obtain ⟨τ, G, Jt, q⟩ := hq
        exact ⟨τ, G, Jt.ofTry okX, q⟩
      | ret u =>
        obtain ⟨v, τ, G, Jt, r, q⟩ := hq
        exact ⟨v, τ, G, Jt.ofTry okX, r, q⟩
  · cases f with
    | next => exact q
    | brk => exact q
    | cont => exact q
    | ret u => exact q
end
end KX
/-! what is asked of a kept error: isinstance, a field; repr of plain values -/
namespace KX
open PySem PySem.Spec PyProof.Rows L2
theorem findObj_any {K : PySem.W.Frag} {C : Addr} {od : Option Obj} {name : Str} {a g : Value} (hc : (PySem.W.clsIn K C).isSome = true) (ha : PySem.W.findIn K (.ref C) name = some (some a))
    (hg : PySem.W.specialIn K a "__get__" = some (some g)) (ht : PySem.W.takesIn K a = some true) : PySem.W.findObj K C od name = some (.bind g a) := by
  cases q : PySem.W.clsIn K C with
  | none => rw [q] at hc; cases hc
  | some cd => simp [PySem.W.findObj, q, ha, hg, ht]
/-- x.__class__, x of an own error class, with a dict or without -/
theorem class_of {prog : Program} {w : World} {A : Around} {E : Value → Shared → Prop} {s : Shared} {K : PySem.W.Frag} {x D : Addr} {ox : Obj} {od : Option Obj} {Q : Option Value → Shared → Prop}
    (c : ExcC K D) (kin : K.In s.heap) (I : PySem.W.InstAt s.heap x ox D od) (h : Q (some (.ref D)) { s with toks := s.toks + 1 }) : wpAny (model prog w) A (getAttr? (.ref x) "__class__") Q E s := by
  have some_ : (PySem.W.clsIn K D).isSome = true := by
    have z := c.hd
    unfold PySem.W.hasDictIn at z
    cases q : PySem.W.clsIn K D with
    | none => rw [q] at z; cases z
    | some _ => rfl
  have found := findObj_any (od := od) some_ c.ha c.hn c.ht
  obtain ⟨hp, g, d, t, os⟩ := s
  have ty := I.type (M := model prog w)
  have own := PySem.W.looks_findIn (M := model prog w) kin c.hg
  have alt := PySem.W.looks_findIn (M := model prog w) kin c.hk
  have it := PySem.W.looks_find (M := model prog w) kin I found
  have exc : PySem.W.Looks (model prog w) hp (isInstance (.ref x) (.type "BaseException")) true := ty.andThen (PySem.W.looks_subIn kin c.hs)
  have n1 : (Value.builtin "BaseException.__getattribute__" == Value.builtin "object.__getattribute__") = false := by decide +kernel
  have n2 : (onTheHeap (Value.ref D) && Value.builtin "BaseException.__getattribute__" == Value.builtin "object.__getattribute__") = false := by rw [n1]; rfl
  have n3 : (false && onTheHeap (Value.builtin "BaseException.__getattribute__")) = false := rfl
  unfold getAttr? getAttrBy? getAttrBy
  refine wpAny_bind (wpAny_mkText (wpAny_bind (wpAny_attempt (wpAny_holding (wpAny_bind (ty.at (wpAny_bind (own.at ?_))))))))
  show wpAny _ _ (if (onTheHeap (Value.ref D) && Value.builtin "BaseException.__getattribute__" == Value.builtin "object.__getattribute__") = true then _ else _) _ _ _
  rw [n2, if_neg Bool.false_ne_true]
  unfold getAttrByItsOwn hookBefore
  refine wpAny_bind ?_
  rw [if_pos (show onTheHeap (Value.ref D) = true from rfl)]
  refine alt.at (wpAny_bind (wpAny_attempt (wpAny_holding ?_)))
  unfold callGetattribute
  rw [n3, if_neg Bool.false_ne_true]
  unfold boundAndCalled
  rw [PySem.F.excAttr_ValueError.ga.bind (.ref x)]
  refine wpAny_bind (wpAny_pure ?_)
  show wpAny _ _ (call (.builtin "BaseException.__getattribute__") [.ref x, .str "__class__" t]) _ _ _
  refine wpAny_call (codeAny_call_builtin PySem.F.excAttr_ValueError.ga.plain PySem.F.entry_bexc_ga ?_)
  refine @PySem.W.check_slot (model prog w) _ _ ⟨hp, g, d, t + 1, os⟩ "BaseException.__getattribute__" "BaseException" "__getattribute__" (.ref x) [.str "__class__" t] [] _ (by decide +kernel) (by decide +kernel) exc (PySem.F.args_bexc_ga (.ref x) (.str "__class__" t)) ?_
  unfold Builtin.«object.__getattribute__»
  refine wpAny_bind (wpAny_of_eq (a := ((Value.ref x : Value), [Value.str "__class__" t])) (by first | rfl | (simp only [slotArgs]; rfl)) ?_)
  refine wpAny_bind (wpAny_pure (wpAny_bind (ty.at (wpAny_bind (it.at ?_)))))
  show wpAny _ _ (holding [Value.builtin "object.__class__"] (call (.builtin "getset_descriptor.__get__") [.builtin "object.__class__", .ref x, .ref D]) >>= ret) _ _ _
  refine wpAny_bind (wpAny_holding (wpAny_call (PySem.W.class_get (s := ⟨hp, g, d, t + 1, os⟩) (ox := ox) (od := od) kin I c.hm (wpAny_pure ?_))))
  show wpAny _ _ (handedOut (.ref D)) _ _ _
  rw [PySem.W.handedOut_of (v := .ref D) rfl]
  first
    | exact wpAny_pure (wpAny_pure h)
    | exact wpAny_pure h
    | exact wpAny_pure (wpAny_bind (wpAny_pure (wpAny_pure h)))

theorem kit_kept {K : PySem.W.Frag} {x D : Addr} {ox : Obj} {od : Option Obj} (c : ExcC K D) : PySem.W.KitX K (.ref x) (.ref D) (fun h => PySem.W.InstAt h x ox D od) where
  ty := fun _ _ _ I => I.type
  it := fun _ _ kin _ => by
    have z := c.hd
    unfold PySem.W.hasDictIn at z
    cases q : PySem.W.clsIn K D with
    | none => rw [q] at z; cases z
    | some cd =>
      unfold PySem.W.clsIn at q
      split at q
      · rename_i ho
        intro _ _ _ _ kp k
        unfold isType loadHead
        exact wpAny_bind (wpAny_loadPart (kp _ _ (kin _ _ ho)) (wpAny_pure k))
      · cases q
  ne := fun h tp dd its n sl kin htp => by
    cases e : (Value.ref D == Value.ref tp) with
    | false => rfl
    | true =>
      have e2 : D = tp := Value.ref.inj (beq_iff_eq.mp e)
      have z := c.hd
      unfold PySem.W.hasDictIn at z
      cases q : PySem.W.clsIn K D with
      | none => rw [q] at z; cases z
      | some cd =>
        unfold PySem.W.clsIn at q
        split at q
        · rename_i ho
          rw [e2] at ho
          cases (kin _ _ ho).symm.trans htp
        · cases q
  ca := fun kin I k => class_of c kin I k
/-- isinstance(e, C), e the kept error -/
def rIsK (K : PySem.W.Frag) (a : Addr) (cls : Value) (d : Option Addr) : List V → Hp → VK → Prop := fun xs H Q =>
  ∃ (c : V) (cv : Value) (b : Bool) (D dd : Addr) (fs : List (Str × V)), xs = [.ref a, c] ∧ cls = .ref D ∧ d = some dd ∧ ExcC K D ∧ H dd = some (.xd fs) ∧ (∀ u, RelV c u → u = cv) ∧ PySem.W.kitOne K (.ref D) cv = some b ∧ Q (.bl b) H
theorem call_isK {X : Cx} {a : Addr} {oe : Obj} {cls : Value} {d : Option Addr} {pn : List (Addr × Obj)} {xe : Value → Shared → Prop} (hz : Zc cls d oe) (hf : ∃ vs, oe.data = .fields vs) :
    CallR (X.tr ((a, oe) :: pn) xe) (.builtin "isinstance") (rIsK X.K a cls d) := by
  intro pins s σ H xs us Q I r h
  obtain ⟨c, cv, b, D, dd, fs, rfl, rfl, rfl, ec, ed, hcv, e, q⟩ := h
  cases r with
  | cons rx rr =>
    cases rr with
    | cons rt rr =>
      cases rr
      cases rx
      have e2 := hcv _ rt
      subst e2
      obtain ⟨hget, _⟩ := I.pin (a, oe) (List.mem_append.mpr (.inl List.mem_cons_self))
      obtain ⟨vs, hv⟩ := hf
      obtain ⟨mA, hns, _⟩ := (show ObjOk X.prog X.w H s.heap dd (.xd fs) from I.hok dd _ ed)
      obtain ⟨od, ho, _⟩ := lookIn_ns hns
      have J : PySem.W.InstAt s.heap a oe D (some od) := ⟨hget, hz.1, by unfold PySem.W.notCls; rw [hv] <;> rfl, by rw [hz.2]; exact ho⟩
      exact PySem.W.kia_one (kit_kept (ox := oe) (od := some od) ec) I.kIn J e (fun z => nomatch z) fun tk => ⟨.bl b, H, I.kept (t' := tk) fun _ _ z => z, rfl, q⟩
/-- e.f, e the kept error -/
def tXk (K : PySem.W.Frag) (a : Addr) (cls : Value) (d : Option Addr) (f : Str) (te : TE) : TE := fun σ H Q => te σ H fun x H1 => x = .ref a ∧ ∃ (C dd : Addr) (fs : List (Str × V)) (v : V),
  cls = .ref C ∧ d = some dd ∧ XfC K C ∧ PySem.W.findIn K (.ref C) f = some none ∧ H1 dd = some (.xd fs) ∧ fs.lookup f = some v ∧ Q v H1
theorem pe_xk {X : Cx} {a : Addr} {oe : Obj} {cls : Value} {d : Option Addr} {pn : List (Addr × Obj)} {xe : Value → Shared → Prop} {e : Expr} {te : TE} {pos : Pos} {n : Str}
    (hz : Zc cls d oe) (hf : ∃ vs, oe.data = .fields vs) (he : PE (X.tr ((a, oe) :: pn) xe) e te) (hb : attributeBase e n X.env (eval e X.env) = eval e X.env := by rfl) :
    PE (X.tr ((a, oe) :: pn) xe) (.Attribute e n pos) (tXk X.K a cls d n te) := by
  refine ⟨fun pins s σ H Q I h => ?_⟩
  refine attr_of hb (thn (he.run pins s σ H _ I h) fun u s1 ⟨x, H1, I1, rx, ex, C, dd, fs, v, ec, ed, T, hno, ea, l, q⟩ => ?_)
  subst ex
  subst ec
  subst ed
  cases (show u = Value.ref a from rx)
  obtain ⟨ha, _⟩ := I1.pin (a, oe) (List.mem_append_left _ List.mem_cons_self)
  obtain ⟨vs, hd⟩ := hf
  obtain ⟨mA, hns, hr⟩ := (show ObjOk X.prog X.w H1 s1.heap dd (.xd fs) from I1.hok dd _ ea)
  obtain ⟨od, ho, hl⟩ := lookIn_ns hns
  obtain ⟨u, hu, ru⟩ := RelO.some_of (v := v) (o := mA n) (by rw [← l]; exact hr n)
  have J : PySem.W.InstAt s1.heap a oe C (some od) := ⟨ha, hz.1, by unfold PySem.W.notCls; rw [hd] <;> rfl, by rw [hz.2]; exact ho⟩
  exact HandSPX.exc_get I1.kIn J T.ga T.gg T.exC (PySem.W.findObj_own T.hdC hno rfl (by rw [hl, hu])) (handed_of ru) ⟨v, H1, I1.tok _, ru, q⟩
end KX
/-! repr of a plain value or a container -/
namespace KX
open PySem PySem.Spec PyProof.Rows L2 Gx
/-- the text of a value's repr -/
inductive Rp (K : PySem.W.Frag) (H : Hp) : V → Str → Prop
  | non : Rp K H .non "None"
  | bl (b : Bool) : Rp K H (.bl b) (if b then ("True" : Str) else "False")
  | int (i : Int) : i.natAbs.log2 < 1920 → Rp K H (.int i) (toString i : String)
  | str (x : Str) : (reprText x).length ≤ sizeLine → Rp K H (.str x) (reprText x)
  | obj {a : Addr} {d : PyData} : Dp K H (.ref a) d → d.showable = true → d.hasDict = false → d.depth ≤ 60 → d.shown.length ≤ sizeLine → Rp K H (.ref a) d.shown
  | dict {a : Addr} : H a = some (.dK []) → Rp K H (.ref a) (PyData.dict []).shown
def rReprV (K : PySem.W.Frag) : List V → Hp → VK → Prop := fun xs H Q => ∃ x t, xs = [x] ∧ Rp K H x t ∧ Q (.str t) H
theorem call_reprV {X : Cx} (gu : X.A.guards = some []) (hu : X.A.units + 64 < cLine) : CallR X (.builtin "repr") (rReprV X.K) := by
  rintro pins s σ H xs us Q I r ⟨x, t, rfl, rp, q⟩
  obtain ⟨u, rfl, ru⟩ := r.one
  cases rp with
  | non =>
    cases (show u = Value.none from ru)
    exact PySem.P.repr_of_none ⟨.str _, H, I.tok _, ⟨_, rfl⟩, q⟩
  | bl b =>
    cases (show u = Value.bool b from ru)
    exact PySem.P.repr_of_bool ⟨.str _, H, I.tok _, ⟨_, rfl⟩, q⟩
  | int i hz =>
    obtain ⟨t, rfl⟩ := ru
    exact PySem.P.repr_of_int hz ⟨.str _, H, I.tok _, ⟨_, rfl⟩, q⟩
  | str x hz =>
    obtain ⟨t, rfl⟩ := ru
    exact PySem.P.repr_of_str ⟨.str _, H, I.tok _, ⟨_, rfl⟩, q⟩ hz
  | @obj a d hd sh nd dp sz =>
    cases (show u = Value.ref a from ru)
    obtain ⟨as, rd⟩ := Dp.reads I d _ _ hd rfl
    refine repr_of_reads' rd sh (PyData.noDict_hsm nd) gu (by omega) (fun _ _ e => e) ?_ sz
    intro h' u tk kp
    exact ⟨.str d.shown, H, I.kept kp, ⟨u, rfl⟩, q⟩
  | @dict a ha =>
    cases (show u = Value.ref a from ru)
    obtain ⟨_, nsys, vs, kv, o, es, ep, ho, ⟨hc, _⟩, hd, _, he, _⟩ := (show ObjOk X.prog X.w H s.heap a (.dK []) from I.hok a _ ha)
    cases kv
    have e0 : es.toList = [] := by
      cases q0 : es.toList with
      | nil => rfl
      | cons e r => rw [q0] at he; cases he
    have rd : Reads s.heap (.ref a) (.dict []) (a :: [] ++ []) := .dict ho hc hd (by rw [e0]; exact .nil) (by rw [e0]; exact .nil)
    have d1 : (PyData.dict []).depth ≤ 2 := by decide
    refine repr_of_reads' rd (by decide) (fun _ z => ?_) gu (Nat.lt_of_le_of_lt (Nat.add_le_add_left (show (PyData.dict []).depth + 1 ≤ 64 by omega) _) hu) (fun _ _ e => e) ?_ (by decide +kernel)
    · have z2 : sysModules = a := by simpa using z
      rw [z2] at nsys
      simp at nsys
    · intro h' u tk kp
      exact ⟨.str _, H, I.kept kp, ⟨u, rfl⟩, q⟩
end KX
/-! a list of anything against the empty list -/
namespace KX
open PySem PySem.Spec PyProof.Rows L2
def rNeE (K : PySem.W.Frag) : R2 := fun x y H Q => ∃ (a b : Addr) (xs : List V), x = .ref a ∧ y = .ref b ∧ SqL K H a xs ∧ SqL K H b [] ∧ Q (.bl (!decide (xs = []))) H
def rEqE (K : PySem.W.Frag) : R2 := fun x y H Q => ∃ (a b : Addr) (xs : List V), x = .ref a ∧ y = .ref b ∧ SqL K H a xs ∧ SqL K H b [] ∧ Q (.bl (decide (xs = []))) H
section
variable {X : Cx}
theorem op_neE (hu : X.A.units + 64 < cLine) : OpR X (compareOp .NotEq) (rNeE X.K) := by
  intro pins s σ H x y v u Q I rx ry h
  obtain ⟨a, b, xs, rfl, rfl, ha, hb, q⟩ := h
  cases (show v = Value.ref a from rx)
  cases (show u = Value.ref b from ry)
  obtain ⟨us, r1, p1, _⟩ := I.list ha
  obtain ⟨ws, r2, p2, _⟩ := I.list hb
  cases r2
  cases xs with
  | nil =>
    cases r1
    refine SeqAt.RcNeAt.lists (e := fun _ => true) p1.isList p2.isList rfl (by omega) (fun j h1 _ => absurd h1 (Nat.not_lt_zero j)) X.prog X.w _ _ ?_
    exact ⟨.bl _, H, I, rfl, q⟩
  | cons z zs =>
    cases r1 with
    | @cons _ u0 _ ur ra rw' =>
      refine SeqAt.RcNeAt.lists_lengths p1.isList p2.isList (by simp) (by omega) X.prog X.w _ _ ?_
      exact ⟨.bl _, H, I, rfl, q⟩
theorem op_eqE (hu : X.A.units + 64 < cLine) : OpR X (compareOp .Eq) (rEqE X.K) := by
  intro pins s σ H x y v u Q I rx ry h
  obtain ⟨a, b, xs, rfl, rfl, ha, hb, q⟩ := h
  cases (show v = Value.ref a from rx)
  cases (show u = Value.ref b from ry)
  obtain ⟨us, r1, p1, _⟩ := I.list ha
  obtain ⟨ws, r2, p2, _⟩ := I.list hb
  cases r2
  cases xs with
  | nil =>
    cases r1
    refine SeqAt.RcAt.lists (e := fun _ => true) p1.isList p2.isList rfl (by omega) (fun j h1 _ => absurd h1 (Nat.not_lt_zero j)) X.prog X.w _ _ ?_
    exact ⟨.bl _, H, I, rfl, q⟩
  | cons z zs =>
    cases r1 with
    | @cons _ u0 _ ur ra rw' =>
      refine SeqAt.RcAt.lists_lengths p1.isList p2.isList (by simp) (by omega) X.prog X.w _ _ ?_
      exact ⟨.bl _, H, I, rfl, q⟩
end
end KX
/-! what was heard: pairs of texts; a list of them; a def that makes lambdas; keywords -/
namespace KX
open PySem PySem.Spec PyProof.Rows L2 LamX Gx
/-- the slots at a raise are as many as the frame's names -/
theorem takes_len {X : Cx} {W : WX} (t : Takes X W) : Takes X (fun c d σ H => σ.length = X.N.length → W c d σ H) := fun u s' ⟨a, B, sI, pins, σ, H, cls, d, e, I, nb, up, sky, na, os, ag, w⟩ =>
  t u s' ⟨a, B, sI, pins, σ, H, cls, d, e, I, nb, up, sky, na, os, ag, w I.len⟩
theorem pss_imp {X : Cx} {b : List Stmt} {t t' : TS} (h : PSs X b t) (k : ∀ D σ H, t' D σ H → t D σ H) : PSs X b t' := ⟨fun pins s σ H D I q => h.run pins s σ H D I (k _ _ _ q)⟩
theorem pe_mono {X : Cx} {e : Expr} {t : TE} (h : PE X e t) : PE X e (fun σ H Q => ∃ Qn : VK, t σ H Qn ∧ ∀ v H', Qn v H' → Q v H') :=
  ⟨fun pins s σ H Q I ⟨Qn, h1, h2⟩ => wpAny_mono (h.run pins s σ H Qn I h1) (fun u s' ⟨v, H', J, r, q⟩ => ⟨v, H', J, r, h2 _ _ q⟩) (fun _ _ z => z)⟩
theorem len4 {σ : L2.St} (h : σ.length = 4) : ∃ a b c d, σ = [a, b, c, d] := by
  match σ, h with
  | [a, b, c, d], _ => exact ⟨a, b, c, d, rfl⟩
theorem new_same {H : Hp} {p : Addr} (n : H p = none) (o : HO) : Same H (upd H p o) := fun b u e => by rw [upd_ne (ne_of_none e n)]; exact e
/-- None, or a new pair of texts -/
inductive Val (H : Hp) : V → PyData → Prop
  | non : Val H .non .none
  | pair {t : Addr} {s u : Str} : H t = some (.tup [.str s, .str u]) → Val H (.ref t) (.tuple [.str s, .str u])
theorem Val.dp {K : PySem.W.Frag} {H : Hp} {v : V} {D : PyData} (h : Val H v D) : Dp K H v D := by
  cases h with
  | non => exact .non
  | pair h => exact .tup (SqT.of h) (.cons (.str _) (.cons (.str _) .nil))
theorem Val.of {H H' : Hp} {v : V} {D : PyData} (h : Val H v D) (s : ∀ b xs, H b = some (.tup xs) → H' b = some (.tup xs)) : Val H' v D := by
  cases h with
  | non => exact .non
  | pair h => exact .pair (s _ _ h)
theorem Val.ext {H H' : Hp} {v : V} {D : PyData} (h : Val H v D) (s : ExtN H H') : Val H' v D := h.of fun b xs e => s b _ e (fun ps z => by cases z)
theorem Val.same {H H' : Hp} {v : V} {D : PyData} (h : Val H v D) (s : Same H H') : Val H' v D := h.of fun b xs e => s b _ e
theorem ExtN.same {H H1 H2 : Hp} (e : ExtN H H1) (s : Same H1 H2) : ExtN H H2 := fun b o h n => s b o (e b o h n)
theorem tab_same {H H' : Hp} {P : Addr} {q : Str} (t : TabS H P q) (s : Same H H') : TabS H' P q := t.ext fun b o e => s b o e
theorem tab_lst {H : Hp} {P l : Addr} {q : Str} {xs ys : List V} (t : TabS H P q) (hl : H l = some (.lst xs)) : TabS (upd H l (.lst ys)) P q := by
  obtain ⟨ps, h1, h2, h3⟩ := t
  have np : P ≠ l := fun z => by rw [z, hl] at h1; cases h1
  refine ⟨ps, by rw [upd_ne np]; exact h1, h2, fun pos cv hc => ?_⟩
  obtain ⟨c, e1, e2⟩ := h3 pos cv hc
  have nc : c ≠ l := fun z => by
    rw [z, hl] at e2
    unfold CodeO at e2
    cases e2
  exact ⟨c, e1, by rw [upd_ne nc]; exact e2⟩
/-- a list at l that is filled with such values -/
structure Stt (H0 H : Hp) (P : Addr) (q : Str) (l : Addr) (vs : List V) (Ds : List PyData) : Prop where
  ext : ExtN H0 H
  tab : TabS H P q
  at_ : H l = some (.lst vs)
  vals : Paired (Val H) vs Ds
  fresh : ∀ o, H0 l = some o → ∃ ps, o = .tbl ps
theorem vals_of {H H' : Hp} (s : ∀ b xs, H b = some (.tup xs) → H' b = some (.tup xs)) {vs : List V} {Ds : List PyData} (h : Paired (Val H) vs Ds) : Paired (Val H') vs Ds := by
  induction h with
  | nil => exact .nil
  | cons a b ih => exact .cons (a.of s) ih
theorem paired_snoc {α β : Type} {R : α → β → Prop} {xs : List α} {ys : List β} {x : α} {y : β} (h : Paired R xs ys) (r : R x y) : Paired R (xs ++ [x]) (ys ++ [y]) := by
  induction h with
  | nil => exact .cons r .nil
  | cons a b ih => exact .cons a ih
/-- a lambda is made, heard, and what was heard is put behind -/
theorem Stt.step {H0 H H1 H2 : Hp} {P l : Addr} {q : Str} {vs : List V} {Ds : List PyData} {v : V} {D : PyData} (S : Stt H0 H P q l vs Ds) (e : ExtN H H1) (t : TabS H1 P q) (s : Same H1 H2) (r : Val H2 v D) :
    H2 l = some (.lst vs) ∧ Stt H0 (upd H2 l (.lst (vs ++ [v]))) P q l (vs ++ [v]) (Ds ++ [D]) := by
  have l2 : H2 l = some (.lst vs) := s _ _ (e _ _ S.at_ (fun ps z => by cases z))
  have ut : ∀ b xs, H2 b = some (.tup xs) → upd H2 l (.lst (vs ++ [v])) b = some (.tup xs) := fun b xs h => by
    rw [upd_ne (fun z => by rw [z, l2] at h; cases h)]
    exact h
  refine ⟨l2, fun b o h nt => ?_, tab_lst (tab_same t s) l2, upd_same, ?_, S.fresh⟩
  · have nb : b ≠ l := fun z => by
      rw [z] at h
      obtain ⟨ps, hp⟩ := S.fresh o h
      exact nt ps hp
    rw [upd_ne nb]
    exact s _ _ (e _ _ (S.ext _ _ h nt) nt)
  · refine paired_snoc (vals_of (fun b xs h => ut b xs (s _ _ (e _ _ h (fun ps z => by cases z)))) S.vals) (r.of ut)
theorem Stt.start {H0 H1 H2 : Hp} {P l : Addr} {q : Str} {v : V} {D : PyData} (e : ExtN H0 H1) (t : TabS H1 P q) (s : Same H1 H2) (r : Val H2 v D) (n : H2 l = none) : Stt H0 (upd H2 l (.lst [v])) P q l [v] [D] := by
  have s2 := s.trans (new_same n (.lst [v]))
  refine ⟨ExtN.same e s2, tab_same t s2, upd_same, .cons (r.same (new_same n _)) .nil, fun o h => ?_⟩
  cases o with
  | tbl ps => exact ⟨ps, rfl⟩
  | _ =>
    have z := s _ _ (e _ _ h (fun ps z => by cases z))
    rw [n] at z
    cases z
theorem Stt.same {H0 H H1 : Hp} {P l : Addr} {q : Str} {vs : List V} {Ds : List PyData} (S : Stt H0 H P q l vs Ds) (s : Same H H1) : Stt H0 H1 P q l vs Ds :=
  ⟨ExtN.same S.ext s, tab_same S.tab s, s _ _ S.at_, vals_of (fun b xs h => s b _ h) S.vals, S.fresh⟩
theorem vals_dp {K : PySem.W.Frag} {H : Hp} {vs : List V} {Ds : List PyData} (h : Paired (Val H) vs Ds) : DpAll K H vs Ds := by
  induction h with
  | nil => exact .nil
  | cons a b ih => exact .cons a.dp ih
section
variable {P : Program} {w : World} {K : PySem.W.Frag} {mg : Str → Option Value} {base : Heap}
/-- a def's body, its code object told, where no repr is under way -/
theorem FnG.bodyT {CX : CXT} {x qual : Str} {params : Arguments} {body : List Stmt} {scope : Scope} {dvs : List V} {kws : List (Str × V)} {f : Addr} {fd : FuncData} {N ps : List Str} {k : Nat} {sp : Sp} {p : He.Defn} (hp : He.fAd K p = f)
    (F : FunD K x qual params body scope dvs kws f fd) (S : FnScope N ps scope) (len : ∀ vs H Q E, sp vs H Q E → vs.length = ps.length)
    (hb : ∀ (A : Around) (outer : List Env) (s : Shared) (H : Hp) (vs : List V) (Q : VK) (E : XK),
      Room k (A.deeper (envOfC qual scope s.heap.objs.size f (.ref (He.cT K p).1))) → (cxOf CX P w K mg base N qual scope f (.ref (He.cT K p).1) A outer s H E).A.guards = some [] → sp vs H Q E →
      ∃ t, PSs (cxOf CX P w K mg base N qual scope f (.ref (He.cT K p).1) A outer s H E) body t ∧ t { nx := fun _ H' => Q .non H', rt := Q } (start N vs) H) :
    FnG P w K mg base CX (k + 1) f fd ps sp := by
  obtain ⟨oc, od, dV, kV, doc, pm, an, cdv, ct, osl, rfl, lk, hcd, _, _⟩ := F.ex
  obtain ⟨c, rfl⟩ := He.codeIn_ref hcd
  have ec : (He.cT K p).1 = c := He.codeOf_eq (by rw [hp]; exact lk) rfl
  refine ⟨len, ?_⟩
  intro A outer s H args us vs Q E gu hr e0 bind r hsp
  have hl := len _ _ _ _ hsp
  have held : ∀ b o, base.get? b = some o → s.heap.get? b = some o := fun b o e => (e0.bs b o e).1
  have KX : K.In s.heap := e0.mod.kin.keeps held
  have par : ∀ y ∈ ps.zip us, scope.names.lookup y.1 = some .local ∨ (scope.names.lookup y.1 = some .cell ∧ ((cellsFrom (s.heap.objs.size + 1) scope.names []).lookup y.1).isSome = true) := by
    rintro ⟨n, v⟩ hy
    rcases S.par n (List.of_mem_zip hy).1 with q | q
    · left; exact q
    · right; exact ⟨q, PySem.W.cellsFrom_some _ _ _ (.inl q)⟩
  refine codeAny_call_function hr.depth (KX _ _ lk) rfl S.co S.gen rfl
    (PySem.W.codeRec_of KX hcd) (bind _ _ _ _ ?_)
  refine wpAny_newFunctionEnv_cells S.kind par ?_
  intro env he s1 x
  subst he
  refine ⟨(e0.mod.nolimit.keeps held).keeps x.toInCall.keep, codeAny_func ?_⟩
  have hb1 := hb A outer s H vs Q E
  rw [ec] at hb1
  obtain ⟨t, ht, hq⟩ := hb1 (hr.deeper _) gu hsp
  have I := inv_start (CX := CX) (mg := mg) (E := E) S hr.hd e0 hl r x
  refine wpAny_mono (ht.run [] s1 (start N vs) H _ I hq) ?_ (fun e s' hs => hs)
  intro fl s' hs
  cases fl with
  | ret u => obtain ⟨v, σ', H', J, rv, q⟩ := hs; exact ⟨v, H', J.os, J.bare, J.base, J.hok, rv, q⟩
  | next => obtain ⟨σ', H', J, q⟩ := hs; exact ⟨V.non, H', J.os, J.bare, J.base, J.hok, rfl, q⟩
  | brk => obtain ⟨_, _, _, q⟩ := hs; cases q
  | cont => obtain ⟨_, _, _, q⟩ := hs; cases q
end
section
variable {K : PySem.W.Frag} {x qual : Str} {params : Arguments} {body : List Stmt} {scope : Scope} {f : Addr} {fd : FuncData} {ps : List Str}
/-- f(e, .., k = v, ..), no defaults: n positional values, keywords named ks -/
theorem kbN (F : FunD K x qual params body scope [] [] f fd) (n : Nat) (ks : List Str) (g : {α : Type} → List α → List α → List α)
    (hrel : ∀ {vs zs : List V} {us ws : List Value}, Vals vs us → Vals zs ws → Vals (g vs zs) (g us ws))
    (h : ∀ (kV doc pm : Value) (an : Option Addr) (cdv ct : Value) (us ws : List Value), us.length = n → ws.length = ks.length → bindArgs (PySem.W.fnOf x qual params body scope .none kV doc pm an cdv ct) ⟨us, ks.zip ws⟩ = pure (ps.zip (g us ws))) :
    KBn K fd ps n ks (fun us ws => g us ws) (fun vs zs => g vs zs) := by
  obtain ⟨oc, od, dV, kV, doc, pm, an, cdv, ct, osl, rfl, lk, hcd, hD, hK⟩ := F.ex
  rcases hD with ⟨_, rfl⟩ | ⟨e, _⟩
  · exact ⟨fun s us ws X l1 l2 => BindsTo.of_looks fun M => .of_pure (h kV doc pm an cdv ct us ws l1 l2), fun r1 r2 => hrel r1 r2⟩
  · exact absurd rfl e
end
end KX
/-! the law's call and the walk, where no repr is under way and the tables of code objects are known (after LamX's, which speak of FnOk) -/
namespace KX
open PySem PySem.Spec PyProof.Rows L2 LamX
theorem lawcall_G {P : Program} {w : World} {K : PySem.W.Frag} {mg mb : Str → Option Value} {CX : CXT} {k : Nat} {fa a : Addr} {cs : List (Addr × Addr)} {fd : FuncData} {x : Str} {sp : Sp} {s₁ : Shared} {vs : List Value} {ns : List Int}
    (KX : K.In s₁.heap) (gl0 : s₁.heap.Ns mainGlobals mg) (hb : s₁.heap.Ns builtinsNs mb) (bb0 : ∀ x : Str, x ≠ "__name__" → mb x = bootBuiltins x) (li0 : s₁.heap.NoLimit) (ge0 : s₁.gens = #[])
    (ta0 : ∀ p ∈ cs, s₁.heap.get? p.2 = some { cls := .none, data := .fields #[] }) (nt0 : ∀ p ∈ cs, K.lookup p.2 = none) (C : ∀ p ∈ cs, PySem.W.CodeHd s₁.heap p.1 p.2)
    (bm0 : ∃ (bm : Addr) (ob : Obj), mg "__builtins__" = some (.ref bm) ∧ bm ≠ builtinsNs ∧ s₁.heap.get? bm = some ob ∧ ob.cls = .type "module" ∧ ob.dict = some builtinsNs ∧ ob.data = .plain)
    (ha : s₁.heap.get? a = some { cls := .type "list", data := .seq vs.toArray }) (hi : IntsAre vs ns) (hl : ns.length ≤ sizeLine) (hr : Room k callerA)
    (F : ∀ base : Heap, K.In base → base.Ns mainGlobals mg → (∀ p ∈ cs, TabB base mg p.1 p.2) → Gx.FnG P w K mg base CX k fa fd [x] sp) (bi0 : ∀ (s : Shared) (u : Value), BindsTo s fd ⟨[u], []⟩ [(x, u)])
    (sp0 : ∀ H : Hp, (∀ p ∈ cs, H p.2 = some (.tbl #[])) → SqL K H a (ns.map V.int) → sp [.ref a] H (fun v _ => v = .bl true) fun _ _ _ => False)
    (cx0 : ∀ H e s', CX [] H s₁ (fun _ _ _ => False) e s' → False) :
    codeAny (model P w) callerA (.call (.ref fa) ⟨[.ref a], []⟩) (fun r s' => r = .ok (.ret (.bool true)) ∧ OldK s₁.heap s'.heap ∧ s'.os = s₁.os ∧ AllBare s'.gens) s₁ := by
  have vv := vals_ints hi
  have len0 := hi.length
  have atT : ∀ b : Addr, b ∈ cs.map (·.2) → s₁.heap.get? b = some { cls := .none, data := .fields #[] } := fun b hb => by
    obtain ⟨p, hp, e⟩ := List.mem_map.mp hb
    rw [← e]
    exact ta0 p hp
  have offT : a ∉ cs.map (·.2) := fun z => by
    have q := atT a z
    rw [ha] at q
    have z' : Data.seq vs.toArray _ = Data.fields #[] := congrArg Obj.data (Option.some.inj q)
    cases z'
  have inT : ∀ p ∈ cs, p.2 ∈ cs.map (·.2) := fun p hp => List.mem_map.mpr ⟨p, hp, rfl⟩
  have main_ : ∀ H : Hp, (∀ p ∈ cs, H p.2 = some (.tbl #[])) → (∀ b, H b = none ∨ b ∈ cs.map (·.2) ∨ ∃ o xs, H b = some (.frz o (.lst xs))) → SqL K H a (ns.map V.int) → HOk P w H s₁.heap → (∀ b, H b ≠ none → b = a ∨ b ∈ cs.map (·.2)) → (H a ≠ none → K.lookup a = none) →
      codeAny (model P w) callerA (.call (.ref fa) ⟨[.ref a], []⟩) (fun r s' => r = .ok (.ret (.bool true)) ∧ OldK s₁.heap s'.heap ∧ s'.os = s₁.os ∧ AllBare s'.gens) s₁ := by
    intro H tb0 on0 sq0 ok0 al0 ko0
    have toBase : ∀ {b : Addr} {o : Obj}, s₁.heap.get? b = some o → H b = none → (hidT s₁.heap H).get? b = some o := fun e n => hidT_get e n
    have free0 : ∀ {b : Addr} {o : Obj}, s₁.heap.get? b = some o → (∀ vs n, o.data ≠ .seq vs n) → o.data ≠ .fields #[] → H b = none := fun {b o} e h1 h2 => by
      cases q : H b with
      | none => rfl
      | some u =>
        rcases al0 b (by rw [q]; simp) with e' | e'
        · rw [e', ha] at e
          cases e
          exact (h1 _ _ rfl).elim
        · rw [atT b e'] at e
          cases e
          exact (h2 rfl).elim
    have freeD : ∀ {b : Addr} {o : Obj} {es : Array DictEntry} {ep : Nat}, s₁.heap.get? b = some o → o.data = .dict es ep → H b = none := fun {b o es ep} e d => by
      refine free0 e (fun vs n z => ?_) fun z => ?_
      · rw [d] at z
        cases z
      · rw [d] at z
        cases z
    have nsB : ∀ {b : Addr} {m : Str → Option Value}, s₁.heap.Ns b m → (hidT s₁.heap H).Ns b m := fun {b m} ⟨o, es, ep, e, d, r⟩ => ⟨o, es, ep, toBase e (freeD e d), d, r⟩
    have kb0 : K.In (hidT s₁.heap H) := fun b o e => toBase (KX b o e) (by
      cases q : H b with
      | none => rfl
      | some u =>
        rcases al0 b (by rw [q]; simp) with e' | e'
        · rw [e'] at e q
          rw [ko0 (by rw [q]; simp)] at e
          cases e
        · obtain ⟨p, hp, ep⟩ := List.mem_map.mp e'
          rw [← ep, nt0 p hp] at e
          cases e)
    have md0 : L2.Mod K mg (hidT s₁.heap H) := ⟨kb0, nsB gl0, ⟨mb, nsB hb, bb0⟩, let ⟨mc, h1, h2⟩ := li0; ⟨mc, nsB h1, h2⟩⟩
    have tbs : ∀ p ∈ cs, TabB (hidT s₁.heap H) mg p.1 p.2 := fun p hp => by
      have tp0 := ta0 p hp
      refine ⟨?_, ?_, fun z => ?_⟩
      · obtain ⟨o, us, file, tf, flags, tg, inF, text, tt, e1, r1, r2, r3, r4, r5, r6, r7, r8, hne⟩ := C p hp
        refine ⟨o, us, file, tf, flags, tg, inF, text, tt, toBase e1 (free0 e1 (fun vs n z => ?_) fun z => ?_), r1, r2, r3, r4, r5, r6, r7, r8, hne⟩
        · rw [r2] at z
          cases z
        · rw [r2] at z
          cases z
          simp at r3
      · obtain ⟨bm, ob, b1, b2, b3, b4, b5, b6⟩ := bm0
        have ng0 : bm ≠ mainGlobals := fun q => by
          obtain ⟨o, es, ep, e, hd, _⟩ := gl0
          rw [q, e] at b3
          cases b3
          rw [hd] at b6
          cases b6
        have np0 : bm ≠ p.2 := fun q => by
          rw [q, tp0] at b3
          cases b3
          cases b6
        refine ⟨bm, ob, b1, b2, ng0, np0, toBase b3 (free0 b3 (fun vs n z => ?_) fun z => ?_), b4, b5, b6⟩
        · rw [b6] at z
          cases z
        · rw [b6] at z
          cases z
      · obtain ⟨o, es, ep, e, hd, _⟩ := gl0
        rw [z, tp0] at e
        cases e
        cases hd
    have en0 : Env0 P w K mg (hidT s₁.heap H) callerA [] s₁ H := ⟨rfl, md0, fun b o e => of_hidT e, Nat.le_of_eq (hidT_size _ _), trivial, fun b hb => absurd (show b ∈ ([] : List Addr) from hb) (by simp), ok0, .of_eq ge0⟩
    refine codeAny_mono ((F _ kb0 (nsB gl0) tbs).run callerA [] s₁ H ⟨[.ref a], []⟩ [.ref a] [.ref a] _ _ rfl hr en0 (bi0 s₁ (.ref a)) (.cons rfl .nil) (sp0 H tb0 sq0)) fun r s' h => ?_
    cases r with
    | error e => exact (cx0 H e s' h).elim
    | ok fl =>
      cases fl with
      | next => exact False.elim h
      | brk => exact False.elim h
      | cont => exact False.elim h
      | ret u =>
        obtain ⟨v, H', os, bare, un, hok', r', q⟩ := h
        have q' : v = .bl true := q
        subst q'
        obtain rfl : u = Value.bool true := r'
        have same0 : ∀ b o, b ∉ cs.map (·.2) → s₁.heap.get? b = some o → s'.heap.get? b = some o := fun b o nb e => by
          cases q : H b with
          | none => exact un.keep b o e q (by intro z; exact absurd (show b ∈ ([] : List Addr) from z) (by simp)) (by simp)
          | some u =>
            rcases on0 b with z | z | ⟨ob, xs, z⟩
            · rw [q] at z; cases z
            · exact absurd z nb
            · have z2 := un.frzs b ob _ z
              obtain ⟨e1, _⟩ := ok0 b _ z
              obtain ⟨e2, _⟩ := hok' b _ z2
              rw [e] at e1; cases e1
              exact e2
        have more0 : ∀ p ∈ cs, ∃ more : Array Value, s'.heap.get? p.2 = some { cls := .none, data := .fields more } := fun p hp => by
          obtain ⟨more, z⟩ := un.tbls p.2 #[] (tb0 p hp)
          exact ⟨_, hok' p.2 _ z⟩
        refine ⟨rfl, ⟨fun b o e => ?_, fun b o e => ?_⟩, os, bare⟩
        · by_cases hb : b ∈ cs.map (·.2)
          · obtain ⟨p, hp, ep⟩ := List.mem_map.mp hb
            obtain ⟨more, hm⟩ := more0 p hp
            rw [← ep] at e ⊢
            rw [ta0 p hp] at e
            cases e
            exact .inr (.inl ⟨((C p hp).tab (ta0 p hp)).isCodeTable, rfl, #[], more, rfl, by rw [Array.empty_append]; exact hm⟩)
          · exact .inl (same0 b o hb e)
        · by_cases hb : b ∈ cs.map (·.2)
          · obtain ⟨p, hp, ep⟩ := List.mem_map.mp hb
            obtain ⟨more, hm⟩ := more0 p hp
            rw [← ep]
            exact ⟨_, hm⟩
          · exact ⟨o, same0 b o hb e⟩
  cases hk : K.lookup a with
  | some o =>
    have e := KX a o hk
    rw [ha] at e
    cases e
    refine main_ (fun b => if b ∈ cs.map (·.2) then some (.tbl #[]) else none) (fun p hp => if_pos (inT p hp)) (fun b => ?_) (.inr ⟨_, vs.toArray, _, hk, rfl, rfl, rfl, by rw [List.size_toArray, len0]; exact hl, by simpa using vv⟩) (fun b u z => ?_) (fun b z => ?_) fun z => absurd (show (if a ∈ cs.map (·.2) then some (HO.tbl #[]) else none) = none from if_neg offT) z
    · by_cases hb : b ∈ cs.map (·.2)
      · exact .inr (.inl hb)
      · exact .inl (if_neg hb)
    · by_cases hb : b ∈ cs.map (·.2)
      · have z' := (if_pos hb).symm.trans z
        cases z'
        exact atT b hb
      · have z' := (if_neg hb).symm.trans z
        cases z'
    · by_cases hb : b ∈ cs.map (·.2)
      · exact .inr hb
      · exact absurd (if_neg hb) z
  | none =>
    refine main_ (fun b => if b = a then some (.frz { cls := .type "list", data := .seq vs.toArray } (.lst (ns.map V.int))) else if b ∈ cs.map (·.2) then some (.tbl #[]) else none) (fun p hp => (if_neg (show ¬ p.2 = a from fun z => offT (by rw [← z]; exact inT p hp))).trans (if_pos (inT p hp))) (fun b => ?_)
      (.inl (.inr ⟨{ cls := .type "list", data := .seq vs.toArray }, if_pos rfl⟩)) (fun b u z => ?_) (fun b z => ?_) fun _ => hk
    · by_cases hb : b = a
      · exact .inr (.inr ⟨_, _, if_pos hb⟩)
      · by_cases hb2 : b ∈ cs.map (·.2)
        · exact .inr (.inl hb2)
        · exact .inl ((if_neg hb).trans (if_neg hb2))
    · by_cases hb : b = a
      · have z' := (if_pos hb).symm.trans z
        cases z'
        rw [hb]
        exact ⟨ha, by rw [List.length_map]; exact hl, vs, _, vv, ha⟩
      · have z1 := (if_neg hb).symm.trans z
        by_cases hb2 : b ∈ cs.map (·.2)
        · have z' := (if_pos hb2).symm.trans z1
          cases z'
          exact atT b hb2
        · have z' := (if_neg hb2).symm.trans z1
          cases z'
    · by_cases hb : b = a
      · exact .inl hb
      · by_cases hb2 : b ∈ cs.map (·.2)
        · exact .inr hb2
        · exact absurd ((if_neg hb).trans (if_neg hb2)) z
def LawAtG (l : PySem.W.OpenLaw) (w : World) (K : PySem.W.Frag) (CX : CXT) (k n : Nat) (x : Str) (mg : Str → Option Value) (fa : Addr) (h : Heap) : Prop :=
  ∃ (fd : FuncData) (cs : List (Addr × Addr)) (sp : Sp), (∀ p ∈ cs, h.get? p.2 = some { cls := .none, data := .fields #[] }) ∧ (∀ p ∈ cs, K.lookup p.2 = none) ∧ (∀ p ∈ cs, PySem.W.CodeHd h p.1 p.2) ∧ (∀ (s : Shared) (u : Value), BindsTo s fd ⟨[u], []⟩ [(x, u)]) ∧
    (∀ (H : Hp) (a : Addr) (ns : List Int), ns.length ≤ n → (∀ z ∈ ns, Builtin.Int.intBits z ≤ 1048576) → (∀ p ∈ cs, H p.2 = some (.tbl #[])) → SqL K H a (ns.map V.int) → sp [.ref a] H (fun v _ => v = .bl true) fun _ _ _ => False) ∧
    ∀ base : Heap, K.In base → base.Ns mainGlobals mg → (∀ p ∈ cs, TabB base mg p.1 p.2) → Gx.FnG l.prog w K mg base CX k fa fd [x] sp
theorem walk_tG {l : PySem.W.OpenLaw} {n k : Nat} {q : Program} {loose : List Str} {XP : (Str → Option Value) → Heap → Prop} {YP : World → Heap → Prop} {d : DefRec} {CX : World → CXT} {x : Str}
    (ln1 : l.most = some n) (ln2 : n ≤ sizeLine) (df0 : d.params.defaults = []) (hr : Room k callerA)
    (F : ∀ (w : World) (mg : Str → Option Value) (fa : Addr) (h : Heap), YP w h → h.Ns mainGlobals mg → mg d.name = some (.ref fa) → ∃ K : PySem.W.Frag, K.In h ∧ LawAtG l w K (CX w) k n x mg fa h)
    (cx0 : ∀ (w : World) (H : Hp) (s : Shared) (e : Value) (s' : Shared), CX w [] H s (fun _ _ _ => False) e s' → False) :
    PySem.W.WalkO q loose XP YP l.row.toRowW d [] (fun f vs => PySem.call f vs) := by
  refine Att.attach_callB ln1 df0 fun w s₀ s₁ mg mb fa o pm cd doc a vs ns G Y ho hd hcd hmg hobj hints hlen hbits ge0 => ?_
  obtain ⟨K, KX, fd, cs, sp, ta0, nt0, C, hb, sp0, hF⟩ := F w mg fa _ Y G.T.g hmg
  exact lawcall_G KX G.T.g G.T.b G.T.builtins G.T.nolimit ge0 ta0 nt0 C G.T.bmain hobj hints (Nat.le_trans hlen ln2) hr hF hb (fun H tb0 sq0 => sp0 H a ns hlen hbits tb0 sq0) fun H e s' => cx0 w H s₁ e s'
end KX
namespace Hx
open PySem PySem.Spec PyProof.Rows L2
/-- where the getter of a property of a class stands -/
def getA (K : PySem.W.Frag) (C : Addr) (f : Str) : Addr :=
  match PySem.W.recIn K (He.ma K C f) "property" with
  | some (.ref g :: _) => g
  | _ => 0
def propB (K : PySem.W.Frag) (x f : Str) : Bool :=
  let p := He.ma K (He.ga K x) f
  He.eqO (PySem.W.findIn K (.ref (He.ga K x)) f) (some (some (.ref p))) &&
  (He.eqO (PySem.W.specialIn K (.ref p) "__get__") (some (some (.builtin "property.__get__"))) &&
  (decide (PySem.W.takesIn K (.ref p) = some true) &&
  (match PySem.W.recIn K p "property" with
    | some (.ref _ :: _) => true
    | _ => false)))
theorem propB_ok {K : PySem.W.Frag} {x f : Str} (h : propB K x f = true) : PropOf K (He.ga K x) f (He.ma K (He.ga K x) f) (getA K (He.ga K x) f) := by
  obtain ⟨h1, h2⟩ := He.ba h
  obtain ⟨h3, h4⟩ := He.ba h2
  obtain ⟨h5, h6⟩ := He.ba h4
  refine ⟨He.eqO_ok h1, He.eqO_ok h3, of_decide_eq_true h5, ?_⟩
  unfold getA
  split at h6
  · rename_i g r e
    rw [e]
    exact ⟨r, rfl⟩
  · cases h6
/-- what isinstance and != ask of a class of the text -/
def clsB (K : PySem.W.Frag) (x : Str) : Bool :=
  He.eqO (PySem.W.findIn K (.ref (He.ga K x)) "__class__") (some (some (.builtin "object.__class__"))) &&
  (He.eqO (PySem.W.specialIn K (.builtin "object.__class__") "__get__") (some (some (.builtin "getset_descriptor.__get__"))) &&
  (decide (PySem.W.takesIn K (.builtin "object.__class__") = some true) &&
  (decide (PySem.W.mroIn K (He.ga K x) (.type "object") = some true) &&
  He.eqO (PySem.W.findIn K (.ref (He.ga K x)) "__ne__") (some (some (.builtin "object.__ne__"))))))
structure ClsI (K : PySem.W.Frag) (C : Addr) : Prop where
  ca : PySem.W.findIn K (.ref C) "__class__" = some (some (.builtin "object.__class__"))
  cn : PySem.W.specialIn K (.builtin "object.__class__") "__get__" = some (some (.builtin "getset_descriptor.__get__"))
  ct : PySem.W.takesIn K (.builtin "object.__class__") = some true
  cm : PySem.W.mroIn K C (.type "object") = some true
  ne : PySem.W.findIn K (.ref C) "__ne__" = some (some (.builtin "object.__ne__"))
theorem clsB_ok {K : PySem.W.Frag} {x : Str} (h : clsB K x = true) : ClsI K (He.ga K x) := by
  obtain ⟨h1, h⟩ := He.ba h
  obtain ⟨h2, h⟩ := He.ba h
  obtain ⟨h3, h⟩ := He.ba h
  obtain ⟨h4, h5⟩ := He.ba h
  exact ⟨He.eqO_ok h1, He.eqO_ok h2, of_decide_eq_true h3, of_decide_eq_true h4, He.eqO_ok h5⟩
/-- a def of the text: where it stands, what it is -/
structure Dx where
  adr : PySem.W.Frag → Addr
  nm : Str
  ql : Str
  st : Stmt
  dfl : List He.Dv := []
  kwd : List (Str × He.Dv) := []
abbrev Vx : Type := Option (Str × Str × Arguments × FuncBody × Scope × Addr × List (Str × Addr) × Addr)
def seen (K : PySem.W.Frag) (a : Addr) : Vx :=
  match K.lookup a with
  | some ⟨_, _, .func d, _⟩ => some (d.name, d.qualname, d.params, d.body, d.scope, d.globals, d.closure, d.builtins)
  | _ => none
def Dx.due (d : Dx) : Vx := some (d.nm, d.ql, defArgs d.st, .stmts (defBody d.st), defScope d.st, mainGlobals, [], builtinsNs)
def Dx.ok (K : PySem.W.Frag) (d : Dx) : Bool :=
  PySem.W.keepIn K (.ref (d.adr K)) &&
  (match K.lookup (d.adr K) with
    | some ⟨_, _, .func y, _⟩ => PySem.W.codeIn K y.code d.ql && (He.dflB K y.defaults (d.dfl.map (He.Dv.v K)) && He.kwdB K y.kwdefaults (d.kwd.map fun q => (q.1, q.2.v K)))
    | _ => false)
/-- a def as it stands behind the top -/
abbrev Fd (K : PySem.W.Frag) (d : Dx) (fd : FuncData) : Prop := FunD K d.nm d.ql (defArgs d.st) (defBody d.st) (defScope d.st) (d.dfl.map (He.Dv.v K)) (d.kwd.map fun q => (q.1, q.2.v K)) (d.adr K) fd
theorem Dx.fun_ {K : PySem.W.Frag} {d : Dx} (e : seen K (d.adr K) = d.due) (c : d.ok K = true) : ∃ fd, Fd K d fd := by
  obtain ⟨kp, c2⟩ := He.ba c
  unfold seen at e
  cases q : K.lookup (d.adr K) with
  | none => rw [q] at c2; cases c2
  | some o =>
    obtain ⟨oc, od, dt, osl⟩ := o
    rw [q] at c2 e
    cases dt with
    | func fd =>
      obtain ⟨n1, n2, n3, n4, n5, n6, n7, n8, n9, n10, n11, n12, n13, n14, n15⟩ := fd
      have z : (some (n1, n2, n3, n4, n5, n6, n7, n15) : Vx) = d.due := e
      unfold Dx.due at z
      simp only [Option.some.injEq, Prod.mk.injEq] at z
      obtain ⟨z1, z2, z3, z4, z5, z6, z7, z8⟩ := z
      subst z1 z2 z3 z4 z5 z6 z7 z8
      obtain ⟨k1, k2⟩ := He.ba (show (PySem.W.codeIn K n13 d.ql && (He.dflB K n8 (d.dfl.map (He.Dv.v K)) && He.kwdB K n9 (d.kwd.map fun q => (q.1, q.2.v K)))) = true from c2)
      obtain ⟨k3, k4⟩ := He.ba k2
      exact ⟨_, ⟨oc, od, n8, n9, n10, n11, n12, n13, n14, osl, rfl, q, k1, He.dflB_ok k3, He.kwdB_ok k4⟩, kp⟩
    | _ => cases c2
/-- the getter of a classmethod of a class -/
def getC (K : PySem.W.Frag) (C : Addr) (f : Str) : Addr :=
  match PySem.W.recIn K (He.ma K C f) "classmethod" with
  | some (.ref g :: _) => g
  | _ => 0
/-- a class's attributes are read in the usual way -/
def creadB (K : PySem.W.Frag) (x : Str) : Bool :=
  PySem.W.readsIn K (He.ga K x) (.type "type") && He.eqO (PySem.W.specialIn K (.ref (He.ga K x)) "__getattribute__") (some (some (.builtin "type.__getattribute__")))
def cmetB (K : PySem.W.Frag) (x f : Str) : Bool :=
  let p := He.ma K (He.ga K x) f
  (match PySem.W.findCls K (.ref (He.ga K x)) (.type "type") f with
    | some (.get (.builtin i) (.ref q) .none (.ref c)) => decide (i = "classmethod.__get__") && (decide (q = p) && decide (c = He.ga K x))
    | _ => false) &&
  ((match PySem.W.recIn K p "classmethod" with
    | some (.ref _ :: _) => true
    | _ => false) && PySem.W.fnIn K (getC K (He.ga K x) f))
theorem cread_ok {K : PySem.W.Frag} {x : Str} (h : creadB K x = true) : ClX.CRead K (He.ga K x) (.type "type") := ⟨(He.ba h).1, He.eqO_ok (He.ba h).2⟩
theorem cmet_ok {K : PySem.W.Frag} {x f : Str} (h : cmetB K x f = true) : ClX.CMet K (He.ga K x) (.type "type") f (He.ma K (He.ga K x) f) (getC K (He.ga K x) f) := by
  obtain ⟨h1, h2⟩ := He.ba h
  obtain ⟨h3, h4⟩ := He.ba h2
  refine ⟨?_, ?_, h4⟩
  · split at h1
    · rename_i i q c e
      obtain ⟨a1, a2⟩ := He.ba h1
      obtain ⟨a3, a4⟩ := He.ba a2
      rw [e, of_decide_eq_true a1, of_decide_eq_true a3, of_decide_eq_true a4]
    · cases h1
  · unfold getC
    split at h3
    · rename_i g r e
      rw [e]
      exact ⟨r, rfl⟩
    · cases h3
/-- a class's constant is a tuple of these -/
def ctupB (K : PySem.W.Frag) (x f : Str) (vs : List He.Dv) : Bool :=
  (match PySem.W.findCls K (.ref (He.ga K x)) (.type "type") f with
    | some (.val (.ref q)) => decide (q = He.ma K (He.ga K x) f)
    | _ => false) &&
  (match K.lookup (He.ma K (He.ga K x) f) with
    | some ⟨.type c, _, .seq its _, _⟩ => decide (c = "tuple") && (decide (its.size ≤ sizeLine) && He.relAll (vs.map (He.Dv.v K)) its.toList)
    | _ => false)
theorem ctup_ok {K : PySem.W.Frag} {x f : Str} {vs : List He.Dv} (h : ctupB K x f vs = true) :
    ClX.CVal K (He.ga K x) (.type "type") f (.ref (He.ma K (He.ga K x) f)) (.ref (He.ma K (He.ga K x) f)) ∧ ∀ H, SqT K H (He.ma K (He.ga K x) f) (vs.map (He.Dv.v K)) := by
  obtain ⟨h1, h2⟩ := He.ba h
  refine ⟨⟨?_, rfl⟩, fun H => ?_⟩
  · split at h1
    · rename_i q e
      rw [e, of_decide_eq_true h1]
    · cases h1
  · split at h2
    · rename_i c dd its n sl e
      obtain ⟨a1, a2⟩ := He.ba h2
      obtain ⟨a3, a4⟩ := He.ba a2
      exact .inr ⟨_, its, n, e, congrArg Value.type (of_decide_eq_true a1), rfl, of_decide_eq_true a3, He.relAll_ok a4⟩
    · cases h2
/-- what is looked at behind the top -/
abbrev Look : Type := Bool × List Vx
def looks (fa : List (PySem.W.Frag → Bool)) (fn : List Dx) (K : PySem.W.Frag) : Look :=
  ((fa.all fun f => f K) && fn.all fun d => d.ok K, fn.map fun d => seen K (d.adr K))
def good (fn : List Dx) : Look := (true, fn.map Dx.due)
/-- the addresses among these that are not yet among the seen ones -/
def newO (bs : List Addr) (acc : List Addr × Nat) : List Addr × Nat :=
  bs.foldl (fun r b => bif Nat.testBit r.2 b then r else (b :: r.1, Nat.lor r.2 (Nat.shiftLeft 1 b))) acc
def lvlX (g : Addr → Option Obj) (fr : List Addr) (seen : Nat) : List Addr × Nat :=
  fr.foldl (fun r a => match g a with
    | some o => newO (He.refsD o) r
    | none => r) ([], seen)
def asX (g : Addr → Option Obj) : Nat → List Addr → List Addr → Nat → List Addr
  | 0, all, _, _ => all
  | n + 1, all, fr, seen => match lvlX g fr seen with
    | (new, seen2) => asX g n (all ++ new) new seen2
def lookG (n : Nat) (fa : List (PySem.W.Frag → Bool)) (fn : List Dx) (g : Addr → Option Obj) : Look := looks fa fn (He.frG g (cStatics :: asX g n [mainGlobals] [mainGlobals] (Nat.shiftLeft 1 mainGlobals)))
def hook (n : Nat) (fa : List (PySem.W.Frag → Bool)) (fn : List Dx) : PySem.W.Hook where
  α := Look
  obs := fun s => lookG n fa fn s.heap.get?
  val := fun _ => good fn
  says := fun _ h => ∃ K : PySem.W.Frag, K.In h ∧ looks fa fn K = good fn
  of := fun _ _ e => ⟨_, He.frG_in, e⟩
  keeps := fun _ _ _ ⟨K, kin, c⟩ k => ⟨K, PySem.W.Frag.In.keeps kin k, c⟩
theorem fact {fa : List (PySem.W.Frag → Bool)} {fn : List Dx} {K : PySem.W.Frag} (c : looks fa fn K = good fn) (i : Nat) {f : PySem.W.Frag → Bool} (h : fa[i]? = some f := by rfl) : f K = true := by
  have c1 := (He.ba (show ((fa.all fun f => f K) && fn.all fun d => d.ok K) = true from congrArg Prod.fst c)).1
  exact List.all_eq_true.mp c1 f (List.mem_of_getElem? h)
theorem defn {fa : List (PySem.W.Frag → Bool)} {fn : List Dx} {K : PySem.W.Frag} (c : looks fa fn K = good fn) (i : Nat) {d : Dx} (h : fn[i]? = some d := by rfl) : ∃ fd, Fd K d fd := by
  have c2 := (He.ba (show ((fa.all fun f => f K) && fn.all fun d => d.ok K) = true from congrArg Prod.fst c)).2
  have e : fn.map (fun d => seen K (d.adr K)) = fn.map Dx.due := congrArg Prod.snd c
  have e2 : (fn.map fun d => seen K (d.adr K))[i]? = (fn.map Dx.due)[i]? := by rw [e]
  rw [List.getElem?_map, List.getElem?_map, h] at e2
  exact Dx.fun_ (Option.some.inj e2) (List.all_eq_true.mp c2 d (List.mem_of_getElem? h))
end Hx
namespace Hx
open PySem PySem.Spec PyProof.Rows L2
/-- an own error class over ValueError: its object is of the usual form -/
def excB (K : PySem.W.Frag) (C : Addr) : Bool := match K.lookup C with
  | some ⟨.type "type", _, .cls cd, sl⟩ => (match cd.mro, sl.toList with
    | .ref c :: bm, [_, _, _, _, some (.builtin n), _] => decide (c = C) && (decide (n = "ValueError.__new__") && ((!cd.hasDel) && (cd.hasDict && PySem.HandSPX.refsVE bm)))
    | _, _ => false)
  | _ => false
theorem excB_ok {K : PySem.W.Frag} {C : Addr} (h : excB K C = true) :
    ∃ nm q N bs bm sn sub ab col dd k0 k1 k2 k3 k5, K.lookup C = some (excClassObj nm q C N bs bm true sn sub ab col dd k0 k1 k2 k3 k5 "ValueError.__new__") ∧ PySem.HandSPX.refsVE bm = true := by
  unfold excB at h
  split at h
  · rename_i dd cd sl look
    split at h
    · rename_i c bm k0 k1 k2 k3 n k5 em es
      obtain ⟨e1, h⟩ := He.ba h
      obtain ⟨e2, h⟩ := He.ba h
      obtain ⟨e3, h⟩ := He.ba h
      obtain ⟨e4, e5⟩ := He.ba h
      obtain ⟨nm, bs, mro, ns, qn, hd, sn, sub, ab, col, dl⟩ := cd
      obtain ⟨l⟩ := sl
      cases (show c = C from of_decide_eq_true e1)
      cases (show n = _ from of_decide_eq_true e2)
      cases (show mro = _ from em)
      cases (show l = _ from es)
      cases (show hd = true from e4)
      cases dl with
      | true => cases e3
      | false => exact ⟨nm, qn, ns, bs, bm, sn, sub, ab, col, dd, k0, k1, k2, k3, k5, look, e5⟩
    · cases h
  · cases h
/-- all that is asked of an own error class: made, its fields read, isinstance -/
structure Er (K : PySem.W.Frag) (C : Addr) : Prop where
  o : OexC K C
  c : ExcC K C
  f : XfC K C
def erB (K : PySem.W.Frag) (C : Addr) : Bool :=
  excB K C && (He.eqO (PySem.W.findIn K (.ref C) "__setattr__") (some (some (.builtin "object.__setattr__"))) && (decide (PySem.W.subIn K (.ref C) (.type "BaseException") = some true) && (decide (PySem.W.typeIn K (.ref C) = some (.type "type")) && (PySem.W.keepIn K (.ref C) &&
  (xfB K C && (He.eqO (PySem.W.findIn K (.ref C) "__class__") (some (some (.builtin "object.__class__"))) && (He.eqO (PySem.W.specialIn K (.builtin "object.__class__") "__get__") (some (some (.builtin "getset_descriptor.__get__"))) &&
  (decide (PySem.W.takesIn K (.builtin "object.__class__") = some true) && decide (PySem.W.mroIn K C (.type "object") = some true)))))))))
theorem erB_ok {K : PySem.W.Frag} {C : Addr} (h : erB K C = true) : Er K C := by
  obtain ⟨h1, h⟩ := He.ba h
  obtain ⟨h2, h⟩ := He.ba h
  obtain ⟨h3, h⟩ := He.ba h
  obtain ⟨h4, h⟩ := He.ba h
  obtain ⟨h5, h⟩ := He.ba h
  obtain ⟨h6, h⟩ := He.ba h
  obtain ⟨h7, h⟩ := He.ba h
  obtain ⟨h8, h⟩ := He.ba h
  obtain ⟨h9, h10⟩ := He.ba h
  have x := xfB_ok h6
  exact ⟨⟨excB_ok h1, He.eqO_ok h2, of_decide_eq_true h3, of_decide_eq_true h4, h5⟩,
    ⟨x.ga, x.gg, x.exC, x.hdC, He.eqO_ok h7, He.eqO_ok h8, of_decide_eq_true h9, of_decide_eq_true h10⟩, x⟩
/-- its __init__ is a function -/
def iniB (K : PySem.W.Frag) (C : Addr) : Bool :=
  He.eqO (PySem.W.findIn K (.ref C) "__init__") (some (some (.ref (He.ma K C "__init__")))) && decide (PySem.W.typeIn K (.ref (He.ma K C "__init__")) = some (.type "function"))
theorem iniB_ok {K : PySem.W.Frag} {C : Addr} (h : iniB K C = true) : PySem.W.findIn K (.ref C) "__init__" = some (some (.ref (He.ma K C "__init__"))) ∧ PySem.W.typeIn K (.ref (He.ma K C "__init__")) = some (.type "function") :=
  ⟨He.eqO_ok (He.ba h).1, of_decide_eq_true (He.ba h).2⟩
/-! the head's hook with the tables of the defs' code objects -/
abbrev LookT : Type := Look × Bool
def frX (n : Nat) (g : Addr → Option Obj) : PySem.W.Frag := He.frT g (cStatics :: asX g n [mainGlobals] [mainGlobals] (Nat.shiftLeft 1 mainGlobals))
def lookT (n : Nat) (fa : List (PySem.W.Frag → Bool)) (fn : List Dx) (tf : List He.Defn) (g : Addr → Option Obj) : LookT :=
  (looks fa fn (frX n g), He.tabsB g tf (frX n g))
/-- each of these defs' code object, and its table: empty, out of K -/
def TabsAt (K : PySem.W.Frag) (tf : List He.Defn) (h : Heap) : Prop := ∀ p ∈ tf, PySem.W.codeHdIn K (He.cT K p).1 (He.cT K p).2 = true ∧ K.lookup (He.cT K p).2 = none ∧ h.get? (He.cT K p).2 = some { cls := .none, data := .fields #[] }
theorem tabs_of {n : Nat} {tf : List He.Defn} {h : Heap} (e : He.tabsB h.get? tf (frX n h.get?) = true) : TabsAt (frX n h.get?) tf h := fun p hp => by
  obtain ⟨h3, h4⟩ := He.ba (List.all_eq_true.mp e p hp)
  cases q : h.get? (He.cT (frX n h.get?) p).2 with
  | none => rw [q] at h4; cases h4
  | some o =>
    rw [q] at h4
    have h4 : He.emptyTab o = true := h4
    exact ⟨h3, He.frT_none q h4, congrArg some (He.emptyTab_eq h4)⟩
def hookT (n : Nat) (fa : List (PySem.W.Frag → Bool)) (fn : List Dx) (tf : List He.Defn) : PySem.W.Hook where
  α := LookT
  obs := fun s => lookT n fa fn tf s.heap.get?
  val := fun _ => (good fn, true)
  says := fun _ h => ∃ K : PySem.W.Frag, K.In h ∧ looks fa fn K = good fn ∧ TabsAt K tf h
  of := fun _ _ e => ⟨_, He.frT_in, congrArg Prod.fst e, tabs_of (congrArg Prod.snd e)⟩
  keeps := fun _ _ _ ⟨K, kin, c, t⟩ k => ⟨K, PySem.W.Frag.In.keeps kin k, c, fun p hp => ⟨(t p hp).1, (t p hp).2.1, k _ _ (t p hp).2.2⟩⟩
end Hx
namespace K06
open PySem PySem.Spec PyProof.Rows L2 Hx
def top (i : Nat) : Stmt := PySem.Challenge.pw_signtown_k06_streets_refused.main.body.getD i (.Pass ⟨0, 0, 0, 0⟩)
abbrev s_is_name : Stmt := top 13
abbrev s_is_integer : Stmt := top 14
abbrev s_is_price : Stmt := top 15
abbrev s_check_street : Stmt := top 21
abbrev s_check_prices : Stmt := top 22
abbrev s__law_pen : Stmt := top 35
abbrev s__law_draw : Stmt := top 36
abbrev s__law_pick : Stmt := top 37
abbrev s__law_is_word : Stmt := top 38
abbrev s__law_is_pay : Stmt := top 39
abbrev s__law_due : Stmt := top 40
abbrev s__law_heard : Stmt := top 41
abbrev s__law_odd_word : Stmt := top 42
abbrev s__law_odd_pay : Stmt := top 43
abbrev s__law_drawn : Stmt := top 44
abbrev s__law_right : Stmt := top 45
abbrev s_law : Stmt := top 46
abbrev s_Lane_init : Stmt := inClass (top 31) 1
abbrev s_Avenue_init : Stmt := inClass (top 32) 1
abbrev s_Road_init : Stmt := inClass (top 33) 1
abbrev s_BadStreet_init : Stmt := inClass (top 6) 0
abbrev s_BadPrice_init : Stmt := inClass (top 5) 0
def dxs : List Hx.Dx := [
  ⟨fun K => He.ga K "is_name", "is_name", "is_name", s_is_name, [], []⟩,
  ⟨fun K => He.ga K "is_integer", "is_integer", "is_integer", s_is_integer, [], []⟩,
  ⟨fun K => He.ga K "is_price", "is_price", "is_price", s_is_price, [], []⟩,
  ⟨fun K => He.ga K "check_street", "check_street", "check_street", s_check_street, [], []⟩,
  ⟨fun K => He.ga K "check_prices", "check_prices", "check_prices", s_check_prices, [], []⟩,
  ⟨fun K => He.ga K "_law_pen", "_law_pen", "_law_pen", s__law_pen, [], []⟩,
  ⟨fun K => He.ga K "_law_draw", "_law_draw", "_law_draw", s__law_draw, [], []⟩,
  ⟨fun K => He.ga K "_law_pick", "_law_pick", "_law_pick", s__law_pick, [], []⟩,
  ⟨fun K => He.ga K "_law_is_word", "_law_is_word", "_law_is_word", s__law_is_word, [], []⟩,
  ⟨fun K => He.ga K "_law_is_pay", "_law_is_pay", "_law_is_pay", s__law_is_pay, [], []⟩,
  ⟨fun K => He.ga K "_law_due", "_law_due", "_law_due", s__law_due, [], []⟩,
  ⟨fun K => He.ga K "_law_heard", "_law_heard", "_law_heard", s__law_heard, [], []⟩,
  ⟨fun K => He.ga K "_law_odd_word", "_law_odd_word", "_law_odd_word", s__law_odd_word, [], []⟩,
  ⟨fun K => He.ga K "_law_odd_pay", "_law_odd_pay", "_law_odd_pay", s__law_odd_pay, [], []⟩,
  ⟨fun K => He.ga K "_law_drawn", "_law_drawn", "_law_drawn", s__law_drawn, [], []⟩,
  ⟨fun K => He.ga K "_law_right", "_law_right", "_law_right", s__law_right, [], []⟩,
  ⟨fun K => He.ga K "law", "law", "law", s_law, [], []⟩,
  ⟨fun K => He.ma K (He.ga K "Lane") "__init__", "__init__", "Lane.__init__", s_Lane_init, [], []⟩,
  ⟨fun K => He.ma K (He.ga K "Avenue") "__init__", "__init__", "Avenue.__init__", s_Avenue_init, [], []⟩,
  ⟨fun K => He.ma K (He.ga K "Road") "__init__", "__init__", "Road.__init__", s_Road_init, [.int (0), .int (0)], []⟩,
  ⟨fun K => He.ma K (He.ga K "BadStreet") "__init__", "__init__", "BadStreet.__init__", s_BadStreet_init, [], []⟩,
  ⟨fun K => He.ma K (He.ga K "BadPrice") "__init__", "__init__", "BadPrice.__init__", s_BadPrice_init, [], []⟩]
def fas : List (PySem.W.Frag → Bool) := [
  (He.Fa.glo "is_name").ok,
  (He.Fa.glo "is_integer").ok,
  (He.Fa.glo "is_price").ok,
  (He.Fa.glo "check_street").ok,
  (He.Fa.glo "check_prices").ok,
  (He.Fa.glo "_law_pen").ok,
  (He.Fa.glo "_law_draw").ok,
  (He.Fa.glo "_law_pick").ok,
  (He.Fa.glo "_law_is_word").ok,
  (He.Fa.glo "_law_is_pay").ok,
  (He.Fa.glo "_law_due").ok,
  (He.Fa.glo "_law_heard").ok,
  (He.Fa.glo "_law_odd_word").ok,
  (He.Fa.glo "_law_odd_pay").ok,
  (He.Fa.glo "_law_drawn").ok,
  (He.Fa.glo "_law_right").ok,
  (He.Fa.glo "law").ok,
  (He.Fa.glo "Lane").ok,
  (He.Fa.glo "Avenue").ok,
  (He.Fa.glo "Road").ok,
  (He.Fa.glo "BadStreet").ok,
  (He.Fa.glo "BadPrice").ok,
  (He.Fa.glo "BadInput").ok,
  (He.Fa.glo "TownError").ok,
  (He.Fa.free "isinstance").ok,
  (He.Fa.free "str").ok,
  (He.Fa.free "int").ok,
  (He.Fa.free "bool").ok,
  (He.Fa.free "len").ok,
  (He.Fa.free "all").ok,
  (He.Fa.free "list").ok,
  (He.Fa.free "range").ok,
  (He.Fa.free "repr").ok,
  (He.Fa.free "abs").ok,
  (He.Fa.int "NAME_LENGTH" (8)).ok,
  (He.Fa.int "GREATEST_PRICE" (999999999999)).ok,
  (He.Fa.str "LETTERS" "abcdefghijklmnopqrstuvwxyz").ok,
  (He.Fa.cls "Lane").ok,
  (He.Fa.cls "Avenue").ok,
  (He.Fa.cls "Road").ok,
  (He.Fa.noat "Lane" "name").ok,
  (He.Fa.noat "Lane" "start").ok,
  (He.Fa.noat "Lane" "goal").ok,
  (He.Fa.noat "Avenue" "name").ok,
  (He.Fa.noat "Avenue" "one").ok,
  (He.Fa.noat "Avenue" "other").ok,
  (He.Fa.noat "Road" "name").ok,
  (He.Fa.noat "Road" "one").ok,
  (He.Fa.noat "Road" "other").ok,
  (He.Fa.noat "Road" "there").ok,
  (He.Fa.noat "Road" "back").ok,
  (He.Fa.mkr "Lane").ok,
  (He.Fa.mkr "Avenue").ok,
  (He.Fa.mkr "Road").ok,
  (fun K => Hx.clsB K "Lane"),
  (fun K => Hx.clsB K "Avenue"),
  (fun K => Hx.clsB K "Road"),
  (fun K => Hx.erB K (He.ga K "BadStreet")),
  (fun K => Hx.erB K (He.ga K "BadPrice")),
  (He.Fa.noat "BadStreet" "part").ok,
  (He.Fa.noat "BadPrice" "value").ok,
  (fun K => decide (PySem.W.exmOne K (.ref (He.ga K "BadStreet")) (.ref (He.ga K "TownError")) = some true)),
  (fun K => decide (PySem.W.exmOne K (.ref (He.ga K "BadPrice")) (.ref (He.ga K "TownError")) = some true)),
  (fun K => Hx.iniB K (He.ga K "BadStreet")),
  (fun K => Hx.iniB K (He.ga K "BadPrice")),
  (fun K => decide (PySem.W.kitOne K (.ref (He.ga K "BadStreet")) (.ref (He.ga K "BadStreet")) = some true)),
  (fun K => decide (PySem.W.kitOne K (.ref (He.ga K "BadStreet")) (.ref (He.ga K "BadPrice")) = some false)),
  (fun K => decide (PySem.W.kitOne K (.ref (He.ga K "BadPrice")) (.ref (He.ga K "BadStreet")) = some false)),
  (fun K => decide (PySem.W.kitOne K (.ref (He.ga K "BadPrice")) (.ref (He.ga K "BadPrice")) = some true)),
  (fun K => decide (PySem.W.kitOne K (.ref (He.ga K "BadStreet")) (.ref (He.ga K "BadInput")) = some true)),
  (fun K => decide (PySem.W.kitOne K (.ref (He.ga K "BadPrice")) (.ref (He.ga K "BadInput")) = some true))]
abbrev R : PySem.W.OpenRow := PySem.W.OpenLaw.row PySem.Challenge.rw_signtown_k06_streets_refused
def tfs : List He.Defn := [("_law_right", none)]
abbrev hk : PySem.W.Hook := hookT 7 fas dxs tfs
def ob (s : PySem.W.SharedT) : LookT := lookT 7 fas dxs tfs (HandSHeadRun.getT s)
theorem ob_eq (s : PySem.W.SharedT) : ob s = hk.obs s.abs := by
  have e : HandSHeadRun.getT s = s.abs.heap.get? := funext (HandSHeadRun.getT_eq s)
  unfold ob
  rw [e]
  rfl
def loose : List Str := (["_wall", "__name__", "TownError", "BadInput", "Refused", "BadPrice", "BadStreet", "BadText", "NoCorner", "LETTERS", "NAME_LENGTH", "GREATEST_PRICE", "is_name", "is_integer", "is_price", "DIGITS", "PRICE_DIGITS", "ROAD_WORDS", "SETTLED_WORDS", "check_street", "check_prices", "check_end", "is_price_word", "can_stand", "first_wrong", "read_street", "Street", "Settled", "Even", "Lane"] : List Str) ++ (["Avenue", "Road", "_law_pen", "_law_draw", "_law_pick", "_law_is_word", "_law_is_pay", "_law_due", "_law_heard", "_law_odd_word", "_law_odd_pay", "_law_drawn", "_law_right"] : List Str)
end K06
namespace K06
open PySem PySem.Spec PyProof.Rows L2 Hx
/-- what stands behind the top -/
def Tx (K : PySem.W.Frag) (mg : Str → Option Value) : Prop := ∃ h : Heap, K.In h ∧ h.Ns mainGlobals mg ∧ looks fas dxs K = good dxs
section
variable {K : PySem.W.Frag} {mg : Str → Option Value}
theorem g_is_name (T : Tx K mg) : mg "is_name" = some (.ref (He.ga K "is_name")) := by obtain ⟨h, X, G, c⟩ := T; exact He.glo_ok X G (fact c 0)
theorem g_is_integer (T : Tx K mg) : mg "is_integer" = some (.ref (He.ga K "is_integer")) := by obtain ⟨h, X, G, c⟩ := T; exact He.glo_ok X G (fact c 1)
theorem g_is_price (T : Tx K mg) : mg "is_price" = some (.ref (He.ga K "is_price")) := by obtain ⟨h, X, G, c⟩ := T; exact He.glo_ok X G (fact c 2)
theorem g_check_street (T : Tx K mg) : mg "check_street" = some (.ref (He.ga K "check_street")) := by obtain ⟨h, X, G, c⟩ := T; exact He.glo_ok X G (fact c 3)
theorem g_check_prices (T : Tx K mg) : mg "check_prices" = some (.ref (He.ga K "check_prices")) := by obtain ⟨h, X, G, c⟩ := T; exact He.glo_ok X G (fact c 4)
theorem g__law_pen (T : Tx K mg) : mg "_law_pen" = some (.ref (He.ga K "_law_pen")) := by obtain ⟨h, X, G, c⟩ := T; exact He.glo_ok X G (fact c 5)
theorem g__law_draw (T : Tx K mg) : mg "_law_draw" = some (.ref (He.ga K "_law_draw")) := by obtain ⟨h, X, G, c⟩ := T; exact He.glo_ok X G (fact c 6)
theorem g__law_pick (T : Tx K mg) : mg "_law_pick" = some (.ref (He.ga K "_law_pick")) := by obtain ⟨h, X, G, c⟩ := T; exact He.glo_ok X G (fact c 7)
theorem g__law_is_word (T : Tx K mg) : mg "_law_is_word" = some (.ref (He.ga K "_law_is_word")) := by obtain ⟨h, X, G, c⟩ := T; exact He.glo_ok X G (fact c 8)
theorem g__law_is_pay (T : Tx K mg) : mg "_law_is_pay" = some (.ref (He.ga K "_law_is_pay")) := by obtain ⟨h, X, G, c⟩ := T; exact He.glo_ok X G (fact c 9)
theorem g__law_due (T : Tx K mg) : mg "_law_due" = some (.ref (He.ga K "_law_due")) := by obtain ⟨h, X, G, c⟩ := T; exact He.glo_ok X G (fact c 10)
theorem g__law_heard (T : Tx K mg) : mg "_law_heard" = some (.ref (He.ga K "_law_heard")) := by obtain ⟨h, X, G, c⟩ := T; exact He.glo_ok X G (fact c 11)
theorem g__law_odd_word (T : Tx K mg) : mg "_law_odd_word" = some (.ref (He.ga K "_law_odd_word")) := by obtain ⟨h, X, G, c⟩ := T; exact He.glo_ok X G (fact c 12)
theorem g__law_odd_pay (T : Tx K mg) : mg "_law_odd_pay" = some (.ref (He.ga K "_law_odd_pay")) := by obtain ⟨h, X, G, c⟩ := T; exact He.glo_ok X G (fact c 13)
theorem g__law_drawn (T : Tx K mg) : mg "_law_drawn" = some (.ref (He.ga K "_law_drawn")) := by obtain ⟨h, X, G, c⟩ := T; exact He.glo_ok X G (fact c 14)
theorem g__law_right (T : Tx K mg) : mg "_law_right" = some (.ref (He.ga K "_law_right")) := by obtain ⟨h, X, G, c⟩ := T; exact He.glo_ok X G (fact c 15)
theorem g_law (T : Tx K mg) : mg "law" = some (.ref (He.ga K "law")) := by obtain ⟨h, X, G, c⟩ := T; exact He.glo_ok X G (fact c 16)
theorem g_Lane (T : Tx K mg) : mg "Lane" = some (.ref (He.ga K "Lane")) := by obtain ⟨h, X, G, c⟩ := T; exact He.glo_ok X G (fact c 17)
theorem g_Avenue (T : Tx K mg) : mg "Avenue" = some (.ref (He.ga K "Avenue")) := by obtain ⟨h, X, G, c⟩ := T; exact He.glo_ok X G (fact c 18)
theorem g_Road (T : Tx K mg) : mg "Road" = some (.ref (He.ga K "Road")) := by obtain ⟨h, X, G, c⟩ := T; exact He.glo_ok X G (fact c 19)
theorem g_BadStreet (T : Tx K mg) : mg "BadStreet" = some (.ref (He.ga K "BadStreet")) := by obtain ⟨h, X, G, c⟩ := T; exact He.glo_ok X G (fact c 20)
theorem g_BadPrice (T : Tx K mg) : mg "BadPrice" = some (.ref (He.ga K "BadPrice")) := by obtain ⟨h, X, G, c⟩ := T; exact He.glo_ok X G (fact c 21)
theorem g_BadInput (T : Tx K mg) : mg "BadInput" = some (.ref (He.ga K "BadInput")) := by obtain ⟨h, X, G, c⟩ := T; exact He.glo_ok X G (fact c 22)
theorem g_TownError (T : Tx K mg) : mg "TownError" = some (.ref (He.ga K "TownError")) := by obtain ⟨h, X, G, c⟩ := T; exact He.glo_ok X G (fact c 23)
theorem n_isinstance (T : Tx K mg) : mg "isinstance" = none := by obtain ⟨h, X, G, c⟩ := T; exact He.free_ok X G (fact c 24)
theorem n_str (T : Tx K mg) : mg "str" = none := by obtain ⟨h, X, G, c⟩ := T; exact He.free_ok X G (fact c 25)
theorem n_int (T : Tx K mg) : mg "int" = none := by obtain ⟨h, X, G, c⟩ := T; exact He.free_ok X G (fact c 26)
theorem n_bool (T : Tx K mg) : mg "bool" = none := by obtain ⟨h, X, G, c⟩ := T; exact He.free_ok X G (fact c 27)
theorem n_len (T : Tx K mg) : mg "len" = none := by obtain ⟨h, X, G, c⟩ := T; exact He.free_ok X G (fact c 28)
theorem n_all (T : Tx K mg) : mg "all" = none := by obtain ⟨h, X, G, c⟩ := T; exact He.free_ok X G (fact c 29)
theorem n_list (T : Tx K mg) : mg "list" = none := by obtain ⟨h, X, G, c⟩ := T; exact He.free_ok X G (fact c 30)
theorem n_range (T : Tx K mg) : mg "range" = none := by obtain ⟨h, X, G, c⟩ := T; exact He.free_ok X G (fact c 31)
theorem n_repr (T : Tx K mg) : mg "repr" = none := by obtain ⟨h, X, G, c⟩ := T; exact He.free_ok X G (fact c 32)
theorem n_abs (T : Tx K mg) : mg "abs" = none := by obtain ⟨h, X, G, c⟩ := T; exact He.free_ok X G (fact c 33)
theorem i_NAME_LENGTH (T : Tx K mg) {v : Int} (e : (He.Fa.int "NAME_LENGTH" v) = (He.Fa.int "NAME_LENGTH" v)) : fas[34]? = some (He.Fa.int "NAME_LENGTH" v).ok → ∃ t, mg "NAME_LENGTH" = some (.int v t) := by intro q; obtain ⟨h, X, G, c⟩ := T; exact He.int_ok X G (fact c 34 q)
theorem i_GREATEST_PRICE (T : Tx K mg) {v : Int} (e : (He.Fa.int "GREATEST_PRICE" v) = (He.Fa.int "GREATEST_PRICE" v)) : fas[35]? = some (He.Fa.int "GREATEST_PRICE" v).ok → ∃ t, mg "GREATEST_PRICE" = some (.int v t) := by intro q; obtain ⟨h, X, G, c⟩ := T; exact He.int_ok X G (fact c 35 q)
theorem t_LETTERS (T : Tx K mg) {v : Str} : fas[36]? = some (He.Fa.str "LETTERS" v).ok → ∃ t, mg "LETTERS" = some (.str v t) := by intro q; obtain ⟨h, X, G, c⟩ := T; exact He.str_ok X G (fact c 36 q)
theorem c_Lane (T : Tx K mg) : Cls K (He.ga K "Lane") := by obtain ⟨h, X, G, c⟩ := T; exact He.cls_ok (fact c 37)
theorem c_Avenue (T : Tx K mg) : Cls K (He.ga K "Avenue") := by obtain ⟨h, X, G, c⟩ := T; exact He.cls_ok (fact c 38)
theorem c_Road (T : Tx K mg) : Cls K (He.ga K "Road") := by obtain ⟨h, X, G, c⟩ := T; exact He.cls_ok (fact c 39)
theorem na_Lane_name (T : Tx K mg) : NoAttr K (He.ga K "Lane") "name" := by obtain ⟨h, X, G, c⟩ := T; exact He.noat_ok (fact c 40)
theorem na_Lane_start (T : Tx K mg) : NoAttr K (He.ga K "Lane") "start" := by obtain ⟨h, X, G, c⟩ := T; exact He.noat_ok (fact c 41)
theorem na_Lane_goal (T : Tx K mg) : NoAttr K (He.ga K "Lane") "goal" := by obtain ⟨h, X, G, c⟩ := T; exact He.noat_ok (fact c 42)
theorem na_Avenue_name (T : Tx K mg) : NoAttr K (He.ga K "Avenue") "name" := by obtain ⟨h, X, G, c⟩ := T; exact He.noat_ok (fact c 43)
theorem na_Avenue_one (T : Tx K mg) : NoAttr K (He.ga K "Avenue") "one" := by obtain ⟨h, X, G, c⟩ := T; exact He.noat_ok (fact c 44)
theorem na_Avenue_other (T : Tx K mg) : NoAttr K (He.ga K "Avenue") "other" := by obtain ⟨h, X, G, c⟩ := T; exact He.noat_ok (fact c 45)
theorem na_Road_name (T : Tx K mg) : NoAttr K (He.ga K "Road") "name" := by obtain ⟨h, X, G, c⟩ := T; exact He.noat_ok (fact c 46)
theorem na_Road_one (T : Tx K mg) : NoAttr K (He.ga K "Road") "one" := by obtain ⟨h, X, G, c⟩ := T; exact He.noat_ok (fact c 47)
theorem na_Road_other (T : Tx K mg) : NoAttr K (He.ga K "Road") "other" := by obtain ⟨h, X, G, c⟩ := T; exact He.noat_ok (fact c 48)
theorem na_Road_there (T : Tx K mg) : NoAttr K (He.ga K "Road") "there" := by obtain ⟨h, X, G, c⟩ := T; exact He.noat_ok (fact c 49)
theorem na_Road_back (T : Tx K mg) : NoAttr K (He.ga K "Road") "back" := by obtain ⟨h, X, G, c⟩ := T; exact He.noat_ok (fact c 50)
theorem mk_Lane (T : Tx K mg) : Mk K (He.ga K "Lane") (He.ma K (He.ga K "Lane") "__init__") := by obtain ⟨h, X, G, c⟩ := T; exact He.mkr_ok (fact c 51)
theorem mk_Avenue (T : Tx K mg) : Mk K (He.ga K "Avenue") (He.ma K (He.ga K "Avenue") "__init__") := by obtain ⟨h, X, G, c⟩ := T; exact He.mkr_ok (fact c 52)
theorem mk_Road (T : Tx K mg) : Mk K (He.ga K "Road") (He.ma K (He.ga K "Road") "__init__") := by obtain ⟨h, X, G, c⟩ := T; exact He.mkr_ok (fact c 53)
theorem ci_Lane (T : Tx K mg) : ClsI K (He.ga K "Lane") := by obtain ⟨h, X, G, c⟩ := T; exact clsB_ok (fact c 54)
theorem ci_Avenue (T : Tx K mg) : ClsI K (He.ga K "Avenue") := by obtain ⟨h, X, G, c⟩ := T; exact clsB_ok (fact c 55)
theorem ci_Road (T : Tx K mg) : ClsI K (He.ga K "Road") := by obtain ⟨h, X, G, c⟩ := T; exact clsB_ok (fact c 56)
abbrev d_is_name : Hx.Dx := ⟨fun K => He.ga K "is_name", "is_name", "is_name", s_is_name, [], []⟩
theorem f_is_name (T : Tx K mg) : ∃ fd, Fd K d_is_name fd := by obtain ⟨h, X, G, c⟩ := T; exact defn c 0
abbrev d_is_integer : Hx.Dx := ⟨fun K => He.ga K "is_integer", "is_integer", "is_integer", s_is_integer, [], []⟩
theorem f_is_integer (T : Tx K mg) : ∃ fd, Fd K d_is_integer fd := by obtain ⟨h, X, G, c⟩ := T; exact defn c 1
abbrev d_is_price : Hx.Dx := ⟨fun K => He.ga K "is_price", "is_price", "is_price", s_is_price, [], []⟩
theorem f_is_price (T : Tx K mg) : ∃ fd, Fd K d_is_price fd := by obtain ⟨h, X, G, c⟩ := T; exact defn c 2
abbrev d_check_street : Hx.Dx := ⟨fun K => He.ga K "check_street", "check_street", "check_street", s_check_street, [], []⟩
theorem f_check_street (T : Tx K mg) : ∃ fd, Fd K d_check_street fd := by obtain ⟨h, X, G, c⟩ := T; exact defn c 3
abbrev d_check_prices : Hx.Dx := ⟨fun K => He.ga K "check_prices", "check_prices", "check_prices", s_check_prices, [], []⟩
theorem f_check_prices (T : Tx K mg) : ∃ fd, Fd K d_check_prices fd := by obtain ⟨h, X, G, c⟩ := T; exact defn c 4
abbrev d__law_pen : Hx.Dx := ⟨fun K => He.ga K "_law_pen", "_law_pen", "_law_pen", s__law_pen, [], []⟩
theorem f__law_pen (T : Tx K mg) : ∃ fd, Fd K d__law_pen fd := by obtain ⟨h, X, G, c⟩ := T; exact defn c 5
abbrev d__law_draw : Hx.Dx := ⟨fun K => He.ga K "_law_draw", "_law_draw", "_law_draw", s__law_draw, [], []⟩
theorem f__law_draw (T : Tx K mg) : ∃ fd, Fd K d__law_draw fd := by obtain ⟨h, X, G, c⟩ := T; exact defn c 6
abbrev d__law_pick : Hx.Dx := ⟨fun K => He.ga K "_law_pick", "_law_pick", "_law_pick", s__law_pick, [], []⟩
theorem f__law_pick (T : Tx K mg) : ∃ fd, Fd K d__law_pick fd := by obtain ⟨h, X, G, c⟩ := T; exact defn c 7
abbrev d__law_is_word : Hx.Dx := ⟨fun K => He.ga K "_law_is_word", "_law_is_word", "_law_is_word", s__law_is_word, [], []⟩
theorem f__law_is_word (T : Tx K mg) : ∃ fd, Fd K d__law_is_word fd := by obtain ⟨h, X, G, c⟩ := T; exact defn c 8
abbrev d__law_is_pay : Hx.Dx := ⟨fun K => He.ga K "_law_is_pay", "_law_is_pay", "_law_is_pay", s__law_is_pay, [], []⟩
theorem f__law_is_pay (T : Tx K mg) : ∃ fd, Fd K d__law_is_pay fd := by obtain ⟨h, X, G, c⟩ := T; exact defn c 9
abbrev d__law_due : Hx.Dx := ⟨fun K => He.ga K "_law_due", "_law_due", "_law_due", s__law_due, [], []⟩
theorem f__law_due (T : Tx K mg) : ∃ fd, Fd K d__law_due fd := by obtain ⟨h, X, G, c⟩ := T; exact defn c 10
abbrev d__law_heard : Hx.Dx := ⟨fun K => He.ga K "_law_heard", "_law_heard", "_law_heard", s__law_heard, [], []⟩
theorem f__law_heard (T : Tx K mg) : ∃ fd, Fd K d__law_heard fd := by obtain ⟨h, X, G, c⟩ := T; exact defn c 11
abbrev d__law_odd_word : Hx.Dx := ⟨fun K => He.ga K "_law_odd_word", "_law_odd_word", "_law_odd_word", s__law_odd_word, [], []⟩
theorem f__law_odd_word (T : Tx K mg) : ∃ fd, Fd K d__law_odd_word fd := by obtain ⟨h, X, G, c⟩ := T; exact defn c 12
abbrev d__law_odd_pay : Hx.Dx := ⟨fun K => He.ga K "_law_odd_pay", "_law_odd_pay", "_law_odd_pay", s__law_odd_pay, [], []⟩
theorem f__law_odd_pay (T : Tx K mg) : ∃ fd, Fd K d__law_odd_pay fd := by obtain ⟨h, X, G, c⟩ := T; exact defn c 13
abbrev d__law_drawn : Hx.Dx := ⟨fun K => He.ga K "_law_drawn", "_law_drawn", "_law_drawn", s__law_drawn, [], []⟩
theorem f__law_drawn (T : Tx K mg) : ∃ fd, Fd K d__law_drawn fd := by obtain ⟨h, X, G, c⟩ := T; exact defn c 14
abbrev d__law_right : Hx.Dx := ⟨fun K => He.ga K "_law_right", "_law_right", "_law_right", s__law_right, [], []⟩
theorem f__law_right (T : Tx K mg) : ∃ fd, Fd K d__law_right fd := by obtain ⟨h, X, G, c⟩ := T; exact defn c 15
abbrev d_law : Hx.Dx := ⟨fun K => He.ga K "law", "law", "law", s_law, [], []⟩
theorem f_law (T : Tx K mg) : ∃ fd, Fd K d_law fd := by obtain ⟨h, X, G, c⟩ := T; exact defn c 16
abbrev d_Lane_init : Hx.Dx := ⟨fun K => He.ma K (He.ga K "Lane") "__init__", "__init__", "Lane.__init__", s_Lane_init, [], []⟩
theorem f_Lane_init (T : Tx K mg) : ∃ fd, Fd K d_Lane_init fd := by obtain ⟨h, X, G, c⟩ := T; exact defn c 17
abbrev d_Avenue_init : Hx.Dx := ⟨fun K => He.ma K (He.ga K "Avenue") "__init__", "__init__", "Avenue.__init__", s_Avenue_init, [], []⟩
theorem f_Avenue_init (T : Tx K mg) : ∃ fd, Fd K d_Avenue_init fd := by obtain ⟨h, X, G, c⟩ := T; exact defn c 18
abbrev d_Road_init : Hx.Dx := ⟨fun K => He.ma K (He.ga K "Road") "__init__", "__init__", "Road.__init__", s_Road_init, [.int (0), .int (0)], []⟩
theorem f_Road_init (T : Tx K mg) : ∃ fd, Fd K d_Road_init fd := by obtain ⟨h, X, G, c⟩ := T; exact defn c 19
abbrev d_BadStreet_init : Hx.Dx := ⟨fun K => He.ma K (He.ga K "BadStreet") "__init__", "__init__", "BadStreet.__init__", s_BadStreet_init, [], []⟩
theorem f_BadStreet_init (T : Tx K mg) : ∃ fd, Fd K d_BadStreet_init fd := by obtain ⟨h, X, G, c⟩ := T; exact defn c 20
abbrev d_BadPrice_init : Hx.Dx := ⟨fun K => He.ma K (He.ga K "BadPrice") "__init__", "__init__", "BadPrice.__init__", s_BadPrice_init, [], []⟩
theorem f_BadPrice_init (T : Tx K mg) : ∃ fd, Fd K d_BadPrice_init fd := by obtain ⟨h, X, G, c⟩ := T; exact defn c 21
theorem er_BadStreet (T : Tx K mg) : Er K (He.ga K "BadStreet") := by obtain ⟨h, X, G, c⟩ := T; exact erB_ok (fact c 57)
theorem er_BadPrice (T : Tx K mg) : Er K (He.ga K "BadPrice") := by obtain ⟨h, X, G, c⟩ := T; exact erB_ok (fact c 58)
theorem xn_BadStreet_part (T : Tx K mg) : PySem.W.findIn K (.ref (He.ga K "BadStreet")) "part" = some none := by obtain ⟨h, X, G, c⟩ := T; exact He.eqO_ok (fact c 59)
theorem xn_BadPrice_value (T : Tx K mg) : PySem.W.findIn K (.ref (He.ga K "BadPrice")) "value" = some none := by obtain ⟨h, X, G, c⟩ := T; exact He.eqO_ok (fact c 60)
theorem ex_BadStreet_TownError (T : Tx K mg) : PySem.W.exmOne K (.ref (He.ga K "BadStreet")) (.ref (He.ga K "TownError")) = some true := by obtain ⟨h, X, G, c⟩ := T; exact of_decide_eq_true (fact c 61)
theorem ex_BadPrice_TownError (T : Tx K mg) : PySem.W.exmOne K (.ref (He.ga K "BadPrice")) (.ref (He.ga K "TownError")) = some true := by obtain ⟨h, X, G, c⟩ := T; exact of_decide_eq_true (fact c 62)
theorem in_BadStreet (T : Tx K mg) : PySem.W.findIn K (.ref (He.ga K "BadStreet")) "__init__" = some (some (.ref (He.ma K (He.ga K "BadStreet") "__init__"))) ∧ PySem.W.typeIn K (.ref (He.ma K (He.ga K "BadStreet") "__init__")) = some (.type "function") := by obtain ⟨h, X, G, c⟩ := T; exact iniB_ok (fact c 63)
theorem in_BadPrice (T : Tx K mg) : PySem.W.findIn K (.ref (He.ga K "BadPrice")) "__init__" = some (some (.ref (He.ma K (He.ga K "BadPrice") "__init__"))) ∧ PySem.W.typeIn K (.ref (He.ma K (He.ga K "BadPrice") "__init__")) = some (.type "function") := by obtain ⟨h, X, G, c⟩ := T; exact iniB_ok (fact c 64)
theorem k_BadStreet_BadStreet (T : Tx K mg) : PySem.W.kitOne K (.ref (He.ga K "BadStreet")) (.ref (He.ga K "BadStreet")) = some true := by obtain ⟨h, X, G, c⟩ := T; exact of_decide_eq_true (fact c 65)
theorem k_BadStreet_BadPrice (T : Tx K mg) : PySem.W.kitOne K (.ref (He.ga K "BadStreet")) (.ref (He.ga K "BadPrice")) = some false := by obtain ⟨h, X, G, c⟩ := T; exact of_decide_eq_true (fact c 66)
theorem k_BadPrice_BadStreet (T : Tx K mg) : PySem.W.kitOne K (.ref (He.ga K "BadPrice")) (.ref (He.ga K "BadStreet")) = some false := by obtain ⟨h, X, G, c⟩ := T; exact of_decide_eq_true (fact c 67)
theorem k_BadPrice_BadPrice (T : Tx K mg) : PySem.W.kitOne K (.ref (He.ga K "BadPrice")) (.ref (He.ga K "BadPrice")) = some true := by obtain ⟨h, X, G, c⟩ := T; exact of_decide_eq_true (fact c 68)
theorem k_BadStreet_BadInput (T : Tx K mg) : PySem.W.kitOne K (.ref (He.ga K "BadStreet")) (.ref (He.ga K "BadInput")) = some true := by obtain ⟨h, X, G, c⟩ := T; exact of_decide_eq_true (fact c 69)
theorem k_BadPrice_BadInput (T : Tx K mg) : PySem.W.kitOne K (.ref (He.ga K "BadPrice")) (.ref (He.ga K "BadInput")) = some true := by obtain ⟨h, X, G, c⟩ := T; exact of_decide_eq_true (fact c 70)
end
end K06
namespace K06
open PySem PySem.Spec PyProof.Rows L2 Hx Gx
/-- a def's promise, with how it is called -/
def Prom (P : Program) (w : World) (K : PySem.W.Frag) (mg : Str → Option Value) (base : Heap) (k : Nat) (d : Dx) (ps : List Str) (sp : Sp) : Prop :=
  ∃ fd, Fd K d fd ∧ FnOk P w K mg base CX0 k (d.adr K) fd ps sp ∧ Binds K fd ps []
/-- all that was tracked is as it was, but for p -/
def But (p : Addr) (H H' : Hp) : Prop := ∀ b o, b ≠ p → H b = some o → H' b = some o
/-- a pen: its cells, the next one's place (at most n), the rest of a great one -/
def PenAt (H : Hp) (p c : Addr) (n : Nat) : Prop :=
  ∃ (ns : List Int) (a r : Int), H p = some (.lst [.ref c, .int a, .int r]) ∧ c ≠ p ∧ H c = some (.lst (ns.map V.int)) ∧ ns.length ≤ 63 ∧ 0 ≤ a ∧ a ≤ (n : Int) ∧ 0 ≤ r
theorem int_list {xs : List V} {ns : List Int} (h : xs = ns.map V.int) (n : Nat) : xs.take n = (ns.take n).map V.int := by rw [h, List.map_take]
theorem cut_ints (ns : List Int) (hl : ns.length ≤ 63) (lo hi : Option Int) : ∃ ms : List Int, cutV (ns.map V.int) lo hi = ms.map V.int ∧ ms.length ≤ 63 := by
  unfold cutV
  refine ⟨_, by rw [← List.map_drop, ← List.map_take], ?_⟩
  rw [List.length_take, List.length_drop]
  omega
theorem dp_ints (K : PySem.W.Frag) (H : Hp) : ∀ ns : List Int, DpAll K H (ns.map V.int) (ns.map PyData.int)
  | [] => .nil
  | n :: ns => .cons (.int n) (dp_ints K H ns)
theorem shaped_ints : ∀ ns : List Int, SeqAt.shaped (.list (ns.map PyData.int)) = true := by
  intro ns
  have h1 : ∀ ns : List Int, PyData.canLayAll0 (ns.map PyData.int) = true := fun ns => by
    induction ns with
    | nil => rfl
    | cons n ns ih =>
      rw [List.map_cons]
      unfold PyData.canLayAll0
      rw [ih]
      rfl
  have h2 : ∀ ns : List Int, PyData.depthAll (ns.map PyData.int) = 0 := fun ns => by
    induction ns with
    | nil => rfl
    | cons n ns ih =>
      rw [List.map_cons]
      unfold PyData.depthAll
      rw [ih]
      rfl
  unfold SeqAt.shaped
  have h3 : PyData.depth (.list (ns.map PyData.int)) = 1 := by
    show PyData.depthAll (ns.map PyData.int) + 1 = 1
    rw [h2]
  have h4 : PyData.canLay0 (.list (ns.map PyData.int)) = true := h1 ns
  rw [h3, h4]
  rfl
theorem eqv_ints : ∀ ns : List Int, PyData.eqv (.list (ns.map PyData.int)) (.list []) = decide (ns = []) := by
  intro ns
  cases ns with
  | nil => rfl
  | cons n ns => rfl
/-- an item of a list of ints -/
theorem at_int {ns : List Int} {j : Int} (h0 : 0 ≤ j) (h1 : j < (ns.map V.int).length) : ∃ x, atI (ns.map V.int) j = some (.int x) := by
  obtain ⟨i, rfl⟩ : ∃ i : Nat, j = i := ⟨j.toNat, by omega⟩
  have hi : i < ns.length := by
    rw [List.length_map] at h1
    omega
  exact ⟨ns[i], atI_nat (by rw [List.getElem?_map, List.getElem?_eq_getElem hi]; rfl)⟩
theorem great_nn {cell : Int} (h : 10 ^ Int.toNat 18 ≤ if cell < 0 then -cell else cell) : 0 ≤ 2 * ((if cell < 0 then -cell else cell) - 10 ^ Int.toNat 18) + (if decide (cell < 0) = true then 1 else 0 : Int) := by
  have h2 : (0 : Int) ≤ (if decide (cell < 0) = true then 1 else 0 : Int) := by split <;> decide
  omega
theorem mix_ok {z a c1 c2 c3 : Int} (h1 : 0 ≤ z) (h2 : z < 2147483629) (h3 : 0 ≤ a) (h4 : a ≤ 100000) (h5 : 0 ≤ c1) (h6 : c1 ≤ 100000) (h7 : 0 ≤ c2) (h8 : c2 ≤ 100000) (h9 : 0 ≤ c3) (h10 : c3 ≤ 100000) :
    (z * (2 * a + c1) + c2 * a * a + c3).natAbs < 2 ^ 64 := by
  have q1 : z * (2 * a + c1) ≤ 2147483629 * 300000 := Int.mul_le_mul (by omega) (by omega) (by omega) (by decide)
  have q0 : 0 ≤ z * (2 * a + c1) := Int.mul_nonneg h1 (by omega)
  have p1 : c2 * a ≤ 100000 * 100000 := Int.mul_le_mul h8 h4 h3 (by decide)
  have p0 : 0 ≤ c2 * a := Int.mul_nonneg h7 h3
  have r1 : c2 * a * a ≤ (100000 * 100000) * 100000 := Int.mul_le_mul p1 h4 h3 (by decide)
  have r0 : 0 ≤ c2 * a * a := Int.mul_nonneg p0 h3
  omega
theorem lt200 {m : Int} (h0 : 0 < m) (h : m < 10 ^ 60) : m.natAbs < 2 ^ 200 := by
  have e : (10 : Int) ^ 60 < 2 ^ 200 := by decide
  omega
section
variable {P : Program} {w : World} {K : PySem.W.Frag} {mg : Str → Option Value} {base : Heap}
def spPen (K : PySem.W.Frag) : Sp := fun vs H Q _ => ∃ (a : Addr) (ns : List Int), vs = [.ref a] ∧ SqL K H a (ns.map V.int) ∧ ns.length ≤ 63 ∧ ∀ (H' : Hp) (p c : Addr), Same H H' → H p = none → PenAt H' p c 0 → Q (.ref p) H'
theorem sc_pen : FnScope ["_law_script"] ["_law_script"] (defScope s__law_pen) := ⟨rfl, rfl, rfl, by decide +kernel, rfl, by decide +kernel, by decide +kernel⟩
theorem p_pen (T : Tx K mg) : Prom P w K mg base 1 d__law_pen ["_law_script"] (spPen K) := by
  obtain ⟨fd, F⟩ := f__law_pen T
  refine ⟨fd, F, F.ok sc_pen (fun vs H Q E h => ?_) (fun cdv A outer s H vs Q E hr h => ?_), F.bindsN fun _ _ _ _ _ _ us hl => match us, hl with | [_], _ => rfl⟩
  · obtain ⟨a, ns, rfl, _⟩ := h
    rfl
  · obtain ⟨a, ns, rfl, hs, hl, k⟩ := h
    refine ⟨_, pss_one (ps_ret (pe_lst (pa_cons (pe_callTy call_list_of (by rfl) (n_list T) (by decide +kernel) (pa_cons (pe_slice sl_list (pv 0) po_none (po_some pe_int)) pa_nil)) (pa_cons pe_int (pa_cons pe_int pa_nil))))), ?_⟩
    refine ⟨_, rfl, ?_⟩
    refine ⟨63, rfl, a, _, rfl, hs, fun c hc => ⟨c, _, rfl, .inl (SqL.of upd_same), fun l hl2 => ⟨(by show 3 ≤ sizeLine; decide), fun p hp => ?_⟩⟩⟩
    have hcl : c ≠ l := ne_of_none upd_same hl2
    have hcp : c ≠ p := ne_of_none (by rw [upd_ne hcl]; exact upd_same) hp
    have hlp : l ≠ p := ne_of_none upd_same hp
    have h1 : H p = none := by
      rw [upd_ne hlp.symm, upd_ne hcp.symm] at hp
      exact hp
    obtain ⟨ms, em, hm⟩ := cut_ints ns hl none (some 63)
    refine k _ p _ (fun b o e => ?_) h1 ⟨ms, 0, 0, upd_same, hlp, by rw [upd_ne hlp, upd_same, ← em], hm, Int.le_refl 0, Int.le_refl 0, Int.le_refl 0⟩
    have b1 := ne_of_none e hc
    have b2 : b ≠ l := ne_of_none (by rw [upd_ne b1]; exact e) hl2
    have b3 : b ≠ p := ne_of_none e h1
    rw [upd_ne b3, upd_ne b2, upd_ne b1]
    exact e
theorem hu64 {k : Nat} {A : Around} (hr : Room k A) : A.units + 64 < cLine := by have := hr.un; omega
/-- what a draw promises: a number below many; the pen has gone on by one -/
def spDraw : Sp := fun vs H Q _ => ∃ (p c : Addr) (n : Nat) (m : Int), vs = [.ref p, .int m] ∧ PenAt H p c n ∧ n ≤ 100000 ∧ 0 < m ∧ m < 10 ^ 60 ∧
  ∀ (H' : Hp) (d : Int), But p H H' → PenAt H' p c (n + 1) → 0 ≤ d → d < m → Q (.int d) H'
theorem sc_draw : FnScope ["_law_pen_here", "_law_many", "_law_digit", "_law_at", "_law_cell", "_law_great", "_law_mixed"] ["_law_pen_here", "_law_many"] (defScope s__law_draw) := ⟨rfl, rfl, rfl, by decide +kernel, rfl, by decide +kernel, by decide +kernel⟩
theorem p_draw (T : Tx K mg) : Prom P w K mg base 1 d__law_draw ["_law_pen_here", "_law_many"] spDraw := by
  obtain ⟨fd, F⟩ := f__law_draw T
  refine ⟨fd, F, F.ok sc_draw (fun vs H Q E h => ?_) (fun cdv A outer s H vs Q E hr h => ?_), F.bindsN fun _ _ _ _ _ _ us hl => match us, hl with | [_, _], _ => rfl⟩
  · obtain ⟨p, c, n, m, rfl, _⟩ := h
    rfl
  · obtain ⟨p, c, n, m, rfl, ⟨ns, a, r, hp, hcp, hc, hns, ha0, han, hr0⟩, hn, hm, hm2, k⟩ := h
    refine ⟨_, (pss_cons (ps_if (pt_cmpR op_gt (pe_ix ix_list (pv 0) pe_int (fun _ _ => rfl)) pe_int (nomark _)) (pss_cons (ps_set (i := 2) sc_draw.nd rfl (Or.inl rfl) (pe_op op_mod (pe_callTy call_int1 (by rfl) (n_int T) (by decide +kernel) (pa_cons (pe_ix ix_list (pv 0) pe_int (fun _ _ => rfl)) pa_nil)) (pv 1)))
      (pss_cons (ps_asg (pe_op op_fdivW (pe_callTy call_int1 (by rfl) (n_int T) (by decide +kernel) (pa_cons (pe_ix ix_list (pv 0) pe_int (fun _ _ => rfl)) pa_nil)) (pv 1)) (pg_sub (pv 0) pe_int set_list))
      (pss_one (ps_ret (pv 2))))) pss_nil)
      (pss_cons (ps_set (i := 3) sc_draw.nd rfl (Or.inl rfl) (pe_ix ix_list (pv 0) pe_int (fun _ _ => rfl)))
      (pss_cons (ps_asg (pe_op op_add (pv 3) pe_int) (pg_sub (pv 0) pe_int set_list))
      (pss_cons (ps_set (i := 4) sc_draw.nd rfl (Or.inl rfl) (pe_op op_add (pe_op op_mul pe_int (pv 3)) pe_int))
      (pss_cons (ps_if (pt_cmpR (op_neD (hu64 hr)) (pe_ix ix_list (pv 0) pe_int (fun _ _ => rfl)) (pe_lst pa_nil) (nomark _)) (pss_one (ps_set (i := 4) sc_draw.nd rfl (Or.inl rfl) (pe_ix ix_list (pe_ix ix_list (pv 0) pe_int (fun _ _ => rfl)) (pe_op op_mod (pe_callTy call_int1 (by rfl) (n_int T) (by decide +kernel) (pa_cons (pv 3) pa_nil)) (pe_callB call_len_seq (by rfl) (n_len T) (by decide +kernel) (pa_cons (pe_ix ix_list (pv 0) pe_int (fun _ _ => rfl)) pa_nil))) (fun _ _ => rfl)))) pss_nil)
      (pss_cons (ps_if (PW.pt (pw_and (pt_cmpR op_lt (pv 3) (pe_callB call_len_seq (by rfl) (n_len T) (by decide +kernel) (pa_cons (pe_ix ix_list (pv 0) pe_int (fun _ _ => rfl)) pa_nil)) (nomark _)) (pw_and1 (pt_cmpR op_ge (pe_callB call_abs (by rfl) (n_abs T) (by decide +kernel) (pa_cons (pv 4) pa_nil)) (pe_op op_pow pe_int pe_int) (nomark _))))) (pss_cons (ps_set (i := 5) sc_draw.nd rfl (Or.inl rfl) (pe_op op_add (pe_op op_mul pe_int (pe_op op_sub (pe_callB call_abs (by rfl) (n_abs T) (by decide +kernel) (pa_cons (pv 4) pa_nil)) (pe_op op_pow pe_int pe_int))) (pe_callTy call_int1 (by rfl) (n_int T) (by decide +kernel) (pa_cons (pe_cmpR op_lt (pv 4) pe_int (nomark _)) pa_nil))))
      (pss_cons (ps_asg (pe_op op_fdivW (pe_callTy call_int1 (by rfl) (n_int T) (by decide +kernel) (pa_cons (pv 5) pa_nil)) (pv 1)) (pg_sub (pv 0) pe_int set_list))
      (pss_one (ps_ret (pe_op op_mod (pe_callTy call_int1 (by rfl) (n_int T) (by decide +kernel) (pa_cons (pv 5) pa_nil)) (pv 1)))))) pss_nil)
      (pss_cons (ps_set (i := 6) sc_draw.nd rfl (Or.inl rfl) (pe_op op_mod (pe_callTy call_int1 (by rfl) (n_int T) (by decide +kernel) (pa_cons (pe_op op_pow (pe_op op_add (pe_op op_add (pe_op op_mod (pe_callTy call_int1 (by rfl) (n_int T) (by decide +kernel) (pa_cons (pv 4) pa_nil)) pe_int) (pe_op op_mul pe_int (pv 3))) pe_int) pe_int) pa_nil)) pe_int))
      (pss_cons (ps_set (i := 6) sc_draw.nd rfl (Or.inl rfl) (pe_op op_mod (pe_callTy call_int1 (by rfl) (n_int T) (by decide +kernel) (pa_cons (pe_op op_pow (pe_op op_add (pe_op op_add (pe_op op_mul (pv 6) (pe_op op_add (pe_op op_mul pe_int (pv 3)) pe_int)) (pe_op op_mul (pe_op op_mul pe_int (pv 3)) (pv 3))) pe_int) pe_int) pa_nil)) pe_int))
      (pss_one (ps_ret (pe_op op_mod (pe_callTy call_int1 (by rfl) (n_int T) (by decide +kernel) (pa_cons (pe_op op_fdivW (pv 6) pe_int) pa_nil)) (pv 1)))))))))))), ?_⟩
    -- pen[2] > 0
    refine ⟨_, rfl, p, _, 2, _, rfl, rfl, SqL.of hp, atI_nat (j := 2) rfl, _, _, rfl, rfl, _, rfl, ?_⟩
    refine ite2 (fun h => ?_) (fun h => ?_)
    · have hr : 0 < r := of_decide_eq_true h
      have b1 := Int.emod_nonneg r (by omega : m ≠ 0)
      have b2 := Int.emod_lt_of_pos r hm
      refine ⟨_, rfl, p, _, 2, _, rfl, rfl, SqL.of hp, atI_nat (j := 2) rfl, .inl ⟨_, rfl, _, rfl, _, _, rfl, rfl, hm, ?_⟩⟩
      refine ⟨_, rfl, p, _, 2, _, rfl, rfl, SqL.of hp, atI_nat (j := 2) rfl, .inl ⟨_, rfl, _, rfl, _, _, rfl, rfl, wide_div hm (lt200 hm hm2) (by decide) (by decide), ?_⟩⟩
      refine ⟨_, rfl, p, _, 2, 2, rfl, rfl, hp, rfl, ?_⟩
      refine ⟨_, rfl, ?_⟩
      refine k _ _ (fun b o e1 e2 => by rw [upd_ne e1]; exact e2) ⟨ns, a, r / m, upd_same, hcp, by rw [upd_ne hcp]; exact hc, hns, ha0, by omega, Int.ediv_nonneg hr0 (by omega)⟩ b1 b2
    · -- at = pen[1]; pen[1] = at + 1; cell = ..
      refine ⟨_, rfl, p, _, 1, _, rfl, rfl, SqL.of hp, atI_nat (j := 1) rfl, ?_⟩
      refine ⟨_, rfl, _, _, rfl, rfl, _, rfl, p, _, 1, 1, rfl, rfl, hp, rfl, ?_⟩
      refine ⟨_, rfl, _, _, rfl, rfl, .inl ⟨by decide, by decide⟩, _, _, rfl, rfl, ?_⟩
      have hp1 : (upd H p (.lst ([V.ref c, .int a, .int r].set 1 (.int (a + 1))))) p = some (.lst [.ref c, .int (a + 1), .int r]) := upd_same
      have hc1 : (upd H p (.lst ([V.ref c, .int a, .int r].set 1 (.int (a + 1))))) c = some (.lst (ns.map V.int)) := by rw [upd_ne hcp]; exact hc
      have but1 : But p H (upd H p (.lst ([V.ref c, .int a, .int r].set 1 (.int (a + 1))))) := fun b o e1 e2 => by rw [upd_ne e1]; exact e2
      generalize upd H p (.lst ([V.ref c, .int a, .int r].set 1 (.int (a + 1)))) = H1 at hp1 hc1 but1
      -- pen[0] != []
      refine ⟨_, rfl, p, _, 0, _, rfl, rfl, SqL.of hp1, atI_nat (j := 0) rfl, ⟨by decide, fun l hl => ?_⟩⟩
      have hpl : p ≠ l := ne_of_none hp1 hl
      have hcl : c ≠ l := ne_of_none hc1 hl
      have hp2 : (upd H1 l (.lst [])) p = some (.lst [.ref c, .int (a + 1), .int r]) := by rw [upd_ne hpl]; exact hp1
      have hc2 : (upd H1 l (.lst [])) c = some (.lst (ns.map V.int)) := by rw [upd_ne hcl]; exact hc1
      have but2 : But p H (upd H1 l (.lst [])) := fun b o e1 e2 => by rw [upd_ne (ne_of_none (but1 b o e1 e2) hl)]; exact but1 b o e1 e2
      have hl2 : (upd H1 l (.lst [])) l = some (.lst []) := upd_same
      refine ⟨.list (ns.map .int), .list [], .lst (SqL.of hc2) (dp_ints K _ ns), .lst (SqL.of hl2) .nil, shaped_ints ns, by decide, _, rfl, ?_⟩
      generalize upd H1 l (.lst []) = H2 at hp2 hc2 but2 hl2
      rw [eqv_ints]
      refine ite2 (fun hne => ?_) (fun hne => ?_)
      · have hn0 : 0 < (ns.map V.int).length := by
          cases ns with
          | nil => cases hne
          | cons x xs => exact Nat.succ_pos _
        have c1 := Int.emod_nonneg a (by omega : ((ns.map V.int).length : Int) ≠ 0)
        have c2 := Int.emod_lt_of_pos a (by omega : 0 < ((ns.map V.int).length : Int))
        obtain ⟨x, hx⟩ := at_int c1 c2
        refine ⟨_, rfl, p, _, 0, _, rfl, rfl, SqL.of hp2, atI_nat (j := 0) rfl, _, rfl, .inl ⟨_, rfl, _, rfl, p, _, 0, _, rfl, rfl, SqL.of hp2, atI_nat (j := 0) rfl, c, _, rfl, .inl (SqL.of hc2), ?_⟩⟩
        refine ⟨_, _, rfl, rfl, (by omega), c, _, _, _, rfl, rfl, SqL.of hc2, hx, ?_⟩
        generalize x = cell
        refine ⟨_, rfl, _, rfl, p, _, 0, _, rfl, rfl, SqL.of hp2, atI_nat (j := 0) rfl, c, _, rfl, .inl (SqL.of hc2), _, _, rfl, rfl, _, rfl, ?_⟩
        refine ite2 (fun hA => ?_) (fun hA => ?_)
        · refine ⟨_, rfl, _, rfl, _, _, rfl, rfl, ⟨by decide, by decide, by decide⟩, _, _, rfl, rfl, _, rfl, ?_⟩
          refine ite2 (fun hB => ?_) (fun hB => ?_)
          · have hB2 := of_decide_eq_true hB
            refine ⟨_, rfl, _, rfl, _, _, rfl, rfl, ⟨by decide, by decide, by decide⟩, _, _, rfl, rfl, _, _, rfl, rfl, .inl ⟨by decide, by decide⟩, _, rfl, _, _, rfl, rfl, .inr ⟨_, rfl, _, _, rfl, rfl, ?_⟩⟩
            refine ⟨_, rfl, .inl ⟨_, rfl, _, rfl, _, _, rfl, rfl, wide_div hm (lt200 hm hm2) (by decide) (by decide), _, rfl, p, _, 2, 2, rfl, rfl, hp2, rfl, ?_⟩⟩
            refine ⟨_, rfl, .inl ⟨_, rfl, _, rfl, _, _, rfl, rfl, hm, ?_⟩⟩
            exact k _ _ (fun b o e1 e2 => by rw [upd_ne e1]; exact but2 b o e1 e2) ⟨ns, a + 1, _, upd_same, hcp, by rw [upd_ne hcp]; exact hc2, hns, by omega, by omega, Int.ediv_nonneg (great_nn hB2) (by omega)⟩ (Int.emod_nonneg _ (by omega)) (Int.emod_lt_of_pos _ hm)
          · have e1 := Int.emod_nonneg cell (by decide : (2147483549 : Int) ≠ 0)
            have e2 := Int.emod_lt_of_pos cell (by decide : (0 : Int) < 2147483549)
            refine ⟨_, rfl, .inl ⟨_, rfl, _, _, rfl, rfl, (by show (0 : Int) < 2147483549; decide), _, rfl, _, _, rfl, rfl, .inl ⟨by decide, by decide⟩, _, _, rfl, rfl, _, _, rfl, rfl, _, _, rfl, rfl, ⟨by decide, by decide, by omega⟩, .inl ⟨_, rfl, _, _, rfl, rfl, (by show (0 : Int) < 2147483629; decide), ?_⟩⟩⟩
            have e3 := Int.emod_nonneg ((cell % 2147483549 + 53077 * a + 239) ^ Int.toNat 5) (by decide : (2147483629 : Int) ≠ 0)
            have e4 := Int.emod_lt_of_pos ((cell % 2147483549 + 53077 * a + 239) ^ Int.toNat 5) (by decide : (0 : Int) < 2147483629)
            dsimp only
            generalize (cell % 2147483549 + 53077 * a + 239) ^ Int.toNat 5 % 2147483629 = z at e3 e4
            refine ⟨_, rfl, _, rfl, _, _, rfl, rfl, .inl ⟨by decide, by decide⟩, _, _, rfl, rfl, _, _, rfl, rfl, .inl ⟨by omega, by omega⟩, _, rfl, _, _, rfl, rfl, .inl ⟨by decide, by decide⟩, _, rfl, _, _, rfl, rfl, .inl ⟨by omega, by omega⟩, _, _, rfl, rfl, _, _, rfl, rfl, _, _, rfl, rfl, ⟨by decide, by decide, mix_ok e3 e4 ha0 (by omega) (by decide) (by decide) (by decide) (by decide) (by decide) (by decide)⟩, .inl ⟨_, rfl, _, _, rfl, rfl, (by show (0 : Int) < 2147483587; decide), ?_⟩⟩
            refine ⟨_, rfl, _, _, rfl, rfl, wide_div (by decide) (by decide : (32 : Int).natAbs < 2 ^ 10) (by decide) (by decide), .inl ⟨_, rfl, _, rfl, _, _, rfl, rfl, hm, ?_⟩⟩
            exact k _ _ but2 ⟨ns, a + 1, r, hp2, hcp, hc2, hns, by omega, by omega, hr0⟩ (Int.emod_nonneg _ (by omega)) (Int.emod_lt_of_pos _ hm)
        · have e1 := Int.emod_nonneg cell (by decide : (2147483549 : Int) ≠ 0)
          have e2 := Int.emod_lt_of_pos cell (by decide : (0 : Int) < 2147483549)
          refine ⟨_, rfl, .inl ⟨_, rfl, _, _, rfl, rfl, (by show (0 : Int) < 2147483549; decide), _, rfl, _, _, rfl, rfl, .inl ⟨by decide, by decide⟩, _, _, rfl, rfl, _, _, rfl, rfl, _, _, rfl, rfl, ⟨by decide, by decide, by omega⟩, .inl ⟨_, rfl, _, _, rfl, rfl, (by show (0 : Int) < 2147483629; decide), ?_⟩⟩⟩
          have e3 := Int.emod_nonneg ((cell % 2147483549 + 53077 * a + 239) ^ Int.toNat 5) (by decide : (2147483629 : Int) ≠ 0)
          have e4 := Int.emod_lt_of_pos ((cell % 2147483549 + 53077 * a + 239) ^ Int.toNat 5) (by decide : (0 : Int) < 2147483629)
          dsimp only
          generalize (cell % 2147483549 + 53077 * a + 239) ^ Int.toNat 5 % 2147483629 = z at e3 e4
          refine ⟨_, rfl, _, rfl, _, _, rfl, rfl, .inl ⟨by decide, by decide⟩, _, _, rfl, rfl, _, _, rfl, rfl, .inl ⟨by omega, by omega⟩, _, rfl, _, _, rfl, rfl, .inl ⟨by decide, by decide⟩, _, rfl, _, _, rfl, rfl, .inl ⟨by omega, by omega⟩, _, _, rfl, rfl, _, _, rfl, rfl, _, _, rfl, rfl, ⟨by decide, by decide, mix_ok e3 e4 ha0 (by omega) (by decide) (by decide) (by decide) (by decide) (by decide) (by decide)⟩, .inl ⟨_, rfl, _, _, rfl, rfl, (by show (0 : Int) < 2147483587; decide), ?_⟩⟩
          refine ⟨_, rfl, _, _, rfl, rfl, wide_div (by decide) (by decide : (32 : Int).natAbs < 2 ^ 10) (by decide) (by decide), .inl ⟨_, rfl, _, rfl, _, _, rfl, rfl, hm, ?_⟩⟩
          exact k _ _ but2 ⟨ns, a + 1, r, hp2, hcp, hc2, hns, by omega, by omega, hr0⟩ (Int.emod_nonneg _ (by omega)) (Int.emod_lt_of_pos _ hm)

      · dsimp only
        generalize 41453 * a + 337 = cell
        refine ⟨_, rfl, _, rfl, p, _, 0, _, rfl, rfl, SqL.of hp2, atI_nat (j := 0) rfl, c, _, rfl, .inl (SqL.of hc2), _, _, rfl, rfl, _, rfl, ?_⟩
        refine ite2 (fun hA => ?_) (fun hA => ?_)
        · refine ⟨_, rfl, _, rfl, _, _, rfl, rfl, ⟨by decide, by decide, by decide⟩, _, _, rfl, rfl, _, rfl, ?_⟩
          refine ite2 (fun hB => ?_) (fun hB => ?_)
          · have hB2 := of_decide_eq_true hB
            refine ⟨_, rfl, _, rfl, _, _, rfl, rfl, ⟨by decide, by decide, by decide⟩, _, _, rfl, rfl, _, _, rfl, rfl, .inl ⟨by decide, by decide⟩, _, rfl, _, _, rfl, rfl, .inr ⟨_, rfl, _, _, rfl, rfl, ?_⟩⟩
            refine ⟨_, rfl, .inl ⟨_, rfl, _, rfl, _, _, rfl, rfl, wide_div hm (lt200 hm hm2) (by decide) (by decide), _, rfl, p, _, 2, 2, rfl, rfl, hp2, rfl, ?_⟩⟩
            refine ⟨_, rfl, .inl ⟨_, rfl, _, rfl, _, _, rfl, rfl, hm, ?_⟩⟩
            exact k _ _ (fun b o e1 e2 => by rw [upd_ne e1]; exact but2 b o e1 e2) ⟨ns, a + 1, _, upd_same, hcp, by rw [upd_ne hcp]; exact hc2, hns, by omega, by omega, Int.ediv_nonneg (great_nn hB2) (by omega)⟩ (Int.emod_nonneg _ (by omega)) (Int.emod_lt_of_pos _ hm)
          · have e1 := Int.emod_nonneg cell (by decide : (2147483549 : Int) ≠ 0)
            have e2 := Int.emod_lt_of_pos cell (by decide : (0 : Int) < 2147483549)
            refine ⟨_, rfl, .inl ⟨_, rfl, _, _, rfl, rfl, (by show (0 : Int) < 2147483549; decide), _, rfl, _, _, rfl, rfl, .inl ⟨by decide, by decide⟩, _, _, rfl, rfl, _, _, rfl, rfl, _, _, rfl, rfl, ⟨by decide, by decide, by omega⟩, .inl ⟨_, rfl, _, _, rfl, rfl, (by show (0 : Int) < 2147483629; decide), ?_⟩⟩⟩
            have e3 := Int.emod_nonneg ((cell % 2147483549 + 53077 * a + 239) ^ Int.toNat 5) (by decide : (2147483629 : Int) ≠ 0)
            have e4 := Int.emod_lt_of_pos ((cell % 2147483549 + 53077 * a + 239) ^ Int.toNat 5) (by decide : (0 : Int) < 2147483629)
            dsimp only
            generalize (cell % 2147483549 + 53077 * a + 239) ^ Int.toNat 5 % 2147483629 = z at e3 e4
            refine ⟨_, rfl, _, rfl, _, _, rfl, rfl, .inl ⟨by decide, by decide⟩, _, _, rfl, rfl, _, _, rfl, rfl, .inl ⟨by omega, by omega⟩, _, rfl, _, _, rfl, rfl, .inl ⟨by decide, by decide⟩, _, rfl, _, _, rfl, rfl, .inl ⟨by omega, by omega⟩, _, _, rfl, rfl, _, _, rfl, rfl, _, _, rfl, rfl, ⟨by decide, by decide, mix_ok e3 e4 ha0 (by omega) (by decide) (by decide) (by decide) (by decide) (by decide) (by decide)⟩, .inl ⟨_, rfl, _, _, rfl, rfl, (by show (0 : Int) < 2147483587; decide), ?_⟩⟩
            refine ⟨_, rfl, _, _, rfl, rfl, wide_div (by decide) (by decide : (32 : Int).natAbs < 2 ^ 10) (by decide) (by decide), .inl ⟨_, rfl, _, rfl, _, _, rfl, rfl, hm, ?_⟩⟩
            exact k _ _ but2 ⟨ns, a + 1, r, hp2, hcp, hc2, hns, by omega, by omega, hr0⟩ (Int.emod_nonneg _ (by omega)) (Int.emod_lt_of_pos _ hm)
        · have e1 := Int.emod_nonneg cell (by decide : (2147483549 : Int) ≠ 0)
          have e2 := Int.emod_lt_of_pos cell (by decide : (0 : Int) < 2147483549)
          refine ⟨_, rfl, .inl ⟨_, rfl, _, _, rfl, rfl, (by show (0 : Int) < 2147483549; decide), _, rfl, _, _, rfl, rfl, .inl ⟨by decide, by decide⟩, _, _, rfl, rfl, _, _, rfl, rfl, _, _, rfl, rfl, ⟨by decide, by decide, by omega⟩, .inl ⟨_, rfl, _, _, rfl, rfl, (by show (0 : Int) < 2147483629; decide), ?_⟩⟩⟩
          have e3 := Int.emod_nonneg ((cell % 2147483549 + 53077 * a + 239) ^ Int.toNat 5) (by decide : (2147483629 : Int) ≠ 0)
          have e4 := Int.emod_lt_of_pos ((cell % 2147483549 + 53077 * a + 239) ^ Int.toNat 5) (by decide : (0 : Int) < 2147483629)
          dsimp only
          generalize (cell % 2147483549 + 53077 * a + 239) ^ Int.toNat 5 % 2147483629 = z at e3 e4
          refine ⟨_, rfl, _, rfl, _, _, rfl, rfl, .inl ⟨by decide, by decide⟩, _, _, rfl, rfl, _, _, rfl, rfl, .inl ⟨by omega, by omega⟩, _, rfl, _, _, rfl, rfl, .inl ⟨by decide, by decide⟩, _, rfl, _, _, rfl, rfl, .inl ⟨by omega, by omega⟩, _, _, rfl, rfl, _, _, rfl, rfl, _, _, rfl, rfl, ⟨by decide, by decide, mix_ok e3 e4 ha0 (by omega) (by decide) (by decide) (by decide) (by decide) (by decide) (by decide)⟩, .inl ⟨_, rfl, _, _, rfl, rfl, (by show (0 : Int) < 2147483587; decide), ?_⟩⟩
          refine ⟨_, rfl, _, _, rfl, rfl, wide_div (by decide) (by decide : (32 : Int).natAbs < 2 ^ 10) (by decide) (by decide), .inl ⟨_, rfl, _, rfl, _, _, rfl, rfl, hm, ?_⟩⟩
          exact k _ _ but2 ⟨ns, a + 1, r, hp2, hcp, hc2, hns, by omega, by omega, hr0⟩ (Int.emod_nonneg _ (by omega)) (Int.emod_lt_of_pos _ hm)

end
end K06
namespace K06
open PySem PySem.Spec PyProof.Rows L2 Hx Gx
section
variable {P : Program} {w : World} {K : PySem.W.Frag} {mg : Str → Option Value} {base : Heap}
theorem But.refl (p : Addr) (H : Hp) : But p H H := fun _ _ _ h => h
theorem But.trans {p : Addr} {H H1 H2 : Hp} (a : But p H H1) (b : But p H1 H2) : But p H H2 := fun c o n h => b c o n (a c o n h)
theorem But.of {p : Addr} {H H1 : Hp} (a : Same H H1) : But p H H1 := fun c o _ h => a c o h
theorem But.new {p l : Addr} {H H1 : Hp} {o : HO} (a : But p H H1) (h : H1 l = none) : But p H (upd H1 l o) := fun b u n e => by rw [upd_ne (ne_of_none (a b u n e) h)]; exact a b u n e
theorem But.seq {p a : Addr} {H H' : Hp} {xs : List V} (e : But p H H') (n : a ≠ p) (h : SqL K H a xs) : SqL K H' a xs := by
  rcases h with (h | ⟨o, h⟩) | h
  · exact .inl (.inl (e _ _ n h))
  · exact .inl (.inr ⟨o, e _ _ n h⟩)
  · exact .inr h
theorem PenAt.new {H : Hp} {p c l : Addr} {n : Nat} {o : HO} (h : PenAt H p c n) (f : H l = none) : PenAt (upd H l o) p c n := by
  obtain ⟨ns, a, r, h1, h2, h3, h4⟩ := h
  exact ⟨ns, a, r, by rw [upd_ne (ne_of_none h1 f)]; exact h1, h2, by rw [upd_ne (ne_of_none h3 f)]; exact h3, h4⟩
theorem PenAt.ne {H : Hp} {p c l : Addr} {n : Nat} (h : PenAt H p c n) (f : H l = none) : p ≠ l := by
  obtain ⟨ns, a, r, h1, _⟩ := h
  exact ne_of_none h1 f
theorem PenAt.mono {H : Hp} {p c : Addr} {n m : Nat} (h : PenAt H p c n) (f : n ≤ m) : PenAt H p c m := by
  obtain ⟨ns, a, r, h1, h2, h3, h4, h5, h6, h7⟩ := h
  exact ⟨ns, a, r, h1, h2, h3, h4, h5, by omega, h7⟩
/-- a pick: one of the items -/
def spPick (K : PySem.W.Frag) : Sp := fun vs H Q _ => ∃ (p c a : Addr) (n : Nat) (xs : List V), vs = [.ref p, .ref a] ∧ PenAt H p c n ∧ n ≤ 100000 ∧ SqL K H a xs ∧ a ≠ p ∧ 0 < xs.length ∧ xs.length ≤ 1000 ∧
  ∀ (H' : Hp) (v : V), But p H H' → PenAt H' p c (n + 1) → v ∈ xs → Q v H'
theorem sc_pick : FnScope ["_law_pen_here", "_law_some"] ["_law_pen_here", "_law_some"] (defScope s__law_pick) := ⟨rfl, rfl, rfl, by decide +kernel, rfl, by decide +kernel, by decide +kernel⟩
theorem p_pick (T : Tx K mg) : Prom P w K mg base 2 d__law_pick ["_law_pen_here", "_law_some"] (spPick K) := by
  obtain ⟨fd, F⟩ := f__law_pick T
  obtain ⟨fdD, FD, GD, BD⟩ := p_draw (P := P) (w := w) (base := base) T
  refine ⟨fd, F, F.ok sc_pick (fun vs H Q E h => ?_) (fun cdv A outer s H vs Q E hr h => ?_), F.bindsN fun _ _ _ _ _ _ us hl => match us, hl with | [_, _], _ => rfl⟩
  · obtain ⟨p, c, a, n, xs, rfl, _⟩ := h
    rfl
  · obtain ⟨p, c, a, n, xs, rfl, hp, hn, hx, hap, h0, h1, k⟩ := h
    refine ⟨_, pss_one (ps_ret (pe_ix ix_list (pv 1) (pe_call GD hr rfl (g__law_draw T) FD.kp BD .nil pass0 (pa_cons (pv 0) (pa_cons (pe_callB call_len_seq (by rfl) (n_len T) (by decide +kernel) (pa_cons (pv 1) pa_nil)) pa_nil))) (fun _ _ => rfl))), ?_⟩
    refine ⟨_, rfl, _, rfl, _, rfl, a, _, rfl,   .inl hx, p, c, n, _, rfl, hp, hn, by omega, by have : (10 : Int) ^ 60 = 10 ^ 60 := rfl; omega, ?_⟩
    intro H' d but hp' d0 d1
    obtain ⟨i, rfl⟩ : ∃ i : Nat, d = i := ⟨d.toNat, by omega⟩
    have hi : i < xs.length := by omega
    refine ⟨a, _, _, _, rfl, rfl, but.seq hap hx, atI_nat (List.getElem?_eq_getElem hi), ?_⟩
    exact k _ _ but hp' (List.getElem_mem hi)
end
end K06
namespace K06
open PySem PySem.Spec PyProof.Rows L2 Hx Gx
section
variable {P : Program} {w : World} {K : PySem.W.Frag} {mg : Str → Option Value} {base : Heap}
/-- the letters' codes -/
def isLow (c : Nat) : Bool := decide (97 ≤ c) && decide (c ≤ 122)
/-- a text of one to eight letters -/
def nameB (x : Str) : Bool := decide (1 ≤ x.length) && decide (x.length ≤ 8) && x.cps.toList.all isLow
theorem low_in (c : Nat) : decide (c ∈ ("abcdefghijklmnopqrstuvwxyz" : Str).cps.toList) = isLow c := by
  have e : ("abcdefghijklmnopqrstuvwxyz" : Str).cps.toList = [97, 98, 99, 100, 101, 102, 103, 104, 105, 106, 107, 108, 109, 110, 111, 112, 113, 114, 115, 116, 117, 118, 119, 120, 121, 122] := by decide +kernel
  rw [e]
  unfold isLow
  by_cases h : 97 ≤ c ∧ c ≤ 122
  · rw [decide_eq_true h.1, decide_eq_true h.2]
    refine decide_eq_true ?_
    simp only [List.mem_cons, List.not_mem_nil, or_false]
    omega
  · have h2 : (decide (97 ≤ c) && decide (c ≤ 122)) = false := by
      rw [Bool.and_eq_false_iff]
      by_cases h1 : 97 ≤ c
      · exact .inr (decide_eq_false fun h3 => h ⟨h1, h3⟩)
      · exact .inl (decide_eq_false h1)
    rw [h2]
    refine decide_eq_false fun q => h ?_
    simp only [List.mem_cons, List.not_mem_nil, or_false] at q
    omega

def priceOk (i : Int) : Prop := -999999999999 ≤ i ∧ i ≤ 999999999999
instance (i : Int) : Decidable (priceOk i) := inferInstanceAs (Decidable (_ ∧ _))
/-- a value of one of these kinds -/
inductive Kn (H : Hp) : V → Prop
  | str (x : Str) : x.length ≤ 1000 → Kn H (.str x)
  | int (i : Int) : Kn H (.int i)
  | non : Kn H .non
  | bl (b : Bool) : Kn H (.bl b)
  | tup {a : Addr} {xs : List V} : H a = some (.tup xs) → Kn H (.ref a)
  | lst {a : Addr} {xs : List V} : H a = some (.lst xs) → Kn H (.ref a)
  | dct {a : Addr} : H a = some (.dK []) → Kn H (.ref a)
theorem Kn.same {H H' : Hp} {v : V} (k : Kn H v) (s : Same H H') : Kn H' v := by
  cases k with
  | str x h => exact .str x h
  | int i => exact .int i
  | non => exact .non
  | bl b => exact .bl b
  | tup h => exact .tup (s _ _ h)
  | lst h => exact .lst (s _ _ h)
  | dct h => exact .dct (s _ _ h)
def nmV : V → Bool
  | .str x => nameB x
  | _ => false
def inV : V → Bool
  | .int _ => true
  | _ => false
def pyV : V → Bool
  | .int i => decide (priceOk i)
  | _ => false
/-- isinstance(v, T) of a plain type -/
def isT (T : String) : V → Hp → Bool
  | .str _, _ => T == "str"
  | .int _, _ => T == "int"
  | .bl _, _ => T == "bool" || T == "int"
  | _, _ => false
theorem isT_str {K : PySem.W.Frag} {H : Hp} {v : V} (k : Kn H v) : ∃ t, TyX K H v (.type t) ∧ PySem.W.kitOne K (.type t) (.type "str") = some (isT "str" v H) := by
  cases k with
  | str x h => exact ⟨"str", .base (.str x), kit_ty (show kitB "str" "str" = some true by decide +kernel)⟩
  | int i => exact ⟨"int", .base (.int i), kit_ty (show kitB "int" "str" = some false by decide +kernel)⟩
  | non => exact ⟨"NoneType", .base .non, kit_ty (show kitB "NoneType" "str" = some false by decide +kernel)⟩
  | bl b => exact ⟨"bool", .base (.bl b), kit_ty (show kitB "bool" "str" = some false by decide +kernel)⟩
  | tup h => exact ⟨"tuple", .base (.tup h), kit_ty (show kitB "tuple" "str" = some false by decide +kernel)⟩
  | lst h => exact ⟨"list", .base (.lst h), kit_ty (show kitB "list" "str" = some false by decide +kernel)⟩
  | dct h => exact ⟨"dict", .base (.dK h), kit_ty (show kitB "dict" "str" = some false by decide +kernel)⟩
theorem isT_int {K : PySem.W.Frag} {H : Hp} {v : V} (k : Kn H v) : ∃ t, TyX K H v (.type t) ∧ PySem.W.kitOne K (.type t) (.type "int") = some (isT "int" v H) := by
  cases k with
  | str x h => exact ⟨"str", .base (.str x), kit_ty (show kitB "str" "int" = some false by decide +kernel)⟩
  | int i => exact ⟨"int", .base (.int i), kit_ty (show kitB "int" "int" = some true by decide +kernel)⟩
  | non => exact ⟨"NoneType", .base .non, kit_ty (show kitB "NoneType" "int" = some false by decide +kernel)⟩
  | bl b => exact ⟨"bool", .base (.bl b), kit_ty (show kitB "bool" "int" = some true by decide +kernel)⟩
  | tup h => exact ⟨"tuple", .base (.tup h), kit_ty (show kitB "tuple" "int" = some false by decide +kernel)⟩
  | lst h => exact ⟨"list", .base (.lst h), kit_ty (show kitB "list" "int" = some false by decide +kernel)⟩
  | dct h => exact ⟨"dict", .base (.dK h), kit_ty (show kitB "dict" "int" = some false by decide +kernel)⟩
theorem isT_bool {K : PySem.W.Frag} {H : Hp} {v : V} (k : Kn H v) : ∃ t, TyX K H v (.type t) ∧ PySem.W.kitOne K (.type t) (.type "bool") = some (isT "bool" v H) := by
  cases k with
  | str x h => exact ⟨"str", .base (.str x), kit_ty (show kitB "str" "bool" = some false by decide +kernel)⟩
  | int i => exact ⟨"int", .base (.int i), kit_ty (show kitB "int" "bool" = some false by decide +kernel)⟩
  | non => exact ⟨"NoneType", .base .non, kit_ty (show kitB "NoneType" "bool" = some false by decide +kernel)⟩
  | bl b => exact ⟨"bool", .base (.bl b), kit_ty (show kitB "bool" "bool" = some true by decide +kernel)⟩
  | tup h => exact ⟨"tuple", .base (.tup h), kit_ty (show kitB "tuple" "bool" = some false by decide +kernel)⟩
  | lst h => exact ⟨"list", .base (.lst h), kit_ty (show kitB "list" "bool" = some false by decide +kernel)⟩
  | dct h => exact ⟨"dict", .base (.dK h), kit_ty (show kitB "dict" "bool" = some false by decide +kernel)⟩
def spIsName : Sp := fun vs H Q _ => ∃ v : V, vs = [v] ∧ Kn H v ∧ ∀ H', Same H H' → Q (.bl (nmV v)) H'
theorem sc_is_name : FnScope ["value", "letter"] ["value"] (defScope s_is_name) := ⟨rfl, rfl, rfl, by decide +kernel, rfl, by decide +kernel, by decide +kernel⟩
theorem p_is_name (T : Tx K mg) : Prom P w K mg base 1 d_is_name ["value"] spIsName := by
  obtain ⟨fd, F⟩ := f_is_name T
  obtain ⟨tNL, hNL⟩ := i_NAME_LENGTH T (v := 8) rfl rfl
  obtain ⟨tLT, hLT⟩ := t_LETTERS T (v := "abcdefghijklmnopqrstuvwxyz") rfl
  refine ⟨fd, F, F.ok sc_is_name (fun vs H Q E h => ?_) (fun cdv A outer s H vs Q E hr h => ?_), F.bindsN fun _ _ _ _ _ _ us hl => match us, hl with | [_], _ => rfl⟩
  · obtain ⟨x, rfl, _⟩ := h
    rfl
  · obtain ⟨v, rfl, kn, k⟩ := h
    refine ⟨_, (pss_cons (ps_if (PW.pt (pw_or (pt_not (pt_val (pe_callB call_isi (by rfl) (n_isinstance T) (by decide +kernel) (pa_cons (pv 0) (pa_cons (pe_bltn (v := .ty "str") (by rfl) (n_str T) (by decide +kernel) rfl) pa_nil))))) (pw_or1 (pt_not (pt_chain op_le op_le pe_int (pe_callB call_len_str (by rfl) (n_len T) (by decide +kernel) (pa_cons (pv 0) pa_nil)) (pe_glob (v := .int 8) rfl hNL ⟨_, rfl⟩)))))) (pss_one (ps_ret pe_bl)) pss_nil)
      (pss_one (ps_ret (pe_callB (cr_all rfl) (by rfl) (n_all T) (by decide +kernel) (pa_cons (pe_lc (own := [("letter", 1)]) (g := gName 1) (tt := tYes) (by rfl) sc_is_name.nd (pi_str (pv 0)) (blkOk_by (own := [("letter", 1)]) (N := ["value", "letter"]) (sc := defScope s_is_name) (by decide +kernel)) (fun _ _ _ _ _ => pg_name (i := 1) sc_is_name.nd rfl (Or.inl rfl)) (fun _ _ _ _ _ => pts_nil) (fun _ _ _ _ _ => (pe_cmpR op_in_sign (pv 1) (pe_glob (v := .str "abcdefghijklmnopqrstuvwxyz") rfl hLT ⟨_, rfl⟩) rfl))) pa_nil))))), ?_⟩
    obtain ⟨t, ht, kt⟩ := isT_str (K := K) kn
    refine ⟨_, rfl, _, _, _, _, _, rfl, .ty "str", ht, kt, _, rfl, ?_⟩
    have other : isT "str" v H = false → nmV v = false := fun e => by
      cases kn with
      | str x h => cases e
      | _ => rfl
    cases q : isT "str" v H with
    | false =>
      have e := k H (Same.refl H)
      rw [other q] at e
      exact iteT e
    | true =>
      cases kn with
      | str x hx0 =>
        have k : ∀ H', Same H H' → Q (.bl (nameB x)) H' := k
        have hx : x.length ≤ sizeLine := Nat.le_trans hx0 (by decide)
        refine iteF ?_
        refine ⟨_, rfl, _, rfl, hx, _, _, rfl, rfl, _, rfl, ?_⟩
        have fin : nameB x = false → Q (.bl false) H := fun e => by
          have q := k H (Same.refl H)
          rw [e] at q
          exact q
        refine ite2 (fun h1 => ?_) (fun h1 => ?_)
        · have h1' : 1 ≤ x.length := by
            have z := of_decide_eq_true h1
            omega
          refine ⟨_, _, rfl, rfl, _, rfl, ?_⟩
          by_cases h2 : x.length ≤ 8
          · have e2 : decide (((x.length : Nat) : Int) ≤ 8) = true := decide_eq_true (by omega)
            rw [e2]
            refine iteF ?_
            refine ⟨_, rfl, x, rfl, fun D hD => ?_⟩
            refine lc_it walk_str (fun i H' => Same H H' ∧ H' D = some (.lst ((x.cps.toList.take i).map fun c => V.bl (isLow c)))) ⟨fun b o e => by rw [upd_ne (ne_of_none e hD)]; exact e, upd_same⟩ (fun _ _ _ _ => trivial) ?_ ?_
            · rintro i v H1 H2 hi ⟨s1, d1⟩ ⟨rfl, c, hc, rfl⟩
              refine ⟨rfl, ⟨_, rfl, c, _, rfl, rfl, _, d1, ?_, fun b o e => by rw [upd_ne (ne_of_none e hD)]; exact s1 b o e, ?_⟩⟩
              · rw [List.length_map, List.length_take]
                have z : (8 : Nat) < sizeLine := by decide
                have z2 : x.cps.toList.length = x.length := rfl
                omega
              · rw [upd_same, low_in, List.take_succ, List.map_append]
                have e : x.cps.toList[i]? = some c := by simpa using hc
                rw [e]
                rfl
            · rintro H1 ⟨s1, d1⟩
              refine ⟨D, x.cps.toList.map isLow, rfl, SqL.of ?_, ?_⟩
              · have e : x.cps.toList.take x.cps.size = x.cps.toList := List.take_of_length_le (Nat.le_of_eq (by simp))
                rw [d1, e, List.map_map]
                rfl
              · have e : nameB x = ((x.cps.toList.map isLow).all id) := by
                  unfold nameB
                  rw [decide_eq_true h1', decide_eq_true h2]
                  simp
                rw [← e]
                exact k _ s1
          · have e2 : decide (((x.length : Nat) : Int) ≤ 8) = false := decide_eq_false (by omega)
            rw [e2]
            refine iteT (fin ?_)
            unfold nameB
            rw [decide_eq_false h2]
            simp
        · refine ⟨_, rfl, iteT (fin ?_)⟩
          have h0 : ¬ 1 ≤ x.length := fun z => h1 (decide_eq_true (by omega))
          unfold nameB
          rw [decide_eq_false h0]
          rfl
      | _ => cases q
/-- an int that is no bool -/
def spIsInt : Sp := fun vs H Q _ => ∃ v : V, vs = [v] ∧ Kn H v ∧ Q (.bl (inV v)) H
theorem sc_is_integer : FnScope ["value"] ["value"] (defScope s_is_integer) := ⟨rfl, rfl, rfl, by decide +kernel, rfl, by decide +kernel, by decide +kernel⟩
theorem p_is_integer (T : Tx K mg) : Prom P w K mg base 1 d_is_integer ["value"] spIsInt := by
  obtain ⟨fd, F⟩ := f_is_integer T
  refine ⟨fd, F, F.ok sc_is_integer (fun vs H Q E h => ?_) (fun cdv A outer s H vs Q E hr h => ?_), F.bindsN fun _ _ _ _ _ _ us hl => match us, hl with | [_], _ => rfl⟩
  · obtain ⟨x, rfl, _⟩ := h
    rfl
  · obtain ⟨v, rfl, kn, k⟩ := h
    refine ⟨_, (pss_one (ps_ret (pe_and (pe_callB call_isi (by rfl) (n_isinstance T) (by decide +kernel) (pa_cons (pv 0) (pa_cons (pe_bltn (v := .ty "int") (by rfl) (n_int T) (by decide +kernel) rfl) pa_nil))) (pe_one (pe_not (pe_callB call_isi (by rfl) (n_isinstance T) (by decide +kernel) (pa_cons (pv 0) (pa_cons (pe_bltn (v := .ty "bool") (by rfl) (n_bool T) (by decide +kernel) rfl) pa_nil)))))))), ?_⟩
    obtain ⟨t, ht, kt⟩ := isT_int (K := K) kn
    obtain ⟨t2, ht2, kt2⟩ := isT_bool (K := K) kn
    refine ⟨_, rfl, _, _, _, _, _, rfl, .ty "int", ht, kt, _, rfl, ?_⟩
    cases kn with
    | int i =>
      refine iteT ⟨_, rfl, _, _, _, _, _, rfl, .ty "bool", ht2, kt2, _, rfl, ?_⟩
      exact k
    | bl b =>
      refine iteT ⟨_, rfl, _, _, _, _, _, rfl, .ty "bool", ht2, kt2, _, rfl, ?_⟩
      exact k
    | str x h => exact iteF k
    | non => exact iteF k
    | tup h => exact iteF k
    | lst h => exact iteF k
    | dct h => exact iteF k
def spIsPrice : Sp := fun vs H Q _ => ∃ v : V, vs = [v] ∧ Kn H v ∧ Q (.bl (pyV v)) H
theorem sc_is_price : FnScope ["value"] ["value"] (defScope s_is_price) := ⟨rfl, rfl, rfl, by decide +kernel, rfl, by decide +kernel, by decide +kernel⟩
theorem p_is_price (T : Tx K mg) : Prom P w K mg base 2 d_is_price ["value"] spIsPrice := by
  obtain ⟨fd, F⟩ := f_is_price T
  obtain ⟨fdI, FI, GI, BI⟩ := p_is_integer (P := P) (w := w) (base := base) T
  obtain ⟨tGP, hGP⟩ := i_GREATEST_PRICE T (v := 999999999999) rfl rfl
  refine ⟨fd, F, F.ok sc_is_price (fun vs H Q E h => ?_) (fun cdv A outer s H vs Q E hr h => ?_), F.bindsN fun _ _ _ _ _ _ us hl => match us, hl with | [_], _ => rfl⟩
  · obtain ⟨x, rfl, _⟩ := h
    rfl
  · obtain ⟨v, rfl, kn, k⟩ := h
    refine ⟨_, (pss_one (ps_ret (pe_and (pe_call GI hr rfl (g_is_integer T) FI.kp BI .nil pass0 (pa_cons (pv 0) pa_nil)) (pe_one (pe_chain op_le op_le (pe_un un_neg (pe_glob (v := .int 999999999999) rfl hGP ⟨_, rfl⟩)) (pv 0) (pe_glob (v := .int 999999999999) rfl hGP ⟨_, rfl⟩)))))), ?_⟩
    refine ⟨_, rfl, v, rfl, kn, _, rfl, ?_⟩
    cases kn with
    | int x =>
      refine iteT ⟨_, rfl, _, rfl, _, _, rfl, rfl, _, rfl, ?_⟩
      by_cases h1 : (-999999999999 : Int) ≤ x
      · rw [decide_eq_true h1]
        refine iteT ⟨_, _, rfl, rfl, ?_⟩
        have e : pyV (.int x) = decide (x ≤ (999999999999 : Int)) := by
          show decide (priceOk x) = _
          by_cases h2 : x ≤ 999999999999
          · rw [decide_eq_true h2, decide_eq_true ⟨h1, h2⟩]
          · rw [decide_eq_false h2, decide_eq_false fun z => h2 z.2]
        rw [e] at k
        exact k
      · rw [decide_eq_false h1]
        have e : pyV (.int x) = false := decide_eq_false fun z => h1 z.1
        rw [e] at k
        exact iteF k
    | bl b => exact iteF k
    | str x h => exact iteF k
    | non => exact iteF k
    | tup h => exact iteF k
    | lst h => exact iteF k
    | dct h => exact iteF k
end
end K06
namespace K06
open PySem PySem.Spec PyProof.Rows L2 Hx Gx
/-- an error that is made and raised: the heap behind it -/
theorem raised_same {H : Hp} {a dx : Addr} {o1 o2 o3 o4 : HO} (na : H a = none) (nd : H dx = none) : Same H (upd (L2.del (upd (upd (upd H a o1) dx o2) a o3) a) dx o4) := fun b o e => by
  have b1 := ne_of_none e na
  have b2 := ne_of_none e nd
  rw [upd_ne b2, L2.del_ne b1, upd_ne b1, upd_ne b2, upd_ne b1]
  exact e
theorem nmV_str {v : V} (h : nmV v = true) : ∃ x, v = .str x ∧ nameB x = true := by
  cases v with
  | str x => exact ⟨x, rfl, h⟩
  | _ => cases h
theorem pyV_int {v : V} (h : pyV v = true) : ∃ i, v = .int i ∧ priceOk i := by
  cases v with
  | int i => exact ⟨i, rfl, of_decide_eq_true h⟩
  | _ => cases h
/-- what is wrong of a street's name and ends -/
def dueS (x a b : V) : Option Str :=
  if nmV x = true then (if nmV a = true then (if nmV b = true then (if a = b then some "same" else none) else some "end") else some "end") else some "name"
def dueP (t b : V) : Option V := if pyV t = true then (if pyV b = true then none else some b) else some t
theorem dueS_none {x a b : V} (h : dueS x a b = none) : ∃ u v w, x = .str u ∧ a = .str v ∧ b = .str w := by
  unfold dueS at h
  split at h
  · rename_i h1
    split at h
    · rename_i h2
      split at h
      · rename_i h3
        obtain ⟨u, e1, _⟩ := nmV_str h1
        obtain ⟨v, e2, _⟩ := nmV_str h2
        obtain ⟨w, e3, _⟩ := nmV_str h3
        exact ⟨u, v, w, e1, e2, e3⟩
      · cases h
    · cases h
  · cases h
section
variable {P : Program} {w : World} {K : PySem.W.Frag} {mg : Str → Option Value} {base : Heap}
/-- an error's __init__: its one field -/
def spErr (K : PySem.W.Frag) (C f : Str) : Sp := fun vs H Q _ => ∃ (a : Addr) (v : V), vs = [.ref a, v] ∧ H a = some (exo a (He.ga K C) none) ∧ ∀ dx, H dx = none → dx ≠ a → Q .non (upd (upd H dx (exd dx [(f, v)])) a (exo a (He.ga K C) (some dx)))
theorem sc_BadStreet_init : FnScope ["self", "part"] ["self", "part"] (defScope s_BadStreet_init) := ⟨rfl, rfl, rfl, by decide +kernel, rfl, by decide +kernel, by decide +kernel⟩
theorem p_BadStreet_init (T : Tx K mg) : Prom P w K mg base 1 d_BadStreet_init ["self", "part"] (spErr K "BadStreet" "part") := by
  obtain ⟨fd, F⟩ := f_BadStreet_init T
  refine ⟨fd, F, F.ok sc_BadStreet_init (fun vs H Q E h => ?_) (fun cdv A outer s H vs Q E hr h => ?_), F.bindsN fun _ _ _ _ _ _ us hl => match us, hl with | [_, _], _ => rfl⟩
  · obtain ⟨a, v, rfl, _⟩ := h
    rfl
  · obtain ⟨a, v, rfl, ha, k⟩ := h
    refine ⟨_, pss_one (ps_ost (pv 0) (pv 1)), ?_⟩
    exact ⟨_, rfl, _, rfl, a, _, rfl, (er_BadStreet T).o, xn_BadStreet_part T, .inl ⟨ha, fun dx n ne => k dx n ne⟩⟩
theorem sc_BadPrice_init : FnScope ["self", "value"] ["self", "value"] (defScope s_BadPrice_init) := ⟨rfl, rfl, rfl, by decide +kernel, rfl, by decide +kernel, by decide +kernel⟩
theorem p_BadPrice_init (T : Tx K mg) : Prom P w K mg base 1 d_BadPrice_init ["self", "value"] (spErr K "BadPrice" "value") := by
  obtain ⟨fd, F⟩ := f_BadPrice_init T
  refine ⟨fd, F, F.ok sc_BadPrice_init (fun vs H Q E h => ?_) (fun cdv A outer s H vs Q E hr h => ?_), F.bindsN fun _ _ _ _ _ _ us hl => match us, hl with | [_, _], _ => rfl⟩
  · obtain ⟨a, v, rfl, _⟩ := h
    rfl
  · obtain ⟨a, v, rfl, ha, k⟩ := h
    refine ⟨_, pss_one (ps_ost (pv 0) (pv 1)), ?_⟩
    exact ⟨_, rfl, _, rfl, a, _, rfl, (er_BadPrice T).o, xn_BadPrice_value T, .inl ⟨ha, fun dx n ne => k dx n ne⟩⟩
/-- an error with one field was raised -/
def Out (K : PySem.W.Frag) (C f : Str) (v : V) (H : Hp) (E : XK) : Prop := ∀ (H' : Hp) (d : Addr), Same H H' → H' d = some (.xd [(f, v)]) → E (.ref (He.ga K C)) (some d) H'
theorem Out.of {C f : Str} {v : V} {H H1 : Hp} {E : XK} (o : Out K C f v H E) (s : Same H H1) : Out K C f v H1 E := fun H' d h1 h2 => o H' d (s.trans h1) h2
/-- the reading of raise C(v), over the promise of C's __init__ -/
theorem raise_out {C f : Str} {v : V} {H : Hp} {E : XK} {σ : L2.St} (k : Out K C f v H E) : [v].length ≤ 1000 ∧ ∀ a, H a = none → spErr K C f (.ref a :: ([v] ++ [])) (upd H a (exo a (He.ga K C) none))
    (fun u H2 => u = .non ∧ ∃ (d : Addr) (fs : List (Str × V)), H2 a = some (exo a (He.ga K C) (some d)) ∧ H2 d = some (exd d fs) ∧ H d = none ∧ E (.ref (He.ga K C)) (some d) (upd (L2.del H2 a) d (.xd fs))) (fun _ _ _ => False) := by
  refine ⟨(by show 1 ≤ 1000; decide), fun a na => ⟨a, v, rfl, upd_same, fun dx nd ne => ⟨rfl, dx, [(f, v)], upd_same, ?_, ?_, ?_⟩⟩⟩
  · rw [upd_ne ne, upd_same]
  · rw [upd_ne ne] at nd
    exact nd
  · rw [upd_ne ne] at nd
    exact k _ dx (raised_same na nd) upd_same
def spChS (K : PySem.W.Frag) : Sp := fun vs H Q E => ∃ x a b : V, vs = [x, a, b] ∧ Kn H x ∧ Kn H a ∧ Kn H b ∧ (dueS x a b = none → ∀ H', Same H H' → Q .non H') ∧ (∀ p, dueS x a b = some p → Out K "BadStreet" "part" (.str p) H E)
theorem sc_check_street : FnScope ["name", "one", "other"] ["name", "one", "other"] (defScope s_check_street) := ⟨rfl, rfl, rfl, by decide +kernel, rfl, by decide +kernel, by decide +kernel⟩
/-- a def's promise, with how it is called; errors may leave it -/
def PromX (P : Program) (w : World) (K : PySem.W.Frag) (mg : Str → Option Value) (base : Heap) (k : Nat) (d : Dx) (ps : List Str) (sp : Sp) : Prop :=
  ∃ fd, Fd K d fd ∧ FnOk P w K mg base (L2.CX P w) k (d.adr K) fd ps sp ∧ Binds K fd ps []
theorem p_check_street (T : Tx K mg) : PromX P w K mg base 3 d_check_street ["name", "one", "other"] (spChS K) := by
  obtain ⟨fd, F⟩ := f_check_street T
  obtain ⟨fdN, FN, GN, BN⟩ := p_is_name (P := P) (w := w) (base := base) T
  obtain ⟨fdE, FE, GE, BE⟩ := p_BadStreet_init (P := P) (w := w) (base := base) T
  refine ⟨fd, F, F.ok sc_check_street (fun vs H Q E h => ?_) (fun cdv A outer s H vs Q E hr h => ?_), F.bindsN fun _ _ _ _ _ _ us hl => match us, hl with | [_, _, _], _ => rfl⟩
  · obtain ⟨x, a, b, rfl, _⟩ := h
    rfl
  · obtain ⟨x, a, b, rfl, kx, ka, kb, k, kE⟩ := h
    have hr1 := hr.mono (show 1 ≤ 2 by decide)
    refine ⟨_, (pss_cons (ps_if (pt_not (pt_val (pe_call GN hr1 rfl (g_is_name T) FN.kp BN .nil pass0 (pa_cons (pv 0) pa_nil)))) (pss_one (ps_raise rfl (takes_of rfl rfl rfl rfl) (pmk_oex (er_BadStreet T).o (in_BadStreet T).1 (in_BadStreet T).2 GE hr BE .nil pass0 rfl (g_BadStreet T) (pa_cons pe_str pa_nil)))) pss_nil)
      (pss_cons (ps_if (PW.pt (pw_or (pt_not (pt_val (pe_call GN hr1 rfl (g_is_name T) FN.kp BN .nil pass0 (pa_cons (pv 1) pa_nil)))) (pw_or1 (pt_not (pt_val (pe_call GN hr1 rfl (g_is_name T) FN.kp BN .nil pass0 (pa_cons (pv 2) pa_nil))))))) (pss_one (ps_raise rfl (takes_of rfl rfl rfl rfl) (pmk_oex (er_BadStreet T).o (in_BadStreet T).1 (in_BadStreet T).2 GE hr BE .nil pass0 rfl (g_BadStreet T) (pa_cons pe_str pa_nil)))) pss_nil)
      (pss_one (ps_if (pt_cmpR op_eq (pv 1) (pv 2) (nomark _)) (pss_one (ps_raise rfl (takes_of rfl rfl rfl rfl) (pmk_oex (er_BadStreet T).o (in_BadStreet T).1 (in_BadStreet T).2 GE hr BE .nil pass0 rfl (g_BadStreet T) (pa_cons pe_str pa_nil)))) pss_nil)))), ?_⟩
    refine ⟨_, rfl, x, rfl, kx, fun H1 s1 => ?_⟩
    refine ⟨_, rfl, ?_⟩
    unfold dueS at k kE
    cases hx : nmV x with
    | false =>
      rw [hx, if_neg Bool.false_ne_true] at kE
      exact iteT (raise_out (σ := []) ((kE _ rfl).of s1))
    | true =>
      rw [hx, if_pos rfl] at k kE
      refine iteF ⟨_, rfl, a, rfl, ka.same s1, fun H2 s2 => ⟨_, rfl, ?_⟩⟩
      have s12 := s1.trans s2
      cases ha : nmV a with
      | false =>
        rw [ha, if_neg Bool.false_ne_true] at kE
        exact iteT (raise_out (σ := []) ((kE _ rfl).of s12))
      | true =>
        rw [ha, if_pos rfl] at k kE
        refine iteF ⟨_, rfl, b, rfl, kb.same s12, fun H3 s3 => ⟨_, rfl, ?_⟩⟩
        have s13 := s12.trans s3
        cases hb : nmV b with
        | false =>
          rw [hb, if_neg Bool.false_ne_true] at kE
          exact iteT (raise_out (σ := []) ((kE _ rfl).of s13))
        | true =>
          rw [hb, if_pos rfl] at k kE
          obtain ⟨u, rfl, _⟩ := nmV_str ha
          obtain ⟨v, rfl, _⟩ := nmV_str hb
          refine iteF ⟨_, rfl, _, rfl, rfl, _, rfl, ?_⟩
          by_cases e : V.str u = V.str v
          · rw [if_pos e] at kE
            rw [decide_eq_true e]
            exact iteT (raise_out (σ := []) ((kE _ rfl).of s13))
          · rw [if_neg e] at k
            rw [decide_eq_false e]
            exact iteF (k rfl _ s13)
def spChP (K : PySem.W.Frag) : Sp := fun vs H Q E => ∃ t b : V, vs = [t, b] ∧ Kn H t ∧ Kn H b ∧ (dueP t b = none → ∀ H', Same H H' → Q .non H') ∧ (∀ v, dueP t b = some v → Out K "BadPrice" "value" v H E)
theorem sc_check_prices : FnScope ["there", "back", "price"] ["there", "back"] (defScope s_check_prices) := ⟨rfl, rfl, rfl, by decide +kernel, rfl, by decide +kernel, by decide +kernel⟩
theorem p_check_prices (T : Tx K mg) : PromX P w K mg base 3 d_check_prices ["there", "back"] (spChP K) := by
  obtain ⟨fd, F⟩ := f_check_prices T
  obtain ⟨fdP, FP, GP, BP⟩ := p_is_price (P := P) (w := w) (base := base) T
  obtain ⟨fdE, FE, GE, BE⟩ := p_BadPrice_init (P := P) (w := w) (base := base) T
  refine ⟨fd, F, F.ok sc_check_prices (fun vs H Q E h => ?_) (fun cdv A outer s H vs Q E hr h => ?_), F.bindsN fun _ _ _ _ _ _ us hl => match us, hl with | [_, _], _ => rfl⟩
  · obtain ⟨i, j, rfl, _⟩ := h
    rfl
  · obtain ⟨i, j, rfl, hi, hj, k, kE⟩ := h
    refine ⟨_, (pss_one (ps_for (passes_of rfl) rfl (pi_tup (pe_tup (pa_cons (pv 0) (pa_cons (pv 1) pa_nil)))) (pg_name (i := 2) sc_check_prices.nd rfl (Or.inl rfl)) (pss_one (ps_if (pt_not (pt_val (pe_call GP hr rfl (g_is_price T) FP.kp BP .nil pass0 (pa_cons (pv 2) pa_nil)))) (pss_one (ps_raise rfl (takes_of rfl rfl rfl rfl) (pmk_oex (er_BadPrice T).o (in_BadPrice T).1 (in_BadPrice T).2 GE hr BE .nil pass0 rfl (g_BadPrice T) (pa_cons (pv 2) pa_nil)))) pss_nil)))), ?_⟩
    refine ⟨_, rfl, _, rfl, (by show 2 ≤ sizeLine; decide), fun t ht => ⟨t, rfl, ⟨[i, j], SqT.of upd_same⟩, ?_⟩⟩
    unfold dueP at k kE
    refine for_tup (K := K) (a := t) (xs := [i, j]) (fun n σ H' => Same H H' ∧ H' t = some (.tup [i, j]) ∧ (n = 1 → pyV i = true) ∧ (n = 2 → pyV i = true ∧ pyV j = true) ∧ ∃ v, σ = [some i, some j, v]) ⟨fun b o e => by rw [upd_ne (ne_of_none e ht)]; exact e, upd_same, (fun z => by cases z), (fun z => by cases z), none, rfl⟩ (fun n σ H' _ z => SqT.of z.2.1) ?_ ?_
    · rintro n x σ H' hn ⟨s1, h1, p1, p2, v, rfl⟩
      match n, hn with
      | 0, hn =>
        cases hn
        refine ⟨_, rfl, i, rfl, hi.same s1, _, rfl, ?_⟩
        cases q : pyV i with
        | false =>
          rw [q, if_neg Bool.false_ne_true] at kE
          exact iteT ⟨_, rfl, raise_out (σ := []) ((kE _ rfl).of s1)⟩
        | true => exact iteF ⟨s1, h1, (fun _ => rfl), (fun z => by cases z), _, rfl⟩
      | 1, hn =>
        cases hn
        refine ⟨_, rfl, j, rfl, hj.same s1, _, rfl, ?_⟩
        have q0 := p1 rfl
        rw [q0, if_pos rfl] at kE
        cases q : pyV j with
        | false =>
          rw [q, if_neg Bool.false_ne_true] at kE
          exact iteT ⟨_, rfl, raise_out (σ := []) ((kE _ rfl).of s1)⟩
        | true => exact iteF ⟨s1, h1, (fun z => by cases z), (fun _ => ⟨q0, rfl⟩), _, rfl⟩
      | n + 2, hn => cases hn
    · rintro σ H' ⟨s1, _, _, p2, _⟩
      obtain ⟨q1, q2⟩ := p2 rfl
      rw [q1, q2, if_pos rfl, if_pos rfl] at k
      exact k rfl _ s1
end
end K06
namespace K06
open PySem PySem.Spec PyProof.Rows L2 Hx Gx
theorem putF_len (k : Str) (v : V) (l : List (Str × V)) : (putF k v l).length ≤ l.length + 1 := by
  induction l with
  | nil => exact Nat.le_refl _
  | cons p l ih =>
    obtain ⟨g, y⟩ := p
    unfold putF
    split
    · exact Nat.le_succ _
    · simp only [List.length_cons]
      omega
section
variable {P : Program} {w : World} {K : PySem.W.Frag} {mg : Str → Option Value} {base : Heap}
/-- an __init__ of three parts: made, or refused -/
def spI3 (K : PySem.W.Frag) (C : Str) : Sp := fun vs H Q E => ∃ (x dx : Addr) (t a b : V), vs = [.ref x, t, a, b] ∧ Kn H t ∧ Kn H a ∧ Kn H b ∧ H x = some (.ins (He.ga K C) dx []) ∧
  (dueS t a b = none → ∀ H' : Hp, But x H H' → Q .non H') ∧ (∀ p, dueS t a b = some p → Out K "BadStreet" "part" (.str p) H E)
theorem sc_Lane_init : FnScope ["self", "name", "start", "goal"] ["self", "name", "start", "goal"] (defScope s_Lane_init) := ⟨rfl, rfl, rfl, by decide +kernel, rfl, by decide +kernel, by decide +kernel⟩
theorem But.upd {x : Addr} {H H1 : Hp} {o : HO} (b : But x H H1) : But x H (upd H1 x o) := fun c u n e => by rw [upd_ne n]; exact b c u n e
theorem p_Lane_init (T : Tx K mg) : PromX P w K mg base 4 d_Lane_init ["self", "name", "start", "goal"] (spI3 K "Lane") := by
  obtain ⟨fd, F⟩ := f_Lane_init T
  obtain ⟨fdC, FC, GC, BC⟩ := p_check_street (P := P) (w := w) (base := base) T
  refine ⟨fd, F, F.ok sc_Lane_init (fun vs H Q E h => ?_) (fun cdv A outer s H vs Q E hr h => ?_), F.bindsN fun _ _ _ _ _ _ us hl => match us, hl with | [_, _, _, _], _ => rfl⟩
  · obtain ⟨x, dx, t, a, b, rfl, _⟩ := h
    rfl
  · obtain ⟨x, dx, t, a, b, rfl, kt, ka, kb, hx, k, kE⟩ := h
    refine ⟨_, (pss_cons (ps_expr (pe_call GC hr rfl (g_check_street T) FC.kp BC .nil (passes_call (takes_of rfl rfl rfl rfl) (fun _ _ _ _ h => h)) (pa_cons (pv 1) (pa_cons (pv 2) (pa_cons (pv 3) pa_nil)))))
      (pss_cons (ps_fld (pv 0) (pv 1) rfl)
      (pss_cons (ps_fld (pv 0) (pv 2) rfl)
      (pss_one (ps_fld (pv 0) (pv 3) rfl))))), ?_⟩
    refine ⟨_, rfl, _, rfl, _, rfl, t, a, b, rfl, kt, ka, kb, fun e0 H1 s1 => ?_, kE⟩
    refine ⟨_, rfl, _, rfl, x, _, dx, _, rfl, s1 _ _ hx, c_Lane T, na_Lane_name T, (by show 0 < 1000; decide), ?_⟩
    refine ⟨_, rfl, _, rfl, x, _, dx, _, rfl, upd_same, c_Lane T, na_Lane_start T, (by have := putF_len "name" t []; simp only [List.length_nil] at this; omega), ?_⟩
    refine ⟨_, rfl, _, rfl, x, _, dx, _, rfl, upd_same, c_Lane T, na_Lane_goal T, (by have h1 := putF_len "name" t []; have h2 := putF_len "start" a (putF "name" t []); simp only [List.length_nil] at h1; omega), ?_⟩
    exact k e0 _ (((But.of s1).upd).upd).upd
theorem sc_Avenue_init : FnScope ["self", "name", "one", "other"] ["self", "name", "one", "other"] (defScope s_Avenue_init) := ⟨rfl, rfl, rfl, by decide +kernel, rfl, by decide +kernel, by decide +kernel⟩
theorem p_Avenue_init (T : Tx K mg) : PromX P w K mg base 4 d_Avenue_init ["self", "name", "one", "other"] (spI3 K "Avenue") := by
  obtain ⟨fd, F⟩ := f_Avenue_init T
  obtain ⟨fdC, FC, GC, BC⟩ := p_check_street (P := P) (w := w) (base := base) T
  refine ⟨fd, F, F.ok sc_Avenue_init (fun vs H Q E h => ?_) (fun cdv A outer s H vs Q E hr h => ?_), F.bindsN fun _ _ _ _ _ _ us hl => match us, hl with | [_, _, _, _], _ => rfl⟩
  · obtain ⟨x, dx, t, a, b, rfl, _⟩ := h
    rfl
  · obtain ⟨x, dx, t, a, b, rfl, kt, ka, kb, hx, k, kE⟩ := h
    refine ⟨_, (pss_cons (ps_expr (pe_call GC hr rfl (g_check_street T) FC.kp BC .nil (passes_call (takes_of rfl rfl rfl rfl) (fun _ _ _ _ h => h)) (pa_cons (pv 1) (pa_cons (pv 2) (pa_cons (pv 3) pa_nil)))))
      (pss_cons (ps_fld (pv 0) (pv 1) rfl)
      (pss_cons (ps_fld (pv 0) (pe_ifExp (pt_cmpR op_lt_str (pv 2) (pv 3) (nomark _)) (pv 2) (pv 3)) rfl)
      (pss_one (ps_fld (pv 0) (pe_ifExp (pt_cmpR op_lt_str (pv 2) (pv 3) (nomark _)) (pv 3) (pv 2)) rfl))))), ?_⟩
    refine ⟨_, rfl, _, rfl, _, rfl, t, a, b, rfl, kt, ka, kb, fun e0 H1 s1 => ?_, kE⟩
    obtain ⟨t, a, b, rfl, rfl, rfl⟩ := dueS_none e0
    refine ⟨_, rfl, _, rfl, x, _, dx, _, rfl, s1 _ _ hx, c_Avenue T, na_Avenue_name T, (by show 0 < 1000; decide), ?_⟩
    refine ⟨_, rfl, _, rfl, _, _, rfl, rfl, _, rfl, ?_⟩
    have l1 := putF_len "name" (.str t) []
    refine ite2 (fun h => ?_) (fun h => ?_)
    · refine ⟨_, rfl, _, rfl, x, _, dx, _, rfl, upd_same, c_Avenue T, na_Avenue_one T, (by simp only [List.length_nil] at l1; omega), ?_⟩
      refine ⟨_, rfl, _, rfl, _, _, rfl, rfl, _, rfl, ?_⟩
      rw [h]
      refine iteT ⟨_, rfl, _, rfl, x, _, dx, _, rfl, upd_same, c_Avenue T, na_Avenue_other T, (by have h2 := putF_len "one" (.str a) (putF "name" (.str t) []); simp only [List.length_nil] at l1; omega), ?_⟩
      exact k e0 _ (((But.of s1).upd).upd).upd
    · have h := Bool.eq_false_iff.mpr h
      refine ⟨_, rfl, _, rfl, x, _, dx, _, rfl, upd_same, c_Avenue T, na_Avenue_one T, (by simp only [List.length_nil] at l1; omega), ?_⟩
      refine ⟨_, rfl, _, rfl, _, _, rfl, rfl, _, rfl, ?_⟩
      rw [h]
      refine iteF ⟨_, rfl, _, rfl, x, _, dx, _, rfl, upd_same, c_Avenue T, na_Avenue_other T, (by have h2 := putF_len "one" (.str b) (putF "name" (.str t) []); simp only [List.length_nil] at l1; omega), ?_⟩
      exact k e0 _ (((But.of s1).upd).upd).upd
/-- a road's __init__ -/
def spI5 (K : PySem.W.Frag) : Sp := fun vs H Q E => ∃ (x dx : Addr) (t a b i j : V), vs = [.ref x, t, a, b, i, j] ∧ Kn H t ∧ Kn H a ∧ Kn H b ∧ Kn H i ∧ Kn H j ∧ H x = some (.ins (He.ga K "Road") dx []) ∧
  (dueS t a b = none → dueP i j = none → ∀ H' : Hp, But x H H' → Q .non H') ∧ (∀ p, dueS t a b = some p → Out K "BadStreet" "part" (.str p) H E) ∧
  (dueS t a b = none → ∀ v, dueP i j = some v → Out K "BadPrice" "value" v H E)
theorem sc_Road_init : FnScope ["self", "name", "one", "other", "there", "back"] ["self", "name", "one", "other", "there", "back"] (defScope s_Road_init) := ⟨rfl, rfl, rfl, by decide +kernel, rfl, by decide +kernel, by decide +kernel⟩
theorem p_Road_init (T : Tx K mg) : ∃ fd, Fd K d_Road_init fd ∧ FnOk P w K mg base (L2.CX P w) 4 (d_Road_init.adr K) fd ["self", "name", "one", "other", "there", "back"] (spI5 K) := by
  obtain ⟨fd, F⟩ := f_Road_init T
  obtain ⟨fdC, FC, GC, BC⟩ := p_check_street (P := P) (w := w) (base := base) T
  obtain ⟨fdQ, FQ, GQ, BQ⟩ := p_check_prices (P := P) (w := w) (base := base) T
  refine ⟨fd, F, F.ok sc_Road_init (fun vs H Q E h => ?_) (fun cdv A outer s H vs Q E hr h => ?_)⟩
  · obtain ⟨x, dx, t, a, b, i, j, rfl, _⟩ := h
    rfl
  · obtain ⟨x, dx, t, a, b, i, j, rfl, kt, ka, kb, ki, kj, hx, k, kE, kP⟩ := h
    refine ⟨_, (pss_cons (ps_expr (pe_call GC hr rfl (g_check_street T) FC.kp BC .nil (passes_call (takes_of rfl rfl rfl rfl) (fun _ _ _ _ h => h)) (pa_cons (pv 1) (pa_cons (pv 2) (pa_cons (pv 3) pa_nil)))))
      (pss_cons (ps_expr (pe_call GQ hr rfl (g_check_prices T) FQ.kp BQ .nil (passes_call (takes_of rfl rfl rfl rfl) (fun _ _ _ _ h => h)) (pa_cons (pv 4) (pa_cons (pv 5) pa_nil))))
      (pss_cons (ps_fld (pv 0) (pv 1) rfl)
      (pss_cons (ps_fld (pv 0) (pe_ifExp (pt_cmpR op_lt_str (pv 2) (pv 3) (nomark _)) (pv 2) (pv 3)) rfl)
      (pss_cons (ps_fld (pv 0) (pe_ifExp (pt_cmpR op_lt_str (pv 2) (pv 3) (nomark _)) (pv 3) (pv 2)) rfl)
      (pss_cons (ps_fld (pv 0) (pe_ifExp (pt_cmpR op_lt_str (pv 2) (pv 3) (nomark _)) (pv 4) (pv 5)) rfl)
      (pss_one (ps_fld (pv 0) (pe_ifExp (pt_cmpR op_lt_str (pv 2) (pv 3) (nomark _)) (pv 5) (pv 4)) rfl)))))))), ?_⟩
    refine ⟨_, rfl, _, rfl, _, rfl, t, a, b, rfl, kt, ka, kb, fun e0 H1 s1 => ?_, kE⟩
    obtain ⟨t, a, b, rfl, rfl, rfl⟩ := dueS_none e0
    refine ⟨_, rfl, _, rfl, i, j, rfl, ki.same s1, kj.same s1, fun e1 H2 s2 => ?_, fun v e => (kP e0 v e).of s1⟩
    have s12 := s1.trans s2
    refine ⟨_, rfl, _, rfl, x, _, dx, _, rfl, s12 _ _ hx, c_Road T, na_Road_name T, (by show 0 < 1000; decide), ?_⟩
    refine ⟨_, rfl, _, rfl, _, _, rfl, rfl, _, rfl, ?_⟩
    have l1 := putF_len "name" (.str t) []
    simp only [List.length_nil] at l1
    refine ite2 (fun h => ?_) (fun h => ?_)
    · refine ⟨_, rfl, _, rfl, x, _, dx, _, rfl, upd_same, c_Road T, na_Road_one T, (by omega), ?_⟩
      have l2 := putF_len "one" (.str a) (putF "name" (.str t) [])
      refine ⟨_, rfl, _, rfl, _, _, rfl, rfl, _, rfl, ?_⟩
      rw [h]
      refine iteT ⟨_, rfl, _, rfl, x, _, dx, _, rfl, upd_same, c_Road T, na_Road_other T, (by omega), ?_⟩
      have l3 := putF_len "other" (.str b) (putF "one" (.str a) (putF "name" (.str t) []))
      refine ⟨_, rfl, _, rfl, _, _, rfl, rfl, _, rfl, ?_⟩
      rw [h]
      refine iteT ⟨_, rfl, _, rfl, x, _, dx, _, rfl, upd_same, c_Road T, na_Road_there T, (by omega), ?_⟩
      have l4 := putF_len "there" i (putF "other" (.str b) (putF "one" (.str a) (putF "name" (.str t) [])))
      refine ⟨_, rfl, _, rfl, _, _, rfl, rfl, _, rfl, ?_⟩
      rw [h]
      refine iteT ⟨_, rfl, _, rfl, x, _, dx, _, rfl, upd_same, c_Road T, na_Road_back T, (by omega), ?_⟩
      exact k e0 e1 _ (((((But.of s12).upd).upd).upd).upd).upd
    · have h := Bool.eq_false_iff.mpr h
      refine ⟨_, rfl, _, rfl, x, _, dx, _, rfl, upd_same, c_Road T, na_Road_one T, (by omega), ?_⟩
      have l2 := putF_len "one" (.str b) (putF "name" (.str t) [])
      refine ⟨_, rfl, _, rfl, _, _, rfl, rfl, _, rfl, ?_⟩
      rw [h]
      refine iteF ⟨_, rfl, _, rfl, x, _, dx, _, rfl, upd_same, c_Road T, na_Road_other T, (by omega), ?_⟩
      have l3 := putF_len "other" (.str a) (putF "one" (.str b) (putF "name" (.str t) []))
      refine ⟨_, rfl, _, rfl, _, _, rfl, rfl, _, rfl, ?_⟩
      rw [h]
      refine iteF ⟨_, rfl, _, rfl, x, _, dx, _, rfl, upd_same, c_Road T, na_Road_there T, (by omega), ?_⟩
      have l4 := putF_len "there" j (putF "other" (.str a) (putF "one" (.str b) (putF "name" (.str t) [])))
      refine ⟨_, rfl, _, rfl, _, _, rfl, rfl, _, rfl, ?_⟩
      rw [h]
      refine iteF ⟨_, rfl, _, rfl, x, _, dx, _, rfl, upd_same, c_Road T, na_Road_back T, (by omega), ?_⟩
      exact k e0 e1 _ (((((But.of s12).upd).upd).upd).upd).upd
end
end K06
namespace K06
open PySem PySem.Spec PyProof.Rows L2 Hx Gx KX
/-- a drawn price: of a kind whose repr is known -/
inductive Pay (H : Hp) : V → Prop
  | one : Pay H (.str "1")
  | x : Pay H (.str "x")
  | int (i : Int) : i.natAbs ≤ 10 ^ 60 → Pay H (.int i)
  | non : Pay H .non
  | bl (b : Bool) : Pay H (.bl b)
  | tup {a : Addr} : H a = some (.tup [.int 1]) → Pay H (.ref a)
  | lst {a : Addr} : H a = some (.lst []) → Pay H (.ref a)
  | dct {a : Addr} : H a = some (.dK []) → Pay H (.ref a)
theorem Pay.same {H H' : Hp} {v : V} (k : Pay H v) (s : Same H H') : Pay H' v := by
  cases k with
  | one => exact .one
  | x => exact .x
  | int i h => exact .int i h
  | non => exact .non
  | bl b => exact .bl b
  | tup h => exact .tup (s _ _ h)
  | lst h => exact .lst (s _ _ h)
  | dct h => exact .dct (s _ _ h)
theorem Pay.kn {H : Hp} {v : V} (k : Pay H v) : Kn H v := by
  cases k with
  | one => exact .str _ (by decide +kernel)
  | x => exact .str _ (by decide +kernel)
  | int i h => exact .int i
  | non => exact .non
  | bl b => exact .bl b
  | tup h => exact .tup h
  | lst h => exact .lst h
  | dct h => exact .dct h
def rpO : Option HO → Str
  | some (.tup _) => (PyData.tuple [.int 1]).shown
  | some (.lst _) => (PyData.list []).shown
  | some (.dK _) => (PyData.dict []).shown
  | _ => ""
/-- the text of a drawn price -/
def rp (H : Hp) : V → Str
  | .non => "None"
  | .bl b => if b then "True" else "False"
  | .int i => Str.ofString (toString i)
  | .str x => reprText x
  | .ref a => rpO (H a)
  | _ => ""
theorem log_ok {i : Int} (h : i.natAbs ≤ 10 ^ 60) : i.natAbs.log2 < 1920 := by
  by_cases h0 : i.natAbs = 0
  · rw [h0]; decide
  · refine (Nat.log2_lt h0).mpr (Nat.lt_of_le_of_lt h ?_)
    exact Nat.lt_of_lt_of_le (show 10 ^ 60 < 2 ^ 200 by decide) (Nat.pow_le_pow_right (by decide) (by decide))
theorem Pay.rp {K : PySem.W.Frag} {H : Hp} {v : V} (k : Pay H v) : Rp K H v (rp H v) := by
  cases k with
  | one => exact .str _ (by decide +kernel)
  | x => exact .str _ (by decide +kernel)
  | int i h => exact .int i (log_ok h)
  | non => exact .non
  | bl b => exact .bl b
  | @tup a h =>
    have e : K06.rp H (.ref a) = (PyData.tuple [.int 1]).shown := by show rpO (H a) = _; rw [h]; rfl
    rw [e]
    exact .obj (.tup (SqT.of h) (.cons (.int 1) .nil)) (by decide) (by decide) (by decide) (by decide +kernel)
  | @lst a h =>
    have e : K06.rp H (.ref a) = (PyData.list []).shown := by show rpO (H a) = _; rw [h]; rfl
    rw [e]
    exact .obj (.lst (SqL.of h) .nil) (by decide) (by decide) (by decide) (by decide +kernel)
  | @dct a h =>
    have e : K06.rp H (.ref a) = (PyData.dict []).shown := by show rpO (H a) = _; rw [h]; rfl
    rw [e]
    exact .dict h
theorem Pay.rp_same {H H' : Hp} {v : V} (k : Pay H v) (s : Same H H') : K06.rp H' v = K06.rp H v := by
  cases k with
  | tup h => show rpO (H' _) = rpO (H _); rw [h, s _ _ h]
  | lst h => show rpO (H' _) = rpO (H _); rw [h, s _ _ h]
  | dct h => show rpO (H' _) = rpO (H _); rw [h, s _ _ h]
  | _ => rfl
theorem Pay.rp_len {H : Hp} {v : V} (k : Pay H v) : (K06.rp H v).length ≤ 1000 := by
  cases k with
  | one => exact (by decide +kernel : (reprText "1").length ≤ 1000)
  | x => exact (by decide +kernel : (reprText "x").length ≤ 1000)
  | int i h =>
    show (Str.ofString (toString i)).length ≤ 1000
    rw [PySem.ofString_length]
    refine Nat.le_trans (int_text_length_le (k := 200) (by decide) ?_) (by decide)
    by_cases h0 : i.natAbs = 0
    · rw [h0]; decide
    · exact (Nat.log2_lt h0).mpr (Nat.lt_of_le_of_lt h (by decide))
  | non => exact (by decide +kernel : ("None" : Str).length ≤ 1000)
  | bl b =>
    cases b with
    | true => exact (by decide +kernel : ("True" : Str).length ≤ 1000)
    | false => exact (by decide +kernel : ("False" : Str).length ≤ 1000)
  | @tup a h =>
    have e : K06.rp H (.ref a) = (PyData.tuple [.int 1]).shown := by show rpO (H a) = _; rw [h]; rfl
    rw [e]
    decide +kernel
  | @lst a h =>
    have e : K06.rp H (.ref a) = (PyData.list []).shown := by show rpO (H a) = _; rw [h]; rfl
    rw [e]
    decide +kernel
  | @dct a h =>
    have e : K06.rp H (.ref a) = (PyData.dict []).shown := by show rpO (H a) = _; rw [h]; rfl
    rw [e]
    decide +kernel
section
variable {P : Program} {w : World} {K : PySem.W.Frag} {mg : Str → Option Value} {base : Heap}
theorem sc_is_word : FnScope ["_law_thing", "_law_sign"] ["_law_thing"] (defScope s__law_is_word) := ⟨rfl, rfl, rfl, by decide +kernel, rfl, by decide +kernel, by decide +kernel⟩
theorem low_str : decide (∀ c ∈ ([] : List Nat), isLow c = true) = true := by decide
theorem filt_nil (l : List Nat) : decide (((l.filter fun c => !isLow c).map fun c => V.str ⟨#[c]⟩) = []) = l.all isLow := by
  induction l with
  | nil => rfl
  | cons c l ih =>
    rw [List.all_cons]
    cases q : isLow c with
    | true =>
      rw [List.filter_cons_of_neg (by rw [q]; decide), ih]
      rfl
    | false =>
      rw [List.filter_cons_of_pos (by rw [q]; rfl)]
      rfl
theorem p_is_word (T : Tx K mg) : Prom P w K mg base 1 d__law_is_word ["_law_thing"] spIsName := by
  obtain ⟨fd, F⟩ := f__law_is_word T
  refine ⟨fd, F, F.ok sc_is_word (fun vs H Q E h => ?_) (fun cdv A outer s H vs Q E hr h => ?_), F.bindsN fun _ _ _ _ _ _ us hl => match us, hl with | [_], _ => rfl⟩
  · obtain ⟨x, rfl, _⟩ := h
    rfl
  · obtain ⟨v, rfl, kn, k⟩ := h
    refine ⟨_, (pss_cons (ps_if (PW.pt (pw_or (pt_not (pt_val (pe_callB call_isi (by rfl) (n_isinstance T) (by decide +kernel) (pa_cons (pv 0) (pa_cons (pe_bltn (v := .ty "str") (by rfl) (n_str T) (by decide +kernel) rfl) pa_nil))))) (pw_or1 (pt_not (pt_chain op_le op_le pe_int (pe_callB call_len_str (by rfl) (n_len T) (by decide +kernel) (pa_cons (pv 0) pa_nil)) pe_int))))) (pss_one (ps_ret pe_bl)) pss_nil)
      (pss_one (ps_ret (pe_cmpR (op_eqE (hu64 hr)) (pe_lc (own := [("_law_sign", 1)]) (g := gName 1) (by rfl) sc_is_word.nd (pi_str (pv 0)) (blkOk_by (own := [("_law_sign", 1)]) (N := ["_law_thing", "_law_sign"]) (sc := defScope s__law_is_word) (by decide +kernel)) (fun _ _ _ _ _ => pg_name (i := 1) sc_is_word.nd rfl (Or.inl rfl)) (fun _ _ _ _ _ => (pts_one (pt_cmpR op_notIn_sign (pv 1) pe_str rfl))) (fun _ _ _ _ _ => (pv 1))) (pe_lst pa_nil) (nomark _))))), ?_⟩
    obtain ⟨t, ht, kt⟩ := isT_str (K := K) kn
    refine ⟨_, rfl, _, _, _, _, _, rfl, .ty "str", ht, kt, _, rfl, ?_⟩
    have other : isT "str" v H = false → nmV v = false := fun e => by
      cases kn with
      | str x h => cases e
      | _ => rfl
    cases q : isT "str" v H with
    | false =>
      have e := k H (Same.refl H)
      rw [other q] at e
      exact iteT e
    | true =>
      cases kn with
      | str x hx0 =>
        have k : ∀ H', Same H H' → Q (.bl (nameB x)) H' := k
        have hx : x.length ≤ sizeLine := Nat.le_trans hx0 (by decide)
        refine iteF ?_
        refine ⟨_, rfl, _, rfl, hx, _, _, rfl, rfl, _, rfl, ?_⟩
        have fin : nameB x = false → Q (.bl false) H := fun e => by
          have q := k H (Same.refl H)
          rw [e] at q
          exact q
        refine ite2 (fun h1 => ?_) (fun h1 => ?_)
        · have h1' : 1 ≤ x.length := by
            have z := of_decide_eq_true h1
            omega
          refine ⟨_, _, rfl, rfl, _, rfl, ?_⟩
          by_cases h2 : x.length ≤ 8
          · have e2 : decide (((x.length : Nat) : Int) ≤ 8) = true := decide_eq_true (by omega)
            rw [e2]
            refine iteF ?_
            refine ⟨_, rfl, x, rfl, fun D hD => ?_⟩
            refine lc_it walk_str (fun i H' => Same H H' ∧ H' D = some (.lst (((x.cps.toList.take i).filter fun c => !isLow c).map fun c => V.str ⟨#[c]⟩))) ⟨fun b o e => by rw [upd_ne (ne_of_none e hD)]; exact e, upd_same⟩ (fun _ _ _ _ => trivial) ?_ ?_
            · rintro i v H1 H2 hi ⟨s1, d1⟩ ⟨rfl, c, hc, rfl⟩
              have e : x.cps.toList[i]? = some c := by simpa using hc
              refine ⟨rfl, _, rfl, c, _, rfl, rfl, _, rfl, ?_⟩
              rw [low_in]
              cases q : isLow c with
              | true =>
                refine iteF ⟨s1, ?_⟩
                rw [d1, List.take_succ, e, List.filter_append]
                rw [show (some c).toList.filter (fun c => !isLow c) = [] from by rw [Option.toList_some, List.filter_cons_of_neg (by rw [q]; decide), List.filter_nil], List.append_nil]
              | false =>
                refine iteT ⟨_, rfl, _, d1, ?_, fun b o e => by rw [upd_ne (ne_of_none e hD)]; exact s1 b o e, ?_⟩
                · rw [List.length_map]
                  refine Nat.lt_of_le_of_lt (List.length_filter_le _ _) ?_
                  rw [List.length_take]
                  have z : (8 : Nat) < sizeLine := by decide
                  have z2 : x.cps.toList.length = x.length := rfl
                  omega
                · rw [upd_same, List.take_succ, e, List.filter_append]
                  rw [show (some c).toList.filter (fun c => !isLow c) = [c] from by rw [Option.toList_some, List.filter_cons_of_pos (by rw [q]; rfl), List.filter_nil], List.map_append]
                  rfl
            · rintro H1 ⟨s1, d1⟩
              refine ⟨by decide, fun l nl => ⟨D, l, _, rfl, rfl, SqL.of (by rw [upd_ne (ne_of_none d1 nl)]; exact d1), SqL.of upd_same, ?_⟩⟩
              have e : x.cps.toList.take x.cps.size = x.cps.toList := List.take_of_length_le (Nat.le_of_eq (by simp))
              rw [e, filt_nil]
              have e : nameB x = x.cps.toList.all isLow := by
                unfold nameB
                rw [decide_eq_true h1', decide_eq_true h2]
                simp
              rw [← e]
              exact k _ fun b o e => by rw [upd_ne (ne_of_none (s1 _ _ e) nl)]; exact s1 b o e
          · have e2 : decide (((x.length : Nat) : Int) ≤ 8) = false := decide_eq_false (by omega)
            rw [e2]
            refine iteT (fin ?_)
            unfold nameB
            rw [decide_eq_false h2]
            simp
        · refine ⟨_, rfl, iteT (fin ?_)⟩
          have h1' : ¬ 1 ≤ x.length := by
            intro z
            exact h1 (decide_eq_true (by omega))
          unfold nameB
          rw [decide_eq_false h1']
          rfl
      | _ => cases q
/-- the digits of a number that is not negative -/
theorem digits_lt (n : Nat) : decide (((Str.ofString (toString (n : Int))).length : Int) < 13) = decide (n < 10 ^ 12) := by
  have e : (Str.ofString (toString (n : Int))).length = n.repr.length := by
    rw [PySem.ofString_length]
    rfl
  rw [e]
  have z := Nat.length_repr_le_iff (n := n) (k := 12) (by decide)
  by_cases h : n < 10 ^ 12
  · rw [decide_eq_true h]
    exact decide_eq_true (by have := z.mpr h; omega)
  · rw [decide_eq_false h]
    exact decide_eq_false (fun q => h (z.mp (by omega)))
def spIsPay : Sp := fun vs H Q _ => ∃ v : V, vs = [v] ∧ Pay H v ∧ Q (.bl (pyV v)) H
theorem sc_is_pay : FnScope ["_law_thing"] ["_law_thing"] (defScope s__law_is_pay) := ⟨rfl, rfl, rfl, by decide +kernel, rfl, by decide +kernel, by decide +kernel⟩
theorem p_is_pay (T : Tx K mg) : Prom P w K mg base 1 d__law_is_pay ["_law_thing"] spIsPay := by
  obtain ⟨fd, F⟩ := f__law_is_pay T
  refine ⟨fd, F, F.ok sc_is_pay (fun vs H Q E h => ?_) (fun cdv A outer s H vs Q E hr h => ?_), F.bindsN fun _ _ _ _ _ _ us hl => match us, hl with | [_], _ => rfl⟩
  · obtain ⟨x, rfl, _⟩ := h
    rfl
  · obtain ⟨v, rfl, pn, k⟩ := h
    have kn := pn.kn
    refine ⟨_, (pss_one (ps_ret (pe_and (pe_callB call_isi (by rfl) (n_isinstance T) (by decide +kernel) (pa_cons (pv 0) (pa_cons (pe_bltn (v := .ty "int") (by rfl) (n_int T) (by decide +kernel) rfl) pa_nil))) (pe_and (pe_not (pe_callB call_isi (by rfl) (n_isinstance T) (by decide +kernel) (pa_cons (pv 0) (pa_cons (pe_bltn (v := .ty "bool") (by rfl) (n_bool T) (by decide +kernel) rfl) pa_nil)))) (pe_one (pe_cmpR op_lt (pe_callB call_len_str (by rfl) (n_len T) (by decide +kernel) (pa_cons (pe_callTy call_str_int (by rfl) (n_str T) (by decide +kernel) (pa_cons (pe_callB call_abs (by rfl) (n_abs T) (by decide +kernel) (pa_cons (pv 0) pa_nil)) pa_nil)) pa_nil)) pe_int (nomark _))))))), ?_⟩
    obtain ⟨t, ht, kt⟩ := isT_int (K := K) kn
    obtain ⟨t2, ht2, kt2⟩ := isT_bool (K := K) kn
    refine ⟨_, rfl, _, _, _, _, _, rfl, .ty "int", ht, kt, _, rfl, ?_⟩
    cases pn with
    | int i hi =>
      refine iteT ⟨_, rfl, _, _, _, _, _, rfl, .ty "bool", ht2, kt2, _, rfl, _, rfl, ?_⟩
      have ab : (if i < 0 then -i else i) = ((i.natAbs : Nat) : Int) := by split <;> omega
      refine iteT ⟨_, rfl, _, rfl, ?_⟩
      rw [ab]
      refine ⟨_, rfl, log_ok (by simpa using hi), _, rfl, ?_, _, _, rfl, rfl, ?_⟩
      · have l := (Pay.int (H := H) ((i.natAbs : Nat) : Int) (by simpa using hi)).rp_len
        exact Nat.le_trans l (by decide)
      · have e : decide (((Str.ofString (toString ((i.natAbs : Nat) : Int))).length : Int) < 13) = pyV (.int i) := by
          rw [digits_lt]
          show _ = decide (priceOk i)
          by_cases h : i.natAbs < 10 ^ 12
          · rw [decide_eq_true h]
            exact (decide_eq_true (show priceOk i from ⟨by omega, by omega⟩)).symm
          · rw [decide_eq_false h]
            exact (decide_eq_false (fun q : priceOk i => h (by obtain ⟨q1, q2⟩ := q; omega))).symm
        rw [← e] at k
        exact k
    | bl b => exact iteT ⟨_, rfl, _, _, _, _, _, rfl, .ty "bool", ht2, kt2, _, rfl, _, rfl, iteF k⟩
    | one => exact iteF k
    | x => exact iteF k
    | non => exact iteF k
    | tup h => exact iteF k
    | lst h => exact iteF k
    | dct h => exact iteF k
end
end K06
namespace K06
open PySem PySem.Spec PyProof.Rows L2 Hx Gx KX
/-- what making a street of these parts is refused with -/
def dueD (H : Hp) (x y z : V) (ps : List V) : PyData :=
  match dueS x y z with
  | some p => .tuple [.str "street", .str p]
  | none => match ps.find? (fun v => !pyV v) with
    | some v => .tuple [.str "price", .str (rp H v)]
    | none => .none
section
variable {P : Program} {w : World} {K : PySem.W.Frag} {mg : Str → Option Value} {base : Heap}
def PromG (P : Program) (w : World) (K : PySem.W.Frag) (mg : Str → Option Value) (base : Heap) (k : Nat) (d : Dx) (ps : List Str) (sp : Sp) : Prop :=
  ∃ fd, Fd K d fd ∧ FnG P w K mg base CX0 k (d.adr K) fd ps sp ∧ Binds K fd ps []
def spDue (K : PySem.W.Frag) : Sp := fun vs H Q _ => ∃ (a : Addr) (x y z : V) (ps : List V), vs = [.ref a] ∧ SqL K H a (x :: y :: z :: ps) ∧ ps.length ≤ 2 ∧ Kn H x ∧ Kn H y ∧ Kn H z ∧ (∀ v ∈ ps, Pay H v) ∧
  ∀ (H' : Hp) (v : V), Same H H' → Val H' v (dueD H x y z ps) → Q v H'
theorem cut3 (x y z : V) (ps : List V) : cutV (x :: y :: z :: ps) (some 3) none = ps := by
  have e : HT.sIx (x :: y :: z :: ps).length 0 (some 3) = 3 := by
    unfold HT.sIx
    simp [List.length_cons]
    try omega
  unfold cutV
  rw [e]
  show (ps).take _ = ps
  refine List.take_of_length_le ?_
  have e2 : HT.sIx (x :: y :: z :: ps).length (x :: y :: z :: ps).length none = (x :: y :: z :: ps).length := rfl
  rw [e2]
  simp only [List.length_cons]
  omega
theorem sc_due : FnScope ["_law_parts", "_law_wrong", "_law_thing"] ["_law_parts"] (defScope s__law_due) := ⟨rfl, rfl, rfl, by decide +kernel, rfl, by decide +kernel, by decide +kernel⟩
theorem p_due (T : Tx K mg) : PromG P w K mg base 2 d__law_due ["_law_parts"] (spDue K) := by
  obtain ⟨fd, F⟩ := f__law_due T
  obtain ⟨fdW, FW, GW, BW⟩ := p_is_word (P := P) (w := w) (base := base) T
  obtain ⟨fdP, FP, GP, BP⟩ := p_is_pay (P := P) (w := w) (base := base) T
  refine ⟨fd, F, FnG.body F sc_due (fun vs H Q E h => ?_) (fun cdv A outer s H vs Q E hr gu h => ?_), F.bindsN fun _ _ _ _ _ _ us hl => match us, hl with | [_], _ => rfl⟩
  · obtain ⟨a, x, y, z, ps, rfl, _⟩ := h
    rfl
  · obtain ⟨a, x, y, z, ps, rfl, hs, hl, kx, ky, kz, kp, k⟩ := h
    refine ⟨_, (pss_cons (ps_if (pt_not (pt_val (pe_call GW hr rfl (g__law_is_word T) FW.kp BW .nil pass0 (pa_cons (pe_ix ix_list (pv 0) pe_int (fun _ _ => rfl)) pa_nil)))) (pss_one (ps_ret (pe_tup (pa_cons pe_str (pa_cons pe_str pa_nil))))) pss_nil)
      (pss_cons (ps_if (PW.pt (pw_or (pt_not (pt_val (pe_call GW hr rfl (g__law_is_word T) FW.kp BW .nil pass0 (pa_cons (pe_ix ix_list (pv 0) pe_int (fun _ _ => rfl)) pa_nil)))) (pw_or1 (pt_not (pt_val (pe_call GW hr rfl (g__law_is_word T) FW.kp BW .nil pass0 (pa_cons (pe_ix ix_list (pv 0) pe_int (fun _ _ => rfl)) pa_nil))))))) (pss_one (ps_ret (pe_tup (pa_cons pe_str (pa_cons pe_str pa_nil))))) pss_nil)
      (pss_cons (ps_if (pt_cmpR op_eq (pe_ix ix_list (pv 0) pe_int (fun _ _ => rfl)) (pe_ix ix_list (pv 0) pe_int (fun _ _ => rfl)) (nomark _)) (pss_one (ps_ret (pe_tup (pa_cons pe_str (pa_cons pe_str pa_nil))))) pss_nil)
      (pss_cons (ps_setLc (i := 1) (own := [("_law_thing", 2)]) (g := gName 2) (by rfl) sc_due.nd rfl rfl (by rfl) (pi_list (pe_slice sl_list (pv 0) (po_some pe_int) po_none)) (blkOk_by (own := [("_law_thing", 2)]) (N := ["_law_parts", "_law_wrong", "_law_thing"]) (sc := defScope s__law_due) (by decide +kernel)) (fun _ _ _ _ _ => pg_name (i := 2) sc_due.nd rfl (Or.inl rfl)) (fun _ _ _ _ _ => pts_one (pt_not (pt_val (pe_call GP hr rfl (g__law_is_pay T) FP.kp BP .nil pass0 (pa_cons (pv 2) pa_nil))))) (fun _ _ _ _ _ => (pv 2)))
      (pss_one (ps_ret (pe_ifExp (pt_cmpR (op_neE (hu64 hr)) (pv 1) (pe_lst pa_nil) (nomark _)) (pe_tup (pa_cons pe_str (pa_cons (pe_callB (call_reprV gu (hu64 hr)) (by rfl) (n_repr T) (by decide +kernel) (pa_cons (pe_ix ix_list (pv 1) pe_int (fun _ _ => rfl)) pa_nil)) pa_nil))) pe_non)))))))
      , ?_⟩
    unfold dueD dueS at k
    refine ⟨_, rfl, a, _, 0, _, rfl, rfl, hs, atI_nat (j := 0) rfl, x, rfl, kx, fun H1 s1 => ⟨_, rfl, ?_⟩⟩
    cases hx : nmV x with
    | false =>
      rw [hx, if_neg Bool.false_ne_true] at k
      exact iteT ⟨(by show 2 ≤ sizeLine; decide), fun t nt => k _ _ (s1.trans (new_same nt _)) (.pair upd_same)⟩
    | true =>
      rw [hx, if_pos rfl] at k
      refine iteF ⟨_, rfl, a, _, 1, _, rfl, rfl, s1.seq hs, atI_nat (j := 1) rfl, y, rfl, ky.same s1, fun H2 s2 => ⟨_, rfl, ?_⟩⟩
      have s12 := s1.trans s2
      cases hy : nmV y with
      | false =>
        rw [hy, if_neg Bool.false_ne_true] at k
        exact iteT ⟨(by show 2 ≤ sizeLine; decide), fun t nt => k _ _ (s12.trans (new_same nt _)) (.pair upd_same)⟩
      | true =>
        rw [hy, if_pos rfl] at k
        refine iteF ⟨_, rfl, a, _, 2, _, rfl, rfl, s12.seq hs, atI_nat (j := 2) rfl, z, rfl, kz.same s12, fun H3 s3 => ⟨_, rfl, ?_⟩⟩
        have s13 := s12.trans s3
        cases hz : nmV z with
        | false =>
          rw [hz, if_neg Bool.false_ne_true] at k
          exact iteT ⟨(by show 2 ≤ sizeLine; decide), fun t nt => k _ _ (s13.trans (new_same nt _)) (.pair upd_same)⟩
        | true =>
          rw [hz, if_pos rfl] at k
          obtain ⟨u, rfl, _⟩ := nmV_str hy
          obtain ⟨v, rfl, _⟩ := nmV_str hz
          refine iteF ⟨_, rfl, a, _, 1, _, rfl, rfl, s13.seq hs, atI_nat (j := 1) rfl, _, rfl, a, _, 2, _, rfl, rfl, s13.seq hs, atI_nat (j := 2) rfl, rfl, _, rfl, ?_⟩
          by_cases e : V.str u = V.str v
          · rw [if_pos e] at k
            rw [decide_eq_true e]
            exact iteT ⟨(by show 2 ≤ sizeLine; decide), fun t nt => k _ _ (s13.trans (new_same nt _)) (.pair upd_same)⟩
          · rw [if_neg e] at k
            rw [decide_eq_false e]
            refine iteF ⟨_, rfl, 3, rfl, a, _, rfl, s13.seq hs, fun l nl => ⟨l, rfl, ⟨ps, SqL.of (by rw [upd_same, cut3])⟩, fun D nD => ?_⟩⟩
            have s4 := s13.trans (new_same nl (.lst (cutV (x :: V.str u :: V.str v :: ps) (some 3) none)))
            have l4 : (upd H3 l (.lst (cutV (x :: V.str u :: V.str v :: ps) (some 3) none))) l = some (.lst ps) := by rw [upd_same, cut3]
            generalize upd H3 l (.lst (cutV (x :: V.str u :: V.str v :: ps) (some 3) none)) = H4 at s4 l4 nD
            refine lc_list (K := K) (a := l) (xs := ps) (fun i H' => Same H H' ∧ H' l = some (.lst ps) ∧ H' D = some (.lst ((ps.take i).filter fun v => !pyV v))) ⟨fun b o e => by rw [upd_ne (ne_of_none (s4 _ _ e) nD)]; exact s4 _ _ e, by rw [upd_ne (ne_of_none l4 nD)]; exact l4, upd_same⟩ (fun i H' _ q => SqL.of q.2.1) ?_ ?_
            · rintro i v H5 hi ⟨s5, l5, d5⟩
              have pv := kp v (List.mem_of_getElem? hi)
              refine ⟨rfl, _, rfl, v, rfl, pv.same s5, _, rfl, ?_⟩
              cases q : pyV v with
              | true =>
                refine iteF ⟨s5, l5, ?_⟩
                rw [d5, List.take_succ, hi, List.filter_append, show (some v).toList.filter (fun v => !pyV v) = [] from by rw [Option.toList_some, List.filter_cons_of_neg (by rw [q]; decide), List.filter_nil], List.append_nil]
              | false =>
                have dl : D ≠ l := fun z => by rw [z, l4] at nD; cases nD
                have nDH : H D = none := by
                  cases q2 : H D with
                  | none => rfl
                  | some o =>
                    have z := s4 _ _ q2
                    rw [nD] at z
                    cases z
                refine iteT ⟨_, rfl, _, d5, ?_, fun b o e => by rw [upd_ne (ne_of_none e nDH)]; exact s5 b o e, by rw [upd_ne dl.symm]; exact l5, ?_⟩
                · refine Nat.lt_of_le_of_lt (List.length_filter_le _ _) ?_
                  rw [List.length_take]
                  have z : (2 : Nat) < sizeLine := by decide
                  omega
                · rw [upd_same, List.take_succ, hi, List.filter_append, show (some v).toList.filter (fun v => !pyV v) = [v] from by rw [Option.toList_some, List.filter_cons_of_pos (by rw [q]; rfl), List.filter_nil]]
            · rintro H5 ⟨s5, l5, d5⟩
              rw [List.take_length] at d5
              refine ⟨_, rfl, by decide, fun m nm => ⟨D, m, _, rfl, rfl, SqL.of (by rw [upd_ne (ne_of_none d5 nm)]; exact d5), SqL.of upd_same, _, rfl, ?_⟩⟩
              have s6 := s5.trans (new_same nm (.lst []))
              have d6 : (upd H5 m (.lst [])) D = some (.lst (ps.filter fun v => !pyV v)) := by rw [upd_ne (ne_of_none d5 nm)]; exact d5
              generalize upd H5 m (.lst []) = H6 at s6 d6
              have hf := List.head?_filter (p := fun v => !pyV v) (l := ps)
              rw [← hf] at k
              cases q : ps.filter (fun v => !pyV v) with
              | nil =>
                rw [q] at k
                exact iteF (k _ _ s6 .non)
              | cons v r =>
                rw [q] at k d6
                have hv : v ∈ ps := (List.mem_filter.mp (by rw [q]; exact List.mem_cons_self)).1
                have pv := (kp v hv).same s6
                refine iteT ⟨_, rfl, D, _, 0, _, rfl, rfl, SqL.of d6, atI_nat (j := 0) rfl, v, _, rfl, pv.rp, (by show 2 ≤ sizeLine; decide), fun t nt => ?_⟩
                refine k _ _ (s6.trans (new_same nt _)) ?_
                rw [(kp v hv).rp_same s6]
                exact .pair upd_same
end
end K06
namespace K06
open PySem PySem.Spec PyProof.Rows L2 Hx Gx KX LamX
abbrev NH : List Str := ["_law_ask", "_law_caught", "error", "_law_some"]
theorem sc_heard : FnScope NH ["_law_ask"] (defScope s__law_heard) := ⟨rfl, rfl, rfl, by decide +kernel, rfl, by decide +kernel, by decide +kernel⟩
/-- what was heard of an error -/
def Hrd (K : PySem.W.Frag) (cls : Value) (d : Option Addr) (H : Hp) (Q : VK) : Prop :=
  (∃ (dd : Addr) (x : Str), cls = .ref (He.ga K "BadStreet") ∧ d = some dd ∧ H dd = some (.xd [("part", .str x)]) ∧ ∀ (H2 : Hp) (p : Addr), Same H H2 → H2 p = some (.tup [.str "street", .str x]) → Q (.ref p) H2) ∨
    (∃ (dd : Addr) (v : V) (t : Str), cls = .ref (He.ga K "BadPrice") ∧ d = some dd ∧ H dd = some (.xd [("value", v)]) ∧ (∀ H2 : Hp, Same H H2 → Rp K H2 v t) ∧ ∀ (H2 : Hp) (p : Addr), Same H H2 → H2 p = some (.tup [.str "price", .str t]) → Q (.ref p) H2)
/-- what _law_heard makes of a lambda's reading -/
def THeard (K : PySem.W.Frag) : (XK → Hp → VK → Prop) → Hp → VK → Prop := fun tl H Q => tl (fun cls d H' => Hrd K cls d H' Q) H (fun _ H' => Q .non H')
theorem heard_gives {X : Cx} {q : Str} {g : Addr} {cdg : Value} {k : Nat} (T : Tx X.K X.mg) (gu : X.A.guards = some []) (hr : Room (k + 1) X.A) :
    GivesTo X NH "_law_heard" (defScope s__law_heard) g cdg (defBody s__law_heard) "_law_ask" q (THeard X.K) := by
  intro f c' s H Q tl act hc h
  have hrr : Room k (cxOf C8.CX0 X.prog X.w X.K X.mg X.base NH "_law_heard" (defScope s__law_heard) g cdg X.A X.stack s H C8.E0).nox.A := hr.deeper _
  have hu : (cxOf C8.CX0 X.prog X.w X.K X.mg X.base NH "_law_heard" (defScope s__law_heard) g cdg X.A X.stack s H C8.E0).nox.A.units + 64 < cLine := hu64 hrr
  have gu2 : (cxOf C8.CX0 X.prog X.w X.K X.mg X.base NH "_law_heard" (defScope s__law_heard) g cdg X.A X.stack s H C8.E0).nox.A.guards = some [] := gu
  refine ⟨_, pss_cons (ps_set (i := 1) sc_heard.nd rfl (Or.inl rfl) pe_non) (pss_try_keep (X := (cxOf C8.CX0 X.prog X.w X.K X.mg X.base NH "_law_heard" (defScope s__law_heard) g cdg X.A X.stack s H C8.E0).nox) (c := .ref (He.ga X.K "TownError")) (i := 2)
      (tb := fun W D σ H => ∃ Ech : XK, (∀ cls d σ' H', Ech cls d H' → σ'.length = 4 → W cls d σ' H') ∧ σ[0]? = some (some (.ref f)) ∧ H c' = some (CodeO c' q) ∧ ∃ Qn : VK, tl Ech H Qn ∧ ∀ v H', Qn v H' → D.nx σ H')
      (t1 := fun a cls d D σ H => (∃ v0 v2 v3, σ = [v0, some (.ref a), v2, v3]) ∧ Hrd X.K cls d H D.rt)
      rfl rfl sc_heard.nd rfl rfl ⟨rfl, by decide, .inl (g_TownError T)⟩ takes0 (fun W pn xe tk _ => ?_)
      (fun a oe cls d pn _ _ => pss_one (ps_set (i := 1) sc_heard.nd rfl (Or.inl rfl) (pv 2)))
      (pss_cons (ps_if (pt_cmpR op_isN (pv 1) pe_non (nomark _)) (pss_one (ps_ret pe_non)) pss_nil) (pss_cons ps_never (pss_cons ps_never (pss_cons ps_never (pss_one ps_never)))))
      (fun a oe cls d pn hz hf => pss_imp (pss_cons (ps_if (pt_cmpR op_isN (pv 1) pe_non (nomark _)) (pss_one (ps_ret pe_non)) pss_nil)
        (pss_cons (ps_set (i := 3) sc_heard.nd rfl (Or.inl rfl) (pe_lst pa_nil))
        (pss_cons (ps_if (pt_val (pe_callB (call_isK hz hf) (by rfl) (n_isinstance T) (by decide +kernel) (pa_cons (pv 1) (pa_cons (pe_glob (v := .ref (He.ga X.K "BadStreet")) rfl (g_BadStreet T) rfl) pa_nil))))
          (pss_one (ps_expr (pe_bm PySem.F.plainAttrs_list PySem.F.slot_list_append PySem.F.type_list_append mt_append (pv 3) (pa_cons (pe_tup (pa_cons pe_str (pa_cons (pe_xk hz hf (pv 1)) pa_nil))) pa_nil)))) pss_nil)
        (pss_cons (ps_if (pt_val (pe_callB (call_isK hz hf) (by rfl) (n_isinstance T) (by decide +kernel) (pa_cons (pv 1) (pa_cons (pe_glob (v := .ref (He.ga X.K "BadPrice")) rfl (g_BadPrice T) rfl) pa_nil))))
          (pss_one (ps_expr (pe_bm PySem.F.plainAttrs_list PySem.F.slot_list_append PySem.F.type_list_append mt_append (pv 3) (pa_cons (pe_tup (pa_cons pe_str (pa_cons (pe_callB (call_reprV (by exact gu2) (by exact hu)) (by rfl) (by exact n_repr T) (by decide +kernel) (pa_cons (pe_xk hz hf (pv 1)) pa_nil)) pa_nil))) pa_nil)))) pss_nil)
        (pss_one (ps_ret (pe_ifExp (PW.pt (pw_and (pt_cmpR op_eq (pe_callB call_len_seq (by rfl) (by exact n_len T) (by decide +kernel) (pa_cons (pv 3) pa_nil)) pe_int (nomark _)) (pw_and1 (pt_val (pe_callB (call_isK hz hf) (by rfl) (n_isinstance T) (by decide +kernel) (pa_cons (pv 1) (pa_cons (pe_glob (v := .ref (He.ga X.K "BadInput")) rfl (g_BadInput T) rfl) pa_nil)))))))
          (pe_ix ix_list (pv 3) pe_int (fun _ _ => rfl)) (pe_tup (pa_cons pe_str pa_nil))))))))) fun D σ H h => ?_)), ?_⟩
  · refine ⟨fun pins s' σ H' D I h' => ?_⟩
    obtain ⟨Ech, hW, h1, h2, Qn, h3, h4⟩ := h'
    exact (pss_one (ps_expr (pe_mono (act (fun cls d σ' H' => σ'.length = 4 → W cls d σ' H') pn xe Ech _ _ (takes_len tk) (fun cls d σ' H' e l => hW cls d σ' H' e l))))).run pins s' σ H' D I ⟨Qn, ⟨h1, h2, h3⟩, h4⟩
  · obtain ⟨⟨v0, v2, v3, rfl⟩, e⟩ := h
    rcases e with ⟨dd, x, rfl, rfl, hd, kk⟩ | ⟨dd, v, t, rfl, rfl, hd, rpv, kk⟩
    · refine ⟨_, rfl, rfl, _, rfl, iteF ?_⟩
      refine ⟨by decide, fun l nl => ?_⟩
      have S1 := new_same nl (.lst [])
      have hd1 := S1 _ _ hd
      have l1 : (upd H l (.lst [])) l = some (.lst []) := upd_same
      refine ⟨_, rfl, _, _, true, _, dd, _, rfl, rfl, rfl, (er_BadStreet T).c, hd1, (fun u hu => hu), k_BadStreet_BadStreet T, _, rfl, iteT ?_⟩
      refine ⟨_, rfl, .inl ⟨rfl, _, SqL.of l1⟩, _, rfl, rfl, _, dd, _, _, rfl, rfl, (er_BadStreet T).f, xn_BadStreet_part T, hd1, rfl, (by show 2 ≤ sizeLine; decide), fun t nt => ?_⟩
      have S2 := S1.trans (new_same nt (.tup [.str "street", .str x]))
      have t2 : (upd (upd H l (.lst [])) t (.tup [.str "street", .str x])) t = some (.tup [.str "street", .str x]) := upd_same
      have l2 : (upd (upd H l (.lst [])) t (.tup [.str "street", .str x])) l = some (.lst []) := by rw [upd_ne (ne_of_none l1 nt)]; exact l1
      have nlH : H l = none := nl
      generalize upd (upd H l (.lst [])) t (.tup [.str "street", .str x]) = H2 at S2 t2 l2
      refine ⟨l, _, _, rfl, rfl, l2, by decide, ?_⟩
      have ltt : t ≠ l := ne_of t2 l2 (by intro z; cases z)
      have l3 : (upd H2 l (.lst ([] ++ [.ref t]))) l = some (.lst [.ref t]) := upd_same
      have t3 : (upd H2 l (.lst ([] ++ [.ref t]))) t = some (.tup [.str "street", .str x]) := by rw [upd_ne ltt]; exact t2
      have S3 : Same H (upd H2 l (.lst ([] ++ [.ref t]))) := fun b u e => by rw [upd_ne (ne_of_none e nlH)]; exact S2 _ _ e
      generalize upd H2 l (.lst ([] ++ [.ref t])) = H3 at l3 t3 S3
      refine ⟨_, rfl, _, _, false, _, dd, _, rfl, rfl, rfl, (er_BadStreet T).c, S3 _ _ hd, (fun u hu => hu), k_BadStreet_BadPrice T, _, rfl, iteF ?_⟩
      refine ⟨_, rfl, l, _, rfl, .inl (SqL.of l3), rfl, _, rfl, iteT ?_⟩
      refine ⟨_, rfl, _, _, true, _, dd, _, rfl, rfl, rfl, (er_BadStreet T).c, S3 _ _ hd, (fun u hu => hu), k_BadStreet_BadInput T, _, rfl, iteT ?_⟩
      exact ⟨_, rfl, l, _, 0, _, rfl, rfl, SqL.of l3, atI_nat (j := 0) rfl, kk _ _ S3 t3⟩
    · refine ⟨_, rfl, rfl, _, rfl, iteF ?_⟩
      refine ⟨by decide, fun l nl => ?_⟩
      have S1 := new_same nl (.lst [])
      have hd1 := S1 _ _ hd
      have l1 : (upd H l (.lst [])) l = some (.lst []) := upd_same
      refine ⟨_, rfl, _, _, false, _, dd, _, rfl, rfl, rfl, (er_BadPrice T).c, hd1, (fun u hu => hu), k_BadPrice_BadStreet T, _, rfl, iteF ?_⟩
      refine ⟨_, rfl, _, _, true, _, dd, _, rfl, rfl, rfl, (er_BadPrice T).c, hd1, (fun u hu => hu), k_BadPrice_BadPrice T, _, rfl, iteT ?_⟩
      refine ⟨_, rfl, .inl ⟨rfl, _, SqL.of l1⟩, _, rfl, rfl, _, dd, _, _, rfl, rfl, (er_BadPrice T).f, xn_BadPrice_value T, hd1, rfl, v, t, rfl, rpv _ S1, (by show 2 ≤ sizeLine; decide), fun u nt => ?_⟩
      have S2 := S1.trans (new_same nt (.tup [.str "price", .str t]))
      have t2 : (upd (upd H l (.lst [])) u (.tup [.str "price", .str t])) u = some (.tup [.str "price", .str t]) := upd_same
      have l2 : (upd (upd H l (.lst [])) u (.tup [.str "price", .str t])) l = some (.lst []) := by rw [upd_ne (ne_of_none l1 nt)]; exact l1
      have nlH : H l = none := nl
      generalize upd (upd H l (.lst [])) u (.tup [.str "price", .str t]) = H2 at S2 t2 l2
      refine ⟨l, _, _, rfl, rfl, l2, by decide, ?_⟩
      have ltt : u ≠ l := ne_of t2 l2 (by intro z; cases z)
      have l3 : (upd H2 l (.lst ([] ++ [.ref u]))) l = some (.lst [.ref u]) := upd_same
      have t3 : (upd H2 l (.lst ([] ++ [.ref u]))) u = some (.tup [.str "price", .str t]) := by rw [upd_ne ltt]; exact t2
      have S3 : Same H (upd H2 l (.lst ([] ++ [.ref u]))) := fun b u e => by rw [upd_ne (ne_of_none e nlH)]; exact S2 _ _ e
      generalize upd H2 l (.lst ([] ++ [.ref u])) = H3 at l3 t3 S3
      refine ⟨_, rfl, l, _, rfl, .inl (SqL.of l3), rfl, _, rfl, iteT ?_⟩
      refine ⟨_, rfl, _, _, true, _, dd, _, rfl, rfl, rfl, (er_BadPrice T).c, S3 _ _ hd, (fun u hu => hu), k_BadPrice_BadInput T, _, rfl, iteT ?_⟩
      exact ⟨_, rfl, l, _, 0, _, rfl, rfl, SqL.of l3, atI_nat (j := 0) rfl, kk _ _ S3 t3⟩
  · refine ⟨_, fun cls d σ' H' e l => ?_, rfl, hc, _, h, fun v H' q => ⟨_, rfl, rfl, _, rfl, q⟩⟩
    obtain ⟨v0, v1, v2, v3, rfl⟩ := len4 l
    rcases e with ⟨dd, x, rfl, rfl, hd, kk⟩ | ⟨dd, v, t, rfl, rfl, hd, rpv, kk⟩
    · refine ⟨true, ex_BadStreet_TownError T, fun _ a na => ?_, fun z => by cases z⟩
      exact ⟨_, rfl, ⟨_, _, _, rfl⟩, .inl ⟨dd, x, rfl, rfl, hd, kk⟩⟩
    · refine ⟨true, ex_BadPrice_TownError T, fun _ a na => ?_, fun z => by cases z⟩
      exact ⟨_, rfl, ⟨_, _, _, rfl⟩, .inr ⟨dd, v, t, rfl, rfl, hd, rpv, kk⟩⟩
end K06
namespace K06
open PySem PySem.Spec PyProof.Rows L2 Hx Gx KX
theorem PenAt.same {H H' : Hp} {p c : Addr} {n : Nat} (h : PenAt H p c n) (s : Same H H') : PenAt H' p c n := by
  obtain ⟨ns, a, r, h1, h2, h3, h4⟩ := h
  exact ⟨ns, a, r, s _ _ h1, h2, s _ _ h3, h4⟩
theorem Kn.but {H H' : Hp} {p c : Addr} {n m : Nat} {v : V} (k : Kn H v) (b : But p H H') (q : PenAt H p c n) (q2 : PenAt H' p c m) : Kn H' v := by
  obtain ⟨ns, a, r, h1, _⟩ := q
  obtain ⟨ns2, a2, r2, g1, _⟩ := q2
  cases k with
  | str x h => exact .str x h
  | int i => exact .int i
  | non => exact .non
  | bl b => exact .bl b
  | @tup a xs h => exact .tup (b _ _ (ne_of h h1 (by intro z; cases z)) h)
  | @lst a xs h =>
    by_cases e : a = p
    · rw [e]; exact .lst g1
    · exact .lst (b _ _ e h)
  | @dct a h => exact .dct (b _ _ (ne_of h h1 (by intro z; cases z)) h)
theorem Pay.but {H H' : Hp} {p c : Addr} {n : Nat} {v : V} (k : Pay H v) (b : But p H H') (q : PenAt H p c n) : Pay H' v := by
  obtain ⟨ns, a, r, h1, _⟩ := q
  cases k with
  | one => exact .one
  | x => exact .x
  | int i h => exact .int i h
  | non => exact .non
  | bl b => exact .bl b
  | @tup a h => exact .tup (b _ _ (ne_of h h1 (by intro z; cases z)) h)
  | @lst a h => exact .lst (b _ _ (ne_of h h1 (by intro z; cases z)) h)
  | @dct a h => exact .dct (b _ _ (ne_of h h1 (by intro z; cases z)) h)
section
variable {P : Program} {w : World} {K : PySem.W.Frag} {mg : Str → Option Value} {base : Heap}
def spOddW : Sp := fun vs H Q _ => ∃ (p c : Addr) (n : Nat), vs = [.ref p] ∧ PenAt H p c n ∧ n ≤ 90000 ∧ ∀ (H' : Hp) (v : V), But p H H' → PenAt H' p c (n + 1) → Kn H' v → Q v H'
def spOddP : Sp := fun vs H Q _ => ∃ (p c : Addr) (n : Nat), vs = [.ref p] ∧ PenAt H p c n ∧ n ≤ 90000 ∧ ∀ (H' : Hp) (v : V), But p H H' → PenAt H' p c (n + 1) → Pay H' v → Q v H'
theorem sc_odd_word : FnScope ["_law_pen_here", "_law_some"] ["_law_pen_here"] (defScope s__law_odd_word) := ⟨rfl, rfl, rfl, by decide +kernel, rfl, by decide +kernel, by decide +kernel⟩
theorem p_odd_word (T : Tx K mg) : Prom P w K mg base 3 d__law_odd_word ["_law_pen_here"] spOddW := by
  obtain ⟨fd, F⟩ := f__law_odd_word T
  obtain ⟨fdP, FP, GP, BP⟩ := p_pick (P := P) (w := w) (base := base) T
  refine ⟨fd, F, F.ok sc_odd_word (fun vs H Q E h => ?_) (fun cdv A outer s H vs Q E hr h => ?_), F.bindsN fun _ _ _ _ _ _ us hl => match us, hl with | [_], _ => rfl⟩
  · obtain ⟨p, c, n, rfl, _⟩ := h
    rfl
  · obtain ⟨p, c, n, rfl, hp, hn, k⟩ := h
    refine ⟨_, (pss_cons (ps_set (i := 1) sc_odd_word.nd rfl (Or.inl rfl) (pe_lst (pa_cons pe_non (pa_cons pe_bl (pa_cons pe_int (pa_cons pe_str (pa_cons pe_str (pa_cons pe_str (pa_cons pe_str (pa_cons pe_str (pa_cons pe_str (pa_cons (pe_tup (pa_cons pe_str pa_nil)) (pa_cons (pe_lst (pa_cons pe_str pa_nil)) (pa_cons pe_dnewK (pa_cons pe_str (pa_cons pe_str pa_nil))))))))))))))))
      (pss_one (ps_ret (pe_call GP (hr.mono (by decide)) rfl (g__law_pick T) FP.kp BP .nil pass0 (pa_cons (pv 0) (pa_cons (pe_op op_cat (pv 1) (pe_lst (pa_cons pe_str (pa_cons pe_str (pa_cons pe_str pa_nil))))) pa_nil)))))), ?_⟩
    refine ⟨(by show 1 ≤ sizeLine; decide), fun t nt => ⟨(by show 1 ≤ sizeLine; decide), fun l nl => fun d nd => ⟨(by show 14 ≤ sizeLine; decide), fun xs nx => ?_⟩⟩⟩
    have P1 := hp.new nt (o := .tup [.str "a"])
    have S1 := new_same nt (.tup [.str "a"])
    have t1 : (upd H t (.tup [.str "a"])) t = some (.tup [.str "a"]) := upd_same
    generalize upd H t (.tup [.str "a"]) = H1 at P1 S1 t1 nl nd nx
    have S2 := new_same nl (.lst [.str "a"])
    have l2 : (upd H1 l (.lst [.str "a"])) l = some (.lst [.str "a"]) := upd_same
    generalize upd H1 l (.lst [.str "a"]) = H2 at S2 l2 nd nx
    have S3 := new_same nd (.dK [])
    have d3 : (upd H2 d (.dK [])) d = some (.dK []) := upd_same
    generalize upd H2 d (.dK []) = H3 at S3 d3 nx
    have S4 := new_same nx (.lst [.non, .bl true, .int 0, .str "", .str "A", .str "a b", .str "a1", .str "abcdefghi", .str "a\n", .ref t, .ref l, .ref d, .str "-", .str "a,b"])
    have x4 : (upd H3 xs (.lst [.non, .bl true, .int 0, .str "", .str "A", .str "a b", .str "a1", .str "abcdefghi", .str "a\n", .ref t, .ref l, .ref d, .str "-", .str "a,b"])) xs = some (.lst [.non, .bl true, .int 0, .str "", .str "A", .str "a b", .str "a1", .str "abcdefghi", .str "a\n", .ref t, .ref l, .ref d, .str "-", .str "a,b"]) := upd_same
    refine ⟨_, rfl, _, rfl, (by show 3 ≤ sizeLine; decide), fun ys ny => ?_⟩
    generalize upd H3 xs (.lst [.non, .bl true, .int 0, .str "", .str "A", .str "a b", .str "a1", .str "abcdefghi", .str "a\n", .ref t, .ref l, .ref d, .str "-", .str "a,b"]) = H4 at S4 x4 ny
    refine ⟨xs, ys, _, _, rfl, rfl, by rw [upd_ne (ne_of_none x4 ny)]; exact x4, upd_same, (by show 17 ≤ sizeLine; decide), fun zs nz => ?_⟩
    have S5 := new_same ny (.lst [.str "a", .str "b", .str "zzzzzzzz"])
    generalize upd H4 ys (.lst [.str "a", .str "b", .str "zzzzzzzz"]) = H5 at S5 nz
    have SH := (((S1.trans S2).trans S3).trans S4).trans S5
    have S15 := ((S2.trans S3).trans S4).trans S5
    have P5 := hp.same SH
    refine ⟨p, c, zs, n, _, rfl, P5.new nz, by omega, SqL.of upd_same, (P5.ne nz).symm, (by show 0 < 17; decide), (by show 17 ≤ 1000; decide), fun H' v b p' m => ?_⟩
    refine k H' v (((But.of SH).new nz).trans b) p' ?_
    refine Kn.but ?_ b (P5.new nz) p'
    have S6 : ∀ {q : Addr} {o : HO}, H5 q = some o → (upd H5 zs (.lst ([.non, .bl true, .int 0, .str "", .str "A", .str "a b", .str "a1", .str "abcdefghi", .str "a\n", .ref t, .ref l, .ref d, .str "-", .str "a,b"] ++ [.str "a", .str "b", .str "zzzzzzzz"]))) q = some o := fun {q o} e => by rw [upd_ne (ne_of_none e nz)]; exact e
    simp only [List.cons_append, List.nil_append, List.mem_cons, List.not_mem_nil, or_false] at m
    rcases m with rfl | rfl | rfl | rfl | rfl | rfl | rfl | rfl | rfl | rfl | rfl | rfl | rfl | rfl | rfl | rfl | rfl
    · exact .non
    · exact .bl _
    · exact .int _
    · exact .str _ (by decide +kernel)
    · exact .str _ (by decide +kernel)
    · exact .str _ (by decide +kernel)
    · exact .str _ (by decide +kernel)
    · exact .str _ (by decide +kernel)
    · exact .str _ (by decide +kernel)
    · exact .tup (S6 (S15 _ _ t1))
    · exact .lst (S6 (((S3.trans S4).trans S5) _ _ l2))
    · exact .dct (S6 ((S4.trans S5) _ _ d3))
    · exact .str _ (by decide +kernel)
    · exact .str _ (by decide +kernel)
    · exact .str _ (by decide +kernel)
    · exact .str _ (by decide +kernel)
    · exact .str _ (by decide +kernel)
theorem sc_odd_pay : FnScope ["_law_pen_here", "_law_some"] ["_law_pen_here"] (defScope s__law_odd_pay) := ⟨rfl, rfl, rfl, by decide +kernel, rfl, by decide +kernel, by decide +kernel⟩
theorem p_odd_pay (T : Tx K mg) : Prom P w K mg base 3 d__law_odd_pay ["_law_pen_here"] spOddP := by
  obtain ⟨fd, F⟩ := f__law_odd_pay T
  obtain ⟨fdP, FP, GP, BP⟩ := p_pick (P := P) (w := w) (base := base) T
  refine ⟨fd, F, F.ok sc_odd_pay (fun vs H Q E h => ?_) (fun cdv A outer s H vs Q E hr h => ?_), F.bindsN fun _ _ _ _ _ _ us hl => match us, hl with | [_], _ => rfl⟩
  · obtain ⟨p, c, n, rfl, _⟩ := h
    rfl
  · obtain ⟨p, c, n, rfl, hp, hn, k⟩ := h
    refine ⟨_, (pss_cons (ps_set (i := 1) sc_odd_pay.nd rfl (Or.inl rfl) (pe_lst (pa_cons pe_non (pa_cons pe_bl (pa_cons pe_bl (pa_cons pe_str (pa_cons (pe_tup (pa_cons pe_int pa_nil)) (pa_cons (pe_lst pa_nil) (pa_cons pe_dnewK (pa_cons (pe_op op_pow pe_int pe_int) (pa_cons (pe_un un_neg (pe_op op_pow pe_int pe_int)) (pa_cons (pe_op op_pow pe_int pe_int) (pa_cons (pe_op op_sub (pe_op op_pow pe_int pe_int) pe_int) (pa_cons pe_int (pa_cons (pe_un un_neg pe_int) pa_nil)))))))))))))))
      (pss_one (ps_ret (pe_call GP (hr.mono (by decide)) rfl (g__law_pick T) FP.kp BP .nil pass0 (pa_cons (pv 0) (pa_cons (pv 1) pa_nil)))))), ?_⟩
    refine ⟨(by show 1 ≤ sizeLine; decide), fun t nt => ⟨(by show 0 ≤ sizeLine; decide), fun l nl => fun d nd => ?_⟩⟩
    have P1 := hp.new nt (o := .tup [.int 1])
    have S1 := new_same nt (.tup [.int 1])
    have t1 : (upd H t (.tup [.int 1])) t = some (.tup [.int 1]) := upd_same
    generalize upd H t (.tup [.int 1]) = H1 at P1 S1 t1 nl nd
    have S2 := new_same nl (.lst [])
    have l2 : (upd H1 l (.lst [])) l = some (.lst []) := upd_same
    generalize upd H1 l (.lst []) = H2 at S2 l2 nd
    have S3 := new_same nd (.dK [])
    have d3 : (upd H2 d (.dK [])) d = some (.dK []) := upd_same
    generalize upd H2 d (.dK []) = H3 at S3 d3
    refine ⟨_, _, rfl, rfl, ⟨by decide, by decide, by decide⟩, _, _, rfl, rfl, ⟨by decide, by decide, by decide⟩, _, rfl, _, _, rfl, rfl, ⟨by decide, by decide, by decide⟩, _, _, rfl, rfl, ⟨by decide, by decide, by decide⟩, _, _, rfl, rfl, _, rfl, (by show 13 ≤ sizeLine; decide), fun xs nx => ?_⟩
    have SH := (S1.trans S2).trans S3
    have P5 := hp.same SH
    refine ⟨_, rfl, _, rfl, p, c, xs, n, _, rfl, P5.new nx, by omega, SqL.of upd_same, (P5.ne nx).symm, (by show 0 < 13; decide), (by show 13 ≤ 1000; decide), fun H' v b p' m => ?_⟩
    refine k H' v (((But.of SH).new nx).trans b) p' ?_
    refine Pay.but ?_ b (P5.new nx)
    have S6 : ∀ {q : Addr} {o u : HO}, H3 q = some o → (upd H3 xs u) q = some o := fun {q o u} e => by rw [upd_ne (ne_of_none e nx)]; exact e
    simp only [List.mem_cons, List.not_mem_nil, or_false] at m
    rcases m with rfl | rfl | rfl | rfl | rfl | rfl | rfl | rfl | rfl | rfl | rfl | rfl | rfl
    · exact .non
    · exact .bl _
    · exact .bl _
    · exact .one
    · exact .tup (S6 ((S2.trans S3) _ _ t1))
    · exact .lst (S6 (S3 _ _ l2))
    · exact .dct (S6 d3)
    · exact .int _ (by decide)
    · exact .int _ (by decide)
    · exact .int _ (by decide)
    · exact .int _ (by decide)
    · exact .int _ (by decide)
    · exact .int _ (by decide)
/-- five parts of a road -/
def Parts (H : Hp) (q : Addr) (xs : List V) : Prop := H q = some (.lst xs) ∧ ∃ x y z i j, xs = [x, y, z, i, j] ∧ Kn H x ∧ Kn H y ∧ Kn H z ∧ Pay H i ∧ Pay H j
def spDrawn : Sp := fun vs H Q _ => ∃ (p c : Addr) (n : Nat), vs = [.ref p] ∧ PenAt H p c n ∧ n ≤ 80000 ∧ ∀ (H' : Hp) (q : Addr) (xs : List V), But p H H' → PenAt H' p c (n + 20) → Parts H' q xs → Q (.ref q) H'
theorem sc_drawn : FnScope ["_law_pen_here", "_law_parts", "_law_turn", "_law_spot"] ["_law_pen_here"] (defScope s__law_drawn) := ⟨rfl, rfl, rfl, by decide +kernel, rfl, by decide +kernel, by decide +kernel⟩
theorem set_parts {H : Hp} {q p : Addr} {n : Nat} {x y z i j v : V} {s : Nat} (hs : s < 5) (kx : Kn H x) (ky : Kn H y) (kz : Kn H z) (pi : Pay H i) (pj : Pay H j) (hv : if s < 3 then Kn H v else Pay H v) (hq : H q = some (.lst [x, y, z, i, j])) :
    Parts (upd H q (.lst ([x, y, z, i, j].set s v))) q ([x, y, z, i, j].set s v) := by
  have up : ∀ {u : V}, Kn H u → Kn (upd H q (.lst ([x, y, z, i, j].set s v))) u := fun {u} k => by
    cases k with
    | str x h => exact .str x h
    | int i => exact .int i
    | non => exact .non
    | bl b => exact .bl b
    | @tup a xs h => exact .tup (by rw [upd_ne (ne_of h hq (by intro z; cases z))]; exact h)
    | @lst a xs h =>
      by_cases e : a = q
      · rw [e]; exact .lst upd_same
      · exact .lst (by rw [upd_ne e]; exact h)
    | @dct a h => exact .dct (by rw [upd_ne (ne_of h hq (by intro z; cases z))]; exact h)
  have up2 : ∀ {u : V}, Pay H u → Pay (upd H q (.lst ([x, y, z, i, j].set s v))) u := fun {u} k => by
    cases k with
    | one => exact .one
    | x => exact .x
    | int i h => exact .int i h
    | non => exact .non
    | bl b => exact .bl b
    | @tup a h => exact .tup (by rw [upd_ne (ne_of h hq (by intro z; cases z))]; exact h)
    | @lst a h => exact .lst (by rw [upd_ne (ne_of h hq (by intro z; cases z))]; exact h)
    | @dct a h => exact .dct (by rw [upd_ne (ne_of h hq (by intro z; cases z))]; exact h)
  refine ⟨upd_same, ?_⟩
  match s, hs with
  | 0, _ => exact ⟨v, y, z, i, j, rfl, up hv, up ky, up kz, up2 pi, up2 pj⟩
  | 1, _ => exact ⟨x, v, z, i, j, rfl, up kx, up hv, up kz, up2 pi, up2 pj⟩
  | 2, _ => exact ⟨x, y, v, i, j, rfl, up kx, up ky, up hv, up2 pi, up2 pj⟩
  | 3, _ => exact ⟨x, y, z, v, j, rfl, up kx, up ky, up kz, up2 hv, up2 pj⟩
  | 4, _ => exact ⟨x, y, z, i, v, rfl, up kx, up ky, up kz, up2 pi, up2 hv⟩
theorem pick3 {H : Hp} {v : V} {a b c : Str} (h : v ∈ [V.str a, .str b, .str c]) (ha : a.length ≤ 1000) (hb : b.length ≤ 1000) (hc : c.length ≤ 1000) : Kn H v := by
  simp only [List.mem_cons, List.not_mem_nil, or_false] at h
  rcases h with rfl | rfl | rfl
  · exact .str _ ha
  · exact .str _ hb
  · exact .str _ hc
theorem Kn.new {H : Hp} {v : V} {p : Addr} {o : HO} (k : Kn H v) (n : H p = none) : Kn (upd H p o) v := k.same (new_same n o)
theorem Pay.new {H : Hp} {v : V} {p : Addr} {o : HO} (k : Pay H v) (n : H p = none) : Pay (upd H p o) v := k.same (new_same n o)
theorem p_drawn (T : Tx K mg) : Prom P w K mg base 4 d__law_drawn ["_law_pen_here"] spDrawn := by
  obtain ⟨fd, F⟩ := f__law_drawn T
  obtain ⟨fdP, FP, GP, BP⟩ := p_pick (P := P) (w := w) (base := base) T
  obtain ⟨fdD, FD, GD, BD⟩ := p_draw (P := P) (w := w) (base := base) T
  obtain ⟨fdW, FW, GW, BW⟩ := p_odd_word (P := P) (w := w) (base := base) T
  obtain ⟨fdO, FO, GO, BO⟩ := p_odd_pay (P := P) (w := w) (base := base) T
  refine ⟨fd, F, F.ok sc_drawn (fun vs H Q E h => ?_) (fun cdv A outer s H vs Q E hr h => ?_), F.bindsN fun _ _ _ _ _ _ us hl => match us, hl with | [_], _ => rfl⟩
  · obtain ⟨p, c, n, rfl, _⟩ := h
    rfl
  · obtain ⟨p, c, n, rfl, hp, hn, k⟩ := h
    refine ⟨_, PSs.nox (pss_cons (ps_set (i := 1) sc_drawn.nd rfl (Or.inl rfl) (pe_lst (pa_cons (pe_call GP (hr.mono (by decide)) rfl (g__law_pick T) FP.kp BP .nil pass0 (pa_cons (pv 0) (pa_cons (pe_lst (pa_cons pe_str (pa_cons pe_str (pa_cons pe_str pa_nil)))) pa_nil))) (pa_cons (pe_call GP (hr.mono (by decide)) rfl (g__law_pick T) FP.kp BP .nil pass0 (pa_cons (pv 0) (pa_cons (pe_lst (pa_cons pe_str (pa_cons pe_str (pa_cons pe_str pa_nil)))) pa_nil))) pa_nil))))
      (pss_cons (ps_set (i := 1) sc_drawn.nd rfl (Or.inl rfl) (pe_op op_cat (pv 1) (pe_lst (pa_cons (pe_call GP (hr.mono (by decide)) rfl (g__law_pick T) FP.kp BP .nil pass0 (pa_cons (pv 0) (pa_cons (pe_lst (pa_cons pe_str (pa_cons pe_str (pa_cons pe_str pa_nil)))) pa_nil))) (pa_cons (pe_op op_sub (pe_call GD (hr.mono (by decide)) rfl (g__law_draw T) FD.kp BD .nil pass0 (pa_cons (pv 0) (pa_cons pe_int pa_nil))) pe_int) (pa_cons (pe_call GD (hr.mono (by decide)) rfl (g__law_draw T) FD.kp BD .nil pass0 (pa_cons (pv 0) (pa_cons (pe_op op_pow pe_int pe_int) pa_nil))) pa_nil))))))
      (pss_cons (ps_for PassesOwn.never rfl (pi_range1 (by rfl) (n_range T) (pa_cons (pe_call GP (hr.mono (by decide)) rfl (g__law_pick T) FP.kp BP .nil pass0 (pa_cons (pv 0) (pa_cons (pe_lst (pa_cons pe_int (pa_cons pe_int (pa_cons pe_int (pa_cons pe_int (pa_cons pe_int (pa_cons pe_int (pa_cons pe_int pa_nil)))))))) pa_nil))) pa_nil)) (pg_name (i := 2) sc_drawn.nd rfl (Or.inl rfl)) (pss_cons (ps_set (i := 3) sc_drawn.nd rfl (Or.inl rfl) (pe_call GD (hr.mono (by decide)) rfl (g__law_draw T) FD.kp BD .nil pass0 (pa_cons (pv 0) (pa_cons pe_int pa_nil))))
      (pss_one (ps_asg (pe_ifExp (pt_cmpR op_lt (pv 3) pe_int (nomark _)) (pe_call GW (hr.mono (by decide)) rfl (g__law_odd_word T) FW.kp BW .nil pass0 (pa_cons (pv 0) pa_nil)) (pe_call GO (hr.mono (by decide)) rfl (g__law_odd_pay T) FO.kp BO .nil pass0 (pa_cons (pv 0) pa_nil))) (pg_sub (pv 1) (pv 3) set_list)))))
      (pss_one (ps_ret (pv 1)))))), ?_⟩
    refine ⟨_, rfl, (by show 3 ≤ sizeLine; decide), fun l1 n1 => ⟨p, c, l1, n, _, rfl, hp.new n1, by omega, SqL.of upd_same, (hp.ne n1).symm, by decide, by decide, fun H1 x b1 p1 m1 => ?_⟩⟩
    have B1 : But p H H1 := ((But.refl p H).new n1).trans b1
    refine ⟨_, rfl, (by show 3 ≤ sizeLine; decide), fun l2 n2 => ⟨p, c, l2, n + 1, _, rfl, p1.new n2, by omega, SqL.of upd_same, (p1.ne n2).symm, by decide, by decide, fun H2 y b2 p2 m2 => ?_⟩⟩
    have B2 : But p H H2 := (B1.new n2).trans b2
    have kx : ∀ H, Kn H x := fun H => pick3 m1 (by decide +kernel) (by decide +kernel) (by decide +kernel)
    have ky : ∀ H, Kn H y := fun H => pick3 m2 (by decide +kernel) (by decide +kernel) (by decide +kernel)
    refine ⟨(by show 2 ≤ sizeLine; decide), fun l3 n3 => ?_⟩
    have p3 := p2.new n3 (o := .lst [x, y])
    have B3 := B2.new n3 (o := .lst [x, y])
    have d3 : (upd H2 l3 (.lst [x, y])) l3 = some (.lst [x, y]) := upd_same
    have ne3 := (p2.ne n3).symm
    generalize upd H2 l3 (.lst [x, y]) = H3 at p3 B3 d3
    refine ⟨_, rfl, _, rfl, (by show 3 ≤ sizeLine; decide), fun l4 n4 => ⟨p, c, l4, n + 2, _, rfl, p3.new n4, by omega, SqL.of upd_same, (p3.ne n4).symm, by decide, by decide, fun H4 z b4 p4 m4 => ?_⟩⟩
    have kz : ∀ H, Kn H z := fun H => pick3 m4 (by decide +kernel) (by decide +kernel) (by decide +kernel)
    have d4 : H4 l3 = some (.lst [x, y]) := b4 _ _ ne3 (by rw [upd_ne (ne_of_none d3 n4)]; exact d3)
    have B4 : But p H H4 := (B3.new n4).trans b4
    refine ⟨_, rfl, p, c, _, 9, rfl, p4, by omega, by decide, by decide, fun H5 i b5 p5 i0 i1 => ?_⟩
    refine ⟨_, _, rfl, rfl, _, rfl, _, _, rfl, rfl, ⟨by decide, by decide, by decide⟩, p, c, _, _, rfl, p5, by omega, by decide, by decide, fun H6 j b6 p6 j0 j1 => ?_⟩
    have d6 : H6 l3 = some (.lst [x, y]) := b6 _ _ ne3 (b5 _ _ ne3 d4)
    have B6 : But p H H6 := (B4.trans b5).trans b6
    have j1' : j < 1000000000000 := j1
    have pi : ∀ H, Pay H (.int (i - 4)) := fun H => .int _ (Nat.le_trans (show (i - 4).natAbs ≤ 100 by omega) (by decide))
    have pj : ∀ H, Pay H (.int j) := fun H => .int _ (Nat.le_trans (show j.natAbs ≤ 1000000000000 by omega) (by decide))
    refine ⟨(by show 3 ≤ sizeLine; decide), fun l7 n7 => ?_⟩
    refine ⟨l3, l7, _, _, rfl, rfl, by rw [upd_ne (ne_of_none d6 n7)]; exact d6, upd_same, (by show 5 ≤ sizeLine; decide), fun q nq => ?_⟩
    have p7 := (p6.new n7 (o := .lst [z, .int (i - 4), .int j])).new nq (o := .lst ([x, y] ++ [z, .int (i - 4), .int j]))
    have B7 := (B6.new n7 (o := .lst [z, .int (i - 4), .int j])).new nq (o := .lst ([x, y] ++ [z, .int (i - 4), .int j]))
    have q7 : (upd (upd H6 l7 (.lst [z, .int (i - 4), .int j])) q (.lst ([x, y] ++ [z, .int (i - 4), .int j]))) q = some (.lst [x, y, z, .int (i - 4), .int j]) := upd_same
    have neq := ((p6.new n7 (o := .lst [z, .int (i - 4), .int j])).ne nq).symm
    have cH : ∃ o, H c = some o := by
      obtain ⟨ns, a, r, h1, h2, h3, _⟩ := hp
      exact ⟨_, h3⟩
    have qH : H q = none := by
      cases e : H q with
      | none => rfl
      | some o =>
        have z1 := B6 q o neq e
        rw [upd_ne (ne_of_none z1 n7), z1] at nq
        cases nq
    have ncq : c ≠ q := fun e => by
      obtain ⟨o, e1⟩ := cH
      rw [e, qH] at e1
      cases e1
    generalize upd (upd H6 l7 (.lst [z, .int (i - 4), .int j])) q (.lst ([x, y] ++ [z, .int (i - 4), .int j])) = H7 at p7 B7 q7
    refine ⟨_, rfl, (by show 7 ≤ sizeLine; decide), fun l8 n8 => ⟨p, c, l8, _, _, rfl, p7.new n8, by omega, SqL.of upd_same, (p7.ne n8).symm, by decide, by decide, fun H8 v b8 p8 m8 => ?_⟩⟩
    have q8 : H8 q = some (.lst [x, y, z, .int (i - 4), .int j]) := b8 _ _ neq (by rw [upd_ne (ne_of_none q7 n8)]; exact q7)
    have B8 : But p H H8 := (B7.new n8).trans b8
    obtain ⟨m, rfl, hm⟩ : ∃ m : Nat, v = .int (m : Int) ∧ m ≤ 5 := by
      simp only [List.mem_cons, List.not_mem_nil, or_false] at m8
      rcases m8 with rfl | rfl | rfl | rfl | rfl | rfl | rfl
      · exact ⟨0, rfl, by omega⟩
      · exact ⟨1, rfl, by omega⟩
      · exact ⟨1, rfl, by omega⟩
      · exact ⟨2, rfl, by omega⟩
      · exact ⟨2, rfl, by omega⟩
      · exact ⟨3, rfl, by omega⟩
      · exact ⟨5, rfl, by omega⟩
    refine ⟨(m : Int), rfl, by omega, by omega, for_range (n := m) (fun t σ H' => But p H H' ∧ PenAt H' p c (n + 6 + 2 * t) ∧ (∃ xs, Parts H' q xs) ∧ ∃ v2 v3, σ = [some (.ref p), some (.ref q), v2, v3]) ⟨B8, p8.mono (by omega), ⟨_, q8, x, y, z, _, _, rfl, kx _, ky _, kz _, pi _, pj _⟩, _, _, rfl⟩ ?_ ?_⟩
    · rintro t σ H9 ht ⟨B9, p9, ⟨xs, q9, x, y, z, i, j, rfl, kx, ky, kz, pi, pj⟩, v2, v3, rfl⟩
      refine ⟨_, rfl, p, c, _, 5, rfl, p9, by omega, by decide, by decide, fun Ha s ba pa s0 s1 => ?_⟩
      have qa := ba _ _ neq q9
      have Ba := B9.trans ba
      have kx := kx.but ba p9 pa
      have ky := ky.but ba p9 pa
      have kz := kz.but ba p9 pa
      have pi := pi.but ba p9
      have pj := pj.but ba p9
      obtain ⟨sn, rfl⟩ : ∃ sn : Nat, s = sn := ⟨s.toNat, by omega⟩
      have hs5 : sn < 5 := by omega
      refine ⟨_, rfl, _, _, rfl, rfl, _, rfl, ?_⟩
      have ixs : ixN 5 (sn : Int) = some sn := by
        match sn, hs5 with
        | 0, _ => rfl
        | 1, _ => rfl
        | 2, _ => rfl
        | 3, _ => rfl
        | 4, _ => rfl
      refine ite2 (fun h => ?_) (fun h => ?_)
      · have h3 : sn < 3 := by have := of_decide_eq_true h; omega
        refine ⟨_, rfl, p, c, _, rfl, pa, by omega, fun Hb v bb pb kv => ?_⟩
        have qb := bb _ _ neq qa
        refine ⟨_, rfl, _, rfl, q, _, _, sn, rfl, rfl, qb, ixs, ?_⟩
        have P := set_parts (p := p) (n := n) hs5 (kx.but bb pa pb) (ky.but bb pa pb) (kz.but bb pa pb) (pi.but bb pa) (pj.but bb pa) (show (if sn < 3 then Kn Hb v else Pay Hb v) by rw [if_pos h3]; exact kv) qb
        refine ⟨fun b u n1 e => ?_, ?_, ⟨_, P⟩, _, _, rfl⟩
        · rw [upd_ne (ne_of_none e qH)]
          exact (Ba.trans bb) b u n1 e
        · obtain ⟨ns, a, r, g1, g2, g3, g4, g5, g6, g7⟩ := pb
          refine ⟨ns, a, r, by rw [upd_ne neq.symm]; exact g1, g2, ?_, g4, g5, by omega, g7⟩
          rw [upd_ne ncq]
          exact g3
      · have h3 : ¬ sn < 3 := by
          intro z
          exact h (decide_eq_true (by omega))
        refine ⟨_, rfl, p, c, _, rfl, pa, by omega, fun Hb v bb pb kv => ?_⟩
        have qb := bb _ _ neq qa
        refine ⟨_, rfl, _, rfl, q, _, _, sn, rfl, rfl, qb, ixs, ?_⟩
        have P := set_parts (p := p) (n := n) hs5 (kx.but bb pa pb) (ky.but bb pa pb) (kz.but bb pa pb) (pi.but bb pa) (pj.but bb pa) (show (if sn < 3 then Kn Hb v else Pay Hb v) by rw [if_neg h3]; exact kv) qb
        refine ⟨fun b u n1 e => ?_, ?_, ⟨_, P⟩, _, _, rfl⟩
        · rw [upd_ne (ne_of_none e qH)]
          exact (Ba.trans bb) b u n1 e
        · obtain ⟨ns, a, r, g1, g2, g3, g4, g5, g6, g7⟩ := pb
          refine ⟨ns, a, r, by rw [upd_ne neq.symm]; exact g1, g2, ?_, g4, g5, by omega, g7⟩
          rw [upd_ne ncq]
          exact g3
    · rintro σ H9 ⟨B9, p9, ⟨xs, P9⟩, v2, v3, rfl⟩
      exact ⟨_, rfl, k H9 q xs B9 (p9.mono (by omega)) P9⟩
end
end K06
namespace K06
open PySem PySem.Spec PyProof.Rows L2 Hx Gx KX LamX
theorem Kn.ext {H H' : Hp} {v : V} (k : Kn H v) (s : ExtN H H') : Kn H' v := by
  cases k with
  | str x h => exact .str x h
  | int i => exact .int i
  | non => exact .non
  | bl b => exact .bl b
  | tup h => exact .tup (s _ _ h (fun ps z => by cases z))
  | lst h => exact .lst (s _ _ h (fun ps z => by cases z))
  | dct h => exact .dct (s _ _ h (fun ps z => by cases z))
theorem Pay.ext {H H' : Hp} {v : V} (k : Pay H v) (s : ExtN H H') : Pay H' v := by
  cases k with
  | one => exact .one
  | x => exact .x
  | int i h => exact .int i h
  | non => exact .non
  | bl b => exact .bl b
  | tup h => exact .tup (s _ _ h (fun ps z => by cases z))
  | lst h => exact .lst (s _ _ h (fun ps z => by cases z))
  | dct h => exact .dct (s _ _ h (fun ps z => by cases z))
theorem Pay.rp_ext {H H' : Hp} {v : V} (k : Pay H v) (s : ExtN H H') : K06.rp H' v = K06.rp H v := by
  cases k with
  | tup h => show rpO (H' _) = rpO (H _); rw [h, s _ _ h (fun ps z => by cases z)]
  | lst h => show rpO (H' _) = rpO (H _); rw [h, s _ _ h (fun ps z => by cases z)]
  | dct h => show rpO (H' _) = rpO (H _); rw [h, s _ _ h (fun ps z => by cases z)]
  | _ => rfl
theorem dueD_ext {H H' : Hp} {x y z : V} {ps : List V} (hp : ∀ v ∈ ps, Pay H v) (s : ExtN H H') : dueD H' x y z ps = dueD H x y z ps := by
  unfold dueD
  split
  · rfl
  · split
    · rename_i v e
      rw [(hp v (List.mem_of_find?_eq_some e)).rp_ext s]
    · rfl
theorem strOk_of (s : String) : PyData.strOk (Str.ofString s) = true := by
  rw [Str.ofString_eq_toList]
  unfold PyData.strOk
  rw [Array.all_eq_true]
  intro i hi
  have hi2 : i < s.toList.length := by simpa using hi
  have z : (s.toList[i]).val.toNat < 1114112 := by
    have h := (s.toList[i]).valid
    simp only [UInt32.isValidChar, Nat.isValidChar] at h
    omega
  have e : (List.map Char.toNat s.toList).toArray[i] = (s.toList[i]).val.toNat := by
    simp only [List.getElem_toArray, List.getElem_map]
    rfl
  exact decide_eq_true (by rw [e]; exact z)
theorem Pay.lay {H : Hp} {v : V} (k : Pay H v) : PyData.strOk (K06.rp H v) = true := by
  cases k with
  | one => exact (by decide +kernel : PyData.strOk (reprText "1") = true)
  | x => exact (by decide +kernel : PyData.strOk (reprText "x") = true)
  | int i h => exact strOk_of _
  | non => exact (by decide +kernel : PyData.strOk "None" = true)
  | bl b =>
    cases b with
    | true => exact (by decide +kernel : PyData.strOk "True" = true)
    | false => exact (by decide +kernel : PyData.strOk "False" = true)
  | @tup a h =>
    have e : K06.rp H (.ref a) = (PyData.tuple [.int 1]).shown := by show rpO (H a) = _; rw [h]; rfl
    rw [e]
    decide +kernel
  | @lst a h =>
    have e : K06.rp H (.ref a) = (PyData.list []).shown := by show rpO (H a) = _; rw [h]; rfl
    rw [e]
    decide +kernel
  | @dct a h =>
    have e : K06.rp H (.ref a) = (PyData.dict []).shown := by show rpO (H a) = _; rw [h]; rfl
    rw [e]
    decide +kernel
theorem lay_pair {s u : Str} (hs : PyData.strOk s = true) (hu : PyData.strOk u = true) : PyData.canLay0 (.tuple [.str s, .str u]) = true ∧ PyData.depth (.tuple [.str s, .str u]) ≤ 1 := by
  refine ⟨?_, by simp [PyData.depth, PyData.depthAll]⟩
  simp [PyData.canLay0, PyData.canLayAll0, hs, hu]
theorem due_lay {H : Hp} {x y z : V} {ps : List V} (hp : ∀ v ∈ ps, Pay H v) : PyData.canLay0 (dueD H x y z ps) = true ∧ PyData.depth (dueD H x y z ps) ≤ 1 := by
  unfold dueD
  split
  · rename_i p e
    refine lay_pair (by decide +kernel) ?_
    unfold dueS at e
    split at e
    · split at e
      · split at e
        · split at e
          · cases e; decide +kernel
          · cases e
        · cases e; decide +kernel
      · cases e; decide +kernel
    · cases e; decide +kernel
  · split
    · rename_i v e
      exact lay_pair (by decide +kernel) (hp v (List.mem_of_find?_eq_some e)).lay
    · exact ⟨rfl, by decide⟩
theorem shaped4 {a b c d : PyData} (ha : PyData.canLay0 a = true ∧ PyData.depth a ≤ 1) (hb : PyData.canLay0 b = true ∧ PyData.depth b ≤ 1) (hc : PyData.canLay0 c = true ∧ PyData.depth c ≤ 1) (hd : PyData.canLay0 d = true ∧ PyData.depth d ≤ 1) :
    SeqAt.shaped (.list [a, b, c, d]) = true ∧ PyData.canLay0 (.list [a, b, c, d]) = true := by
  have h : PyData.canLay0 (.list [a, b, c, d]) = true := by
    simp [PyData.canLay0, PyData.canLayAll0, ha.1, hb.1, hc.1, hd.1]
  refine ⟨?_, h⟩
  unfold SeqAt.shaped
  rw [h]
  have h2 : PyData.depth (.list [a, b, c, d]) ≤ 64 := by
    simp only [PyData.depth, PyData.depthAll]
    omega
  simpa using h2
section
variable {P : Program} {w : World} {K : PySem.W.Frag} {mg : Str → Option Value} {base : Heap}
/-- a lane or an avenue asked for, and what is heard -/
theorem made3 {H1 : Hp} {Q : VK} {Qn : Hp → Prop} {a b c : V} {C : Str} {D : PyData} (ka : Kn H1 a) (kb : Kn H1 b) (kc : Kn H1 c) (eD : D = dueD H1 a b c []) (kk : ∀ (H' : Hp) (v : V), Same H1 H' → Val H' v D → Q v H') (kn : ∀ H', Q .non H' → Qn H') :
    ∀ x dx, H1 x = none → H1 dx = none → dx ≠ x → spI3 K C (.ref x :: [a, b, c]) (upd (upd H1 dx (.own x)) x (.ins (He.ga K C) dx [])) (fun v H2 => v = .non ∧ Qn H2) (fun cls d H' => Hrd K cls d H' Q) := by
  intro x dx nx nd ne
  have S0 : Same H1 (upd (upd H1 dx (.own x)) x (.ins (He.ga K C) dx [])) := fun b o e => by
    rw [upd_ne (ne_of_none e nx), upd_ne (ne_of_none e nd)]
    exact e
  refine ⟨x, dx, a, b, c, rfl, ka.same S0, kb.same S0, kc.same S0, upd_same, fun e H' bt => ⟨rfl, ?_⟩, fun p e => fun H' d s h => .inl ⟨d, p, rfl, rfl, h, fun H2 q s2 h2 => ?_⟩⟩
  · refine kn _ (kk H' .non (fun z o e1 => bt z o (ne_of_none e1 nx) (S0 _ _ e1)) ?_)
    rw [eD]
    unfold dueD
    rw [e]
    exact .non
  · refine kk H2 (.ref q) ((S0.trans s).trans s2) ?_
    rw [eD]
    unfold dueD
    rw [e]
    exact .pair h2
theorem made5 {H1 : Hp} {Q : VK} {Qn : Hp → Prop} {a b c i j : V} {ps : List V} {D : PyData} (ka : Kn H1 a) (kb : Kn H1 b) (kc : Kn H1 c) (ki : Pay H1 i) (kj : Pay H1 j) (eD : D = dueD H1 a b c ps) (ep : ps.find? (fun v => !pyV v) = dueP i j) (hps : ∀ v ∈ ps, Pay H1 v)
    (kk : ∀ (H' : Hp) (v : V), Same H1 H' → Val H' v D → Q v H') (kn : ∀ H', Q .non H' → Qn H') :
    ∀ x dx, H1 x = none → H1 dx = none → dx ≠ x → spI5 K (.ref x :: [a, b, c, i, j]) (upd (upd H1 dx (.own x)) x (.ins (He.ga K "Road") dx [])) (fun v H2 => v = .non ∧ Qn H2) (fun cls d H' => Hrd K cls d H' Q) := by
  intro x dx nx nd ne
  have S0 : Same H1 (upd (upd H1 dx (.own x)) x (.ins (He.ga K "Road") dx [])) := fun b o e => by
    rw [upd_ne (ne_of_none e nx), upd_ne (ne_of_none e nd)]
    exact e
  refine ⟨x, dx, a, b, c, i, j, rfl, ka.same S0, kb.same S0, kc.same S0, (ki.same S0).kn, (kj.same S0).kn, upd_same, fun e e2 H' bt => ⟨rfl, ?_⟩, fun p e => fun H' d s h => .inl ⟨d, p, rfl, rfl, h, fun H2 q s2 h2 => ?_⟩,
    fun e v e2 => fun H' d s h => .inr ⟨d, v, rp H1 v, rfl, rfl, h, fun H2 s2 => ?_, fun H2 q s2 h2 => ?_⟩⟩
  · refine kn _ (kk H' .non (fun z o e1 => bt z o (ne_of_none e1 nx) (S0 _ _ e1)) ?_)
    rw [eD]
    unfold dueD
    rw [e, ep, e2]
    exact .non
  · refine kk H2 (.ref q) ((S0.trans s).trans s2) ?_
    rw [eD]
    unfold dueD
    rw [e]
    exact .pair h2
  · have pv := hps v (List.mem_of_find?_eq_some (ep.trans e2))
    have s3 := (S0.trans s).trans s2
    rw [← pv.rp_same s3]
    exact (pv.same s3).rp
  · refine kk H2 (.ref q) ((S0.trans s).trans s2) ?_
    rw [eD]
    unfold dueD
    rw [e, ep, e2]
    exact .pair h2
theorem kb_rev3 {x q : Str} {params : Arguments} {body : List Stmt} {scope : Scope} {f : Addr} {fd : FuncData} {ps ks : List Str} (F : FunD K x q params body scope [] [] f fd) (l2 : ks.length = 3)
    (h : ∀ (kV doc pm : Value) (an : Option Addr) (cdv ct : Value) (s a b c : Value), bindArgs (PySem.W.fnOf x q params body scope .none kV doc pm an cdv ct) ⟨[s], ks.zip [a, b, c]⟩ = pure (ps.zip [s, c, b, a])) :
    KBn K fd ps 1 ks (fun us ws => us ++ ws.reverse) (fun vs zs => vs ++ zs.reverse) :=
  kbN F 1 ks (fun us ws => us ++ ws.reverse) (fun r1 r2 => r1.append (Vals.reverse r2)) fun kV doc pm an cdv ct us ws h1 h2 => by
    rw [l2] at h2
    match us, ws, h1, h2 with
    | [s], [a, b, c], _, _ => exact h kV doc pm an cdv ct s a b c
theorem kb_Lane {fd : FuncData} (F : Fd K d_Lane_init fd) : KBn K fd ["self", "name", "start", "goal"] 1 ["goal", "start", "name"] (fun us ws => us ++ ws.reverse) (fun vs zs => vs ++ zs.reverse) :=
  kb_rev3 F rfl fun _ _ _ _ _ _ _ _ _ _ => rfl
theorem kb_Avenue {fd : FuncData} (F : Fd K d_Avenue_init fd) : KBn K fd ["self", "name", "one", "other"] 1 ["other", "one", "name"] (fun us ws => us ++ ws.reverse) (fun vs zs => vs ++ zs.reverse) :=
  kb_rev3 F rfl fun _ _ _ _ _ _ _ _ _ _ => rfl
theorem br_Road {fd : FuncData} (F : Fd K d_Road_init fd) : Binds K fd ["self", "name", "one", "other", "there", "back"] [] := by
  obtain ⟨ds, hv, hb⟩ := FunD.binds1 (ps := ["self", "name", "one", "other", "there", "back"]) F 6 2 (by intro z; cases z) rfl (fun T kV doc pm an cdv ct us its hl h2 => match us, its, hl, h2 with | [_, _, _, _, _, _], [_, _], _, _ => ⟨_, rfl, rfl⟩)
  cases (show Vals [] ds from hv)
  exact hb
theorem br1_Road {fd : FuncData} (F : Fd K d_Road_init fd) : ∃ ds, Vals [.int 0] ds ∧ Binds K fd ["self", "name", "one", "other", "there", "back"] ds := by
  obtain ⟨ds, hv, hb⟩ := FunD.binds1 (ps := ["self", "name", "one", "other", "there", "back"]) F 5 1 (by intro z; cases z) rfl (fun T kV doc pm an cdv ct us its hl h2 => match us, its, hl, h2 with | [_, _, _, _, _], [_, _], _, _ => ⟨_, rfl, rfl⟩)
  exact ⟨ds, hv, hb⟩
theorem kb_Road {fd : FuncData} (F : Fd K d_Road_init fd) : ∃ its : List Value, KBn K fd ["self", "name", "one", "other", "there", "back"] 1 ["back", "there", "other", "one", "name"] (fun us ws => us ++ ws.reverse) (fun vs zs => vs ++ zs.reverse) := by
  obtain ⟨its, h⟩ := FunD.kbindsD (ps := ["self", "name", "one", "other", "there", "back"]) F 1 ["back", "there", "other", "one", "name"] (fun us _ ws => us ++ ws.reverse) (by intro z; cases z) (fun r1 _ r2 => r1.append (Vals.reverse r2))
    (fun T kV doc pm an cdv ct us its ws h1 h2 h3 => match us, its, ws, h1, h2, h3 with | [_], [_, _], [_, _, _, _, _], _, _, _ => ⟨_, rfl, rfl⟩)
  exact ⟨its, h⟩
theorem kb1_Road {fd : FuncData} (F : Fd K d_Road_init fd) : ∃ its : List Value, KBn K fd ["self", "name", "one", "other", "there", "back"] 4 ["back"] (fun us ws => us ++ its.take 1 ++ ws) (fun vs zs => vs ++ [.int 0] ++ zs) := by
  obtain ⟨its, h⟩ := FunD.kbindsD (ps := ["self", "name", "one", "other", "there", "back"]) F 4 ["back"] (fun us ds ws => us ++ ds.take 1 ++ ws) (by intro z; cases z) (fun r1 r2 r3 => (r1.append (r2.take 1)).append r3)
    (fun T kV doc pm an cdv ct us its ws h1 h2 h3 => match us, its, ws, h1, h2, h3 with | [_, _, _, _], [_, _], [_], _, _, _ => ⟨_, rfl, rfl⟩)
  exact ⟨its, h⟩
/-- the table of the lambdas' code objects -/
abbrev TP (K : PySem.W.Frag) : Addr := (He.cT K ("_law_right", none)).2
abbrev TQ : Str := "_law_right" ++ ".<locals>." ++ "<lambda>"
theorem pe_heard {X : Cx} {params : Arguments} {body : Expr} {scope : Scope} {t : XK → TE} {p lpos pos : Pos} (T : Tx X.K X.mg) (gu : X.A.guards = some []) (hg : Gl X "_law_heard") (TB : TabB X.base X.mg (He.cT X.K ("_law_right", none)).1 (TP X.K))
    (hcode : X.env.code = .ref (He.cT X.K ("_law_right", none)).1) (hq : X.env.qual ++ "<lambda>" = TQ) (hr : Room 7 X.A) (L : LamS X.env.scope scope) (hdef : defaultsOf params X.env = ([], []))
    (hbind : ∀ (q : Str) (cl : List (Str × Addr)) (pm cv ctv : Value), bindArgs (PySem.W.kla_fn "<lambda>" q params body scope cl pm cv ctv) ⟨[], []⟩ = pure [])
    (hbody : ∀ (A : Around) (outer : List Env) (s : Shared) (H : Hp) (E : XK) (f c' : Addr), Room 5 (A.deeper (lamEnv X scope s.heap.objs.size f c')) → PE (lamCx X A outer s H E scope f c') body (t E)) :
    PE X (.Call (.Name "_law_heard" p) [.Lambda params body scope lpos] [] pos) (tLam [(TP X.K, TQ)] (THeard X.K) t) := by
  obtain ⟨fd, F⟩ := f__law_heard T
  have hb := F.bindsN (ps := ["_law_ask"]) fun _ _ _ _ _ _ us hl => match us, hl with | [_], _ => rfl
  obtain ⟨oc, od, dV, kV, doc, pm, an, cdv, ct, osl, rfl, lk, hcd, _, _⟩ := F.ex
  exact pe_lamcall (k := 5) hg (g__law_heard T) F.kp lk hcd hb sc_heard rfl (.inl rfl) (heard_gives T gu (k := 6) hr) TB hcode (by rw [hq]; exact List.mem_singleton.mpr rfl) (by intro p hp _; rw [List.mem_singleton.mp hp, hq]) hr L hdef hbind hbody
end
end K06
namespace K06
open PySem PySem.Spec PyProof.Rows L2 Hx Gx KX LamX
section
variable {P : Program} {w : World} {K : PySem.W.Frag} {mg : Str → Option Value} {base : Heap}
theorem find2 (i j : V) : ([i, j] : List V).find? (fun v => !pyV v) = dueP i j := by
  unfold dueP
  cases h : pyV i <;> cases h2 : pyV j <;> simp [List.find?, h, h2]
theorem find1 (i : V) : ([i] : List V).find? (fun v => !pyV v) = dueP i (.int 0) := by
  have z : pyV (.int 0) = true := by decide
  unfold dueP
  cases h : pyV i <;> simp [List.find?, h, z]
theorem find1b (j : V) : ([j] : List V).find? (fun v => !pyV v) = dueP (.int 0) j := by
  have z : pyV (.int 0) = true := by decide
  unfold dueP
  cases h : pyV j <;> simp [List.find?, h, z]
def spRight (K : PySem.W.Frag) : Sp := fun vs H Q _ => ∃ (a : Addr) (xs : List V), vs = [.ref a] ∧ Parts H a xs ∧ TabS H (TP K) TQ ∧ ∀ H', ExtN H H' → TabS H' (TP K) TQ → Q (.bl true) H'
theorem sc_right : FnScope ["_law_parts", "_law_heard_here", "_law_dues", "_law_a", "_law_b", "_law_c", "_law_d", "_law_e"] ["_law_parts"] (defScope s__law_right) := ⟨rfl, rfl, rfl, by decide +kernel, rfl, by decide +kernel, by decide +kernel⟩
theorem tabs1 {H : Hp} (t : TabS H (TP K) TQ) : Tabs [(TP K, TQ)] H := fun p hp => by rw [List.mem_singleton.mp hp]; exact t
theorem tabs2 {H : Hp} (t : Tabs [(TP K, TQ)] H) : TabS H (TP K) TQ := t _ (List.mem_singleton.mpr rfl)
theorem p_right (T : Tx K mg) (TB : TabB base mg (He.cT K ("_law_right", none)).1 (TP K)) : PromG P w K mg base 8 d__law_right ["_law_parts"] (spRight K) := by
  obtain ⟨fd, F⟩ := f__law_right T
  obtain ⟨fdD, FD, GD, BD⟩ := p_due (P := P) (w := w) (base := base) T
  obtain ⟨fdL, FL, GL, BL⟩ := p_Lane_init (P := P) (w := w) (base := base) T
  obtain ⟨fdA, FA, GA, BA⟩ := p_Avenue_init (P := P) (w := w) (base := base) T
  obtain ⟨fdR, FR, GR⟩ := p_Road_init (P := P) (w := w) (base := base) T
  have KL := kb_Lane FL
  have KA := kb_Avenue FA
  have BR := br_Road FR
  obtain ⟨ds1, DR1, BR1⟩ := br1_Road FR
  obtain ⟨its, KR⟩ := kb_Road FR
  obtain ⟨its1, KR1⟩ := kb1_Road FR
  refine ⟨fd, F, FnG.bodyT (p := ("_law_right", none)) rfl F sc_right (fun vs H Q E h => ?_) (fun A outer s H vs Q E hr gu h => ?_), F.bindsN fun _ _ _ _ _ _ us hl => match us, hl with | [_], _ => rfl⟩
  · obtain ⟨a, xs, rfl, _⟩ := h
    rfl
  · obtain ⟨a, xs, rfl, ⟨ha, x, y, z, i, j, rfl, kx, ky, kz, pi, pj⟩, tb, k⟩ := h
    refine ⟨_, (pss_cons (ps_asg (pv 0) (pg_lst rfl (pgs_cons (pg_name (i := 3) sc_right.nd rfl (Or.inr rfl)) (pgs_cons (pg_name (i := 4) sc_right.nd rfl (Or.inr rfl)) (pgs_cons (pg_name (i := 5) sc_right.nd rfl (Or.inr rfl)) (pgs_cons (pg_name (i := 6) sc_right.nd rfl (Or.inr rfl)) (pgs_cons (pg_name (i := 7) sc_right.nd rfl (Or.inr rfl)) pgs_nil)))))))
      (pss_cons (ps_set (i := 1) sc_right.nd rfl (Or.inl rfl) (pe_lst (pa_cons (pe_heard T gu rfl TB rfl rfl hr (lamS_by (sc := defScope s__law_right) (by decide +kernel)) rfl (fun _ _ _ _ _ => rfl) (fun A outer s H E f c' hr5 => pe_make (mk_Lane T) GL hr5 rfl (g_Lane T) BL .nil (passes_call (takes_of rfl rfl rfl rfl) (fun _ _ _ _ h => h)) (pa_cons (pv 3) (pa_cons (pv 4) (pa_cons (pv 5) pa_nil))))) pa_nil)))
      (pss_cons (ps_expr (pe_bm PySem.F.plainAttrs_list PySem.F.slot_list_append PySem.F.type_list_append mt_append (pv 1) (pa_cons (pe_heard T gu rfl TB rfl rfl hr (lamS_by (sc := defScope s__law_right) (by decide +kernel)) rfl (fun _ _ _ _ _ => rfl) (fun A outer s H E f c' hr5 => pe_make (mk_Avenue T) GA hr5 rfl (g_Avenue T) BA .nil (passes_call (takes_of rfl rfl rfl rfl) (fun _ _ _ _ h => h)) (pa_cons (pv 3) (pa_cons (pv 4) (pa_cons (pv 5) pa_nil))))) pa_nil)))
      (pss_cons (ps_expr (pe_bm PySem.F.plainAttrs_list PySem.F.slot_list_append PySem.F.type_list_append mt_append (pv 1) (pa_cons (pe_heard T gu rfl TB rfl rfl hr (lamS_by (sc := defScope s__law_right) (by decide +kernel)) rfl (fun _ _ _ _ _ => rfl) (fun A outer s H E f c' hr5 => pe_makeK0 (mk_Lane T) GL hr5 rfl (g_Lane T) KL (passes_call (takes_of rfl rfl rfl rfl) (fun _ _ _ _ h => h)) (pk_cons (pv 5) (pk_cons (pv 4) (pk_cons (pv 3) pk_nil))))) pa_nil)))
      (pss_cons (ps_expr (pe_bm PySem.F.plainAttrs_list PySem.F.slot_list_append PySem.F.type_list_append mt_append (pv 1) (pa_cons (pe_heard T gu rfl TB rfl rfl hr (lamS_by (sc := defScope s__law_right) (by decide +kernel)) rfl (fun _ _ _ _ _ => rfl) (fun A outer s H E f c' hr5 => pe_makeK0 (mk_Avenue T) GA hr5 rfl (g_Avenue T) KA (passes_call (takes_of rfl rfl rfl rfl) (fun _ _ _ _ h => h)) (pk_cons (pv 5) (pk_cons (pv 4) (pk_cons (pv 3) pk_nil))))) pa_nil)))
      (pss_cons (ps_if (pt_cmpR (op_neD (hu64 hr)) (pv 1) (pe_op op_rep (pe_lst (pa_cons (pe_callG gu GD (hr.mono (by decide)) rfl (g__law_due T) FD.kp BD .nil pass0 (pa_cons (pe_slice sl_list (pv 0) po_none (po_some pe_int)) pa_nil)) pa_nil)) pe_int) (nomark _)) (pss_one (ps_ret pe_bl)) pss_nil)
      (pss_cons (ps_set (i := 1) sc_right.nd rfl (Or.inl rfl) (pe_lst (pa_cons (pe_heard T gu rfl TB rfl rfl hr (lamS_by (sc := defScope s__law_right) (by decide +kernel)) rfl (fun _ _ _ _ _ => rfl) (fun A outer s H E f c' hr5 => pe_make (mk_Road T) GR hr5 rfl (g_Road T) BR .nil (passes_call (takes_of rfl rfl rfl rfl) (fun _ _ _ _ h => h)) (pa_cons (pv 3) (pa_cons (pv 4) (pa_cons (pv 5) (pa_cons (pv 6) (pa_cons (pv 7) pa_nil))))))) pa_nil)))
      (pss_cons (ps_expr (pe_bm PySem.F.plainAttrs_list PySem.F.slot_list_append PySem.F.type_list_append mt_append (pv 1) (pa_cons (pe_heard T gu rfl TB rfl rfl hr (lamS_by (sc := defScope s__law_right) (by decide +kernel)) rfl (fun _ _ _ _ _ => rfl) (fun A outer s H E f c' hr5 => pe_makeK0 (mk_Road T) GR hr5 rfl (g_Road T) KR (passes_call (takes_of rfl rfl rfl rfl) (fun _ _ _ _ h => h)) (pk_cons (pv 7) (pk_cons (pv 6) (pk_cons (pv 5) (pk_cons (pv 4) (pk_cons (pv 3) pk_nil))))))) pa_nil)))
      (pss_cons (ps_expr (pe_bm PySem.F.plainAttrs_list PySem.F.slot_list_append PySem.F.type_list_append mt_append (pv 1) (pa_cons (pe_heard T gu rfl TB rfl rfl hr (lamS_by (sc := defScope s__law_right) (by decide +kernel)) rfl (fun _ _ _ _ _ => rfl) (fun A outer s H E f c' hr5 => pe_make (mk_Road T) GR hr5 rfl (g_Road T) BR1 DR1 (passes_call (takes_of rfl rfl rfl rfl) (fun _ _ _ _ h => h)) (pa_cons (pv 3) (pa_cons (pv 4) (pa_cons (pv 5) (pa_cons (pv 6) pa_nil)))))) pa_nil)))
      (pss_cons (ps_expr (pe_bm PySem.F.plainAttrs_list PySem.F.slot_list_append PySem.F.type_list_append mt_append (pv 1) (pa_cons (pe_heard T gu rfl TB rfl rfl hr (lamS_by (sc := defScope s__law_right) (by decide +kernel)) rfl (fun _ _ _ _ _ => rfl) (fun A outer s H E f c' hr5 => pe_makeK (mk_Road T) GR hr5 rfl (g_Road T) KR1 (passes_call (takes_of rfl rfl rfl rfl) (fun _ _ _ _ h => h)) (pa_cons (pv 3) (pa_cons (pv 4) (pa_cons (pv 5) pa_nil))) (pk_cons (pv 7) pk_nil))) pa_nil)))
      (pss_cons (ps_set (i := 2) sc_right.nd rfl (Or.inl rfl) (pe_op op_cat (pe_op op_rep (pe_lst (pa_cons (pe_callG gu GD (hr.mono (by decide)) rfl (g__law_due T) FD.kp BD .nil pass0 (pa_cons (pv 0) pa_nil)) pa_nil)) pe_int) (pe_lst (pa_cons (pe_callG gu GD (hr.mono (by decide)) rfl (g__law_due T) FD.kp BD .nil pass0 (pa_cons (pe_slice sl_list (pv 0) po_none (po_some pe_int)) pa_nil)) (pa_cons (pe_callG gu GD (hr.mono (by decide)) rfl (g__law_due T) FD.kp BD .nil pass0 (pa_cons (pe_op op_cat (pe_slice sl_list (pv 0) po_none (po_some pe_int)) (pe_slice sl_list (pv 0) (po_some pe_int) po_none)) pa_nil)) pa_nil)))))
      (pss_one (ps_ret (pe_cmpR (op_eqD (hu64 hr)) (pv 1) (pv 2) (nomark _))))))))))))))), ?_⟩
    refine ⟨_, rfl, a, _, rfl, SqL.of ha, rfl, ?_⟩
    refine ⟨_, _, rfl, _, _, rfl, _, _, rfl, _, _, rfl, _, _, rfl, rfl, ?_⟩
    have pps : ∀ v ∈ ([i, j] : List V), Pay H v := fun v h => by
      simp only [List.mem_cons, List.not_mem_nil, or_false] at h
      rcases h with rfl | rfl
      · exact pi
      · exact pj
    have pp1 : ∀ v ∈ ([i] : List V), Pay H v := fun v h => by
      simp only [List.mem_cons, List.not_mem_nil, or_false] at h
      rcases h with rfl
      exact pi
    have pp2 : ∀ v ∈ ([j] : List V), Pay H v := fun v h => by
      simp only [List.mem_cons, List.not_mem_nil, or_false] at h
      rcases h with rfl
      exact pj
    have pp0 : ∀ v ∈ ([] : List V), Pay H v := fun v h => by cases h
    have d0 : ∀ {G : Hp}, ExtN H G → dueD H x y z [] = dueD G x y z [] := fun e => (dueD_ext pp0 e).symm
    have dd : ∀ {G : Hp}, ExtN H G → dueD H x y z [i, j] = dueD G x y z [i, j] := fun e => (dueD_ext pps e).symm
    have di : ∀ {G : Hp}, ExtN H G → dueD H x y z [i] = dueD G x y z [i] := fun e => (dueD_ext pp1 e).symm
    have dj : ∀ {G : Hp}, ExtN H G → dueD H x y z [j] = dueD G x y z [j] := fun e => (dueD_ext pp2 e).symm
    refine ⟨tabs1 tb, fun H1 e1 t1 => ⟨_, rfl, _, rfl, _, rfl, made3 (kx.ext e1) (ky.ext e1) (kz.ext e1) (d0 e1) (fun H2 v1 s2 r2 => ⟨(by show 1 ≤ sizeLine; decide), fun l nl => ?_⟩) (fun _ h => h)⟩⟩
    have S1 := Stt.start e1 (tabs2 t1) s2 r2 nl
    generalize upd H2 l (.lst [v1]) = H3 at S1
    refine ⟨_, rfl, .inl ⟨rfl, _, SqL.of S1.at_⟩, tabs1 S1.tab, fun H4 e4 t4 => ?_⟩
    have e4' := S1.ext.trans e4
    refine ⟨_, rfl, _, rfl, _, rfl, made3 (kx.ext e4') (ky.ext e4') (kz.ext e4') (d0 e4') (fun H5 v2 s5 r5 => ?_) (fun _ h => h)⟩
    obtain ⟨l5, S2⟩ := S1.step e4 (tabs2 t4) s5 r5
    refine ⟨l, _, _, rfl, rfl, l5, (by show 1 < sizeLine; decide), ?_⟩
    generalize upd H5 l (.lst ([v1] ++ [v2])) = H6 at S2
    refine ⟨_, rfl, .inl ⟨rfl, _, SqL.of S2.at_⟩, tabs1 S2.tab, fun H7 e7 t7 => ?_⟩
    have e7' := S2.ext.trans e7
    refine ⟨_, rfl, _, rfl, _, rfl, rfl, rfl, made3 (kx.ext e7') (ky.ext e7') (kz.ext e7') (d0 e7') (fun H8 v3 s8 r8 => ?_) (fun _ h => h)⟩
    obtain ⟨l8, S3⟩ := S2.step e7 (tabs2 t7) s8 r8
    refine ⟨l, _, _, rfl, rfl, l8, (by show 2 < sizeLine; decide), ?_⟩
    generalize upd H8 l (.lst ([v1] ++ [v2] ++ [v3])) = H9 at S3
    refine ⟨_, rfl, .inl ⟨rfl, _, SqL.of S3.at_⟩, tabs1 S3.tab, fun Ha ea ta => ?_⟩
    have ea' := S3.ext.trans ea
    refine ⟨_, rfl, _, rfl, _, rfl, rfl, rfl, made3 (kx.ext ea') (ky.ext ea') (kz.ext ea') (d0 ea') (fun Hb v4 sb rb => ?_) (fun _ h => h)⟩
    obtain ⟨lb, S4⟩ := S3.step ea (tabs2 ta) sb rb
    refine ⟨l, _, _, rfl, rfl, lb, (by show 3 < sizeLine; decide), ?_⟩
    generalize upd Hb l (.lst ([v1] ++ [v2] ++ [v3] ++ [v4])) = Hc at S4
    clear S1 S2 S3 e1 e4 e7 ea e4' e7' ea' t1 t4 t7 ta s2 s5 s8 sb r2 r5 r8 rb nl l5 l8 lb H1 H2 H3 H4 H5 H6 H7 H8 H9 Ha Hb
    have haC : Hc a = some (.lst [x, y, z, i, j]) := S4.ext _ _ ha (fun ps z => by cases z)
    refine ⟨_, rfl, _, rfl, 3, rfl, a, _, rfl, SqL.of haC, fun m nm => ⟨m, x, y, z, [], rfl, SqL.of (by rw [upd_same]; rfl), (by decide), ?_⟩⟩
    have S5 := S4.same (new_same nm (.lst (cutV [x, y, z, i, j] none (some 3))))
    generalize upd Hc m (.lst (cutV [x, y, z, i, j] none (some 3))) = Hd at S5
    have eD := S5.ext
    refine ⟨kx.ext eD, ky.ext eD, kz.ext eD, (fun v h => by cases h), fun He v sE rE => ?_⟩
    rw [← d0 eD] at rE
    refine ⟨(by show 1 ≤ sizeLine; decide), fun l2 n2 => ⟨l2, 4, [v], rfl, rfl, upd_same, by decide, by decide, (by show 4 ≤ sizeLine; decide), fun l3 n3 => ?_⟩⟩
    have qF : upd (upd He l2 (.lst [v])) l3 (.lst (List.replicate (Int.toNat 4) [v]).flatten) l3 = some (.lst [v, v, v, v]) := upd_same
    have sF := (sE.trans (new_same n2 (.lst [v]))).trans (new_same n3 (.lst (List.replicate (Int.toNat 4) [v]).flatten))
    have vF := rE.same ((new_same n2 (.lst [v])).trans (new_same n3 (.lst (List.replicate (Int.toNat 4) [v]).flatten)))
    generalize upd (upd He l2 (.lst [v])) l3 (.lst (List.replicate (Int.toNat 4) [v]).flatten) = Hf at qF sF vF
    have S6 := S5.same sF
    have lay0 := due_lay (x := x) (y := y) (z := z) pp0
    obtain ⟨sh, ly⟩ := shaped4 lay0 lay0 lay0 lay0
    refine ⟨.list [dueD H x y z [], dueD H x y z [], dueD H x y z [], dueD H x y z []], .list [dueD H x y z [], dueD H x y z [], dueD H x y z [], dueD H x y z []], .lst (SqL.of S6.at_) (vals_dp S6.vals), .lst (SqL.of qF) (.cons vF.dp (.cons vF.dp (.cons vF.dp (.cons vF.dp .nil)))), sh, sh, _, rfl, ?_⟩
    rw [SeqAt.eqv_refl _ ly]
    refine iteF ?_
    have eF := S6.ext
    have tF := S6.tab
    clear S4 S5 S6 sE rE vF qF sF eD haC nm n2 n3 Hc Hd He
    refine ⟨tabs1 tF, fun H1 e1 t1 => ?_⟩
    have e1' := eF.trans e1
    refine ⟨_, rfl, _, rfl, _, rfl, _, rfl, _, rfl, made5 (kx.ext e1') (ky.ext e1') (kz.ext e1') (pi.ext e1') (pj.ext e1') (dd e1') (find2 i j) (fun v h => (pps v h).ext e1') (fun H2 v1 s2 r2 => ⟨(by show 1 ≤ sizeLine; decide), fun l nl => ?_⟩) (fun _ h => h)⟩
    have S1 := Stt.start e1' (tabs2 t1) s2 r2 nl
    generalize upd H2 l (.lst [v1]) = H3 at S1
    refine ⟨_, rfl, .inl ⟨rfl, _, SqL.of S1.at_⟩, tabs1 S1.tab, fun H4 e4 t4 => ?_⟩
    have e4' := S1.ext.trans e4
    refine ⟨_, rfl, _, rfl, _, rfl, _, rfl, _, rfl, rfl, rfl, made5 (kx.ext e4') (ky.ext e4') (kz.ext e4') (pi.ext e4') (pj.ext e4') (dd e4') (find2 i j) (fun v h => (pps v h).ext e4') (fun H5 v2 s5 r5 => ?_) (fun _ h => h)⟩
    obtain ⟨l5, S2⟩ := S1.step e4 (tabs2 t4) s5 r5
    refine ⟨l, _, _, rfl, rfl, l5, (by show 1 < sizeLine; decide), ?_⟩
    generalize upd H5 l (.lst ([v1] ++ [v2])) = H6 at S2
    refine ⟨_, rfl, .inl ⟨rfl, _, SqL.of S2.at_⟩, tabs1 S2.tab, fun H7 e7 t7 => ?_⟩
    have e7' := S2.ext.trans e7
    refine ⟨_, rfl, _, rfl, _, rfl, _, rfl, made5 (kx.ext e7') (ky.ext e7') (kz.ext e7') (pi.ext e7') (.int 0 (by decide)) (di e7') (find1 i) (fun v h => (pp1 v h).ext e7') (fun H8 v3 s8 r8 => ?_) (fun _ h => h)⟩
    obtain ⟨l8, S3⟩ := S2.step e7 (tabs2 t7) s8 r8
    refine ⟨l, _, _, rfl, rfl, l8, (by show 2 < sizeLine; decide), ?_⟩
    generalize upd H8 l (.lst ([v1] ++ [v2] ++ [v3])) = H9 at S3
    refine ⟨_, rfl, .inl ⟨rfl, _, SqL.of S3.at_⟩, tabs1 S3.tab, fun Ha ea ta => ?_⟩
    have ea' := S3.ext.trans ea
    refine ⟨_, rfl, _, rfl, _, rfl, _, rfl, rfl, rfl, made5 (kx.ext ea') (ky.ext ea') (kz.ext ea') (.int 0 (by decide)) (pj.ext ea') (dj ea') (find1b j) (fun v h => (pp2 v h).ext ea') (fun Hb v4 sb rb => ?_) (fun _ h => h)⟩
    obtain ⟨lb, S4⟩ := S3.step ea (tabs2 ta) sb rb
    refine ⟨l, _, _, rfl, rfl, lb, (by show 3 < sizeLine; decide), ?_⟩
    generalize upd Hb l (.lst ([v1] ++ [v2] ++ [v3] ++ [v4])) = Hc at S4
    clear S1 S2 S3 e1 e4 e7 ea e1' e4' e7' ea' t1 t4 t7 ta s2 s5 s8 sb r2 r5 r8 rb nl l5 l8 lb H1 H2 H3 H4 H5 H6 H7 H8 H9 Ha Hb eF tF Hf
    -- dues
    have haC : Hc a = some (.lst [x, y, z, i, j]) := S4.ext _ _ ha (fun ps z => by cases z)
    have eC := S4.ext
    refine ⟨_, rfl, a, x, y, z, [i, j], rfl, SqL.of haC, (by show 2 ≤ 2; decide), kx.ext eC, ky.ext eC, kz.ext eC, (fun v h => (pps v h).ext eC), fun Hd w1 sd rd => ?_⟩
    rw [← dd eC] at rd
    refine ⟨(by show 1 ≤ sizeLine; decide), fun k1 n1 => ⟨k1, 2, [w1], rfl, rfl, upd_same, by decide, by decide, (by show 2 ≤ sizeLine; decide), fun k2 n2 => ?_⟩⟩
    have q2 : upd (upd Hd k1 (.lst [w1])) k2 (.lst (List.replicate (Int.toNat 2) [w1]).flatten) k2 = some (.lst [w1, w1]) := upd_same
    have s2 := (new_same n1 (.lst [w1])).trans (new_same n2 (.lst (List.replicate (Int.toNat 2) [w1]).flatten))
    generalize upd (upd Hd k1 (.lst [w1])) k2 (.lst (List.replicate (Int.toNat 2) [w1]).flatten) = He at q2 s2
    have S5 := (S4.same sd).same s2
    have r2 := rd.same s2
    have ha5 := s2 _ _ (sd _ _ haC)
    refine ⟨_, rfl, 4, rfl, a, _, rfl, SqL.of ha5, fun m nm => ⟨m, x, y, z, [i], rfl, SqL.of (by rw [upd_same]; rfl), (by show 1 ≤ 2; decide), ?_⟩⟩
    have s6 := new_same nm (.lst (cutV [x, y, z, i, j] none (some 4)))
    have e6 := ExtN.same S5.ext s6
    refine ⟨kx.ext e6, ky.ext e6, kz.ext e6, (fun v h => (pp1 v h).ext e6), fun Hf w2 sf rf => ?_⟩
    rw [← di e6] at rf
    have s7 := s6.trans sf
    have S7 := S5.same s7
    have r7 := r2.same s7
    have q7 := s7 _ _ q2
    have ha7 := s7 _ _ ha5
    refine ⟨_, rfl, 3, rfl, a, _, rfl, SqL.of ha7, fun m2 nm2 => ?_⟩
    have s8 := new_same nm2 (.lst (cutV [x, y, z, i, j] none (some 3)))
    have g8 : upd Hf m2 (.lst (cutV [x, y, z, i, j] none (some 3))) m2 = some (.lst [x, y, z]) := upd_same
    generalize upd Hf m2 (.lst (cutV [x, y, z, i, j] none (some 3))) = Hg at s8 g8
    refine ⟨_, rfl, 4, rfl, a, _, rfl, SqL.of (s8 _ _ ha7), fun m3 nm3 => ?_⟩
    have s9 := new_same nm3 (.lst (cutV [x, y, z, i, j] (some 4) none))
    have g9 : upd Hg m3 (.lst (cutV [x, y, z, i, j] (some 4) none)) m3 = some (.lst [j]) := upd_same
    generalize upd Hg m3 (.lst (cutV [x, y, z, i, j] (some 4) none)) = Hh at s9 g9
    refine ⟨m2, m3, _, _, rfl, rfl, s9 _ _ g8, g9, (by show 4 ≤ sizeLine; decide), fun m4 nm4 => ?_⟩
    have sA := (s8.trans s9).trans (new_same nm4 (.lst ([x, y, z] ++ [j])))
    have eA := ExtN.same S7.ext sA
    refine ⟨m4, x, y, z, [j], rfl, SqL.of upd_same, (by show 1 ≤ 2; decide), kx.ext eA, ky.ext eA, kz.ext eA, (fun v h => (pp2 v h).ext eA), fun Hj w3 sj rj => ?_⟩
    rw [← dj eA] at rj
    have sB := sA.trans sj
    have SB := S7.same sB
    refine ⟨(by show 2 ≤ sizeLine; decide), fun k4 n4 => ?_⟩
    have sC := new_same n4 (.lst [w2, w3])
    refine ⟨k2, k4, _, _, rfl, rfl, sC _ _ (sB _ _ q7), upd_same, (by show 4 ≤ sizeLine; decide), fun k5 n5 => ?_⟩
    have sD := sC.trans (new_same n5 (.lst ([w1, w1] ++ [w2, w3])))
    have q5 : upd (upd Hj k4 (.lst [w2, w3])) k5 (.lst ([w1, w1] ++ [w2, w3])) k5 = some (.lst [w1, w1, w2, w3]) := upd_same
    generalize upd (upd Hj k4 (.lst [w2, w3])) k5 (.lst ([w1, w1] ++ [w2, w3])) = Hk at sD q5
    have SD := SB.same sD
    have w1D := (r7.same sB).same sD
    have w2D := (rf.same sB).same sD
    have w3D := rj.same sD
    have lay2 := due_lay (x := x) (y := y) (z := z) pps
    obtain ⟨sh, ly⟩ := shaped4 lay2 lay2 (due_lay (x := x) (y := y) (z := z) pp1) (due_lay (x := x) (y := y) (z := z) pp2)
    refine ⟨_, rfl, _, rfl, .list [dueD H x y z [i, j], dueD H x y z [i, j], dueD H x y z [i], dueD H x y z [j]], .list [dueD H x y z [i, j], dueD H x y z [i, j], dueD H x y z [i], dueD H x y z [j]], .lst (SqL.of SD.at_) (vals_dp SD.vals), .lst (SqL.of q5) (.cons w1D.dp (.cons w1D.dp (.cons w2D.dp (.cons w3D.dp .nil)))), sh, sh, ?_⟩
    rw [SeqAt.eqv_refl _ ly]
    exact k _ SD.ext SD.tab
end
end K06
namespace K06
open PySem PySem.Spec PyProof.Rows L2 Hx Gx KX LamX
theorem PenAt.ext {H H' : Hp} {p c : Addr} {n : Nat} (h : PenAt H p c n) (e : ExtN H H') : PenAt H' p c n := by
  obtain ⟨ns, a, r, h1, h2, h3, h4⟩ := h
  exact ⟨ns, a, r, e _ _ h1 (fun ps z => by cases z), h2, e _ _ h3 (fun ps z => by cases z), h4⟩
theorem tab_but {H H' : Hp} {P p c : Addr} {n : Nat} {q : Str} (t : TabS H P q) (b : But p H H') (h : PenAt H p c n) : TabS H' P q := by
  obtain ⟨ps, h1, h2, h3⟩ := t
  obtain ⟨ns, a, r, g1, _⟩ := h
  refine ⟨ps, b _ _ (fun z => by rw [z, g1] at h1; cases h1) h1, h2, fun pos cv hc => ?_⟩
  obtain ⟨d, e1, e2⟩ := h3 pos cv hc
  refine ⟨d, e1, b _ _ (fun z => ?_) e2⟩
  rw [z, g1] at e2
  unfold CodeO at e2
  cases e2
theorem parts_of {H H' : Hp} {q : Addr} {xs : List V} (h : Parts H q xs) (e : ExtN H H') : Parts H' q xs := by
  obtain ⟨h1, x, y, z, i, j, rfl, kx, ky, kz, pi, pj⟩ := h
  exact ⟨e _ _ h1 (fun ps z => by cases z), x, y, z, i, j, rfl, kx.ext e, ky.ext e, kz.ext e, pi.ext e, pj.ext e⟩
section
variable {P : Program} {w : World} {K : PySem.W.Frag} {mg : Str → Option Value} {base : Heap}
def spLaw (K : PySem.W.Frag) : Sp := fun vs H Q _ => ∃ (a : Addr) (ns : List Int), vs = [.ref a] ∧ SqL K H a (ns.map V.int) ∧ ns.length ≤ 63 ∧ TabS H (TP K) TQ ∧ ∀ H', Q (.bl true) H'
theorem sc_law : FnScope ["_law_script", "_law_pen_here", "_law_turn", "_law_some", "_law_parts"] ["_law_script"] (defScope s_law) := ⟨rfl, rfl, rfl, by decide +kernel, rfl, by decide +kernel, by decide +kernel⟩
theorem p_law (T : Tx K mg) (TB : TabB base mg (He.cT K ("_law_right", none)).1 (TP K)) : ∃ fd, Fd K d_law fd ∧ FnG P w K mg base CX0 9 (d_law.adr K) fd ["_law_script"] (spLaw K) := by
  obtain ⟨fd, F⟩ := f_law T
  obtain ⟨fdE, FE, GE, BE⟩ := p_pen (P := P) (w := w) (base := base) T
  obtain ⟨fdW, FW, GW, BW⟩ := p_drawn (P := P) (w := w) (base := base) T
  obtain ⟨fdR, FR, GR, BR⟩ := p_right (P := P) (w := w) (base := base) T TB
  refine ⟨fd, F, FnG.body F sc_law (fun vs H Q E h => ?_) (fun cdv A outer s H vs Q E hr gu h => ?_)⟩
  · obtain ⟨a, ns, rfl, _⟩ := h
    rfl
  · obtain ⟨a, ns, rfl, hs, hl, tb, k⟩ := h
    refine ⟨_, PSs.nox (pss_cons (ps_set (i := 1) sc_law.nd rfl (Or.inl rfl) (pe_call GE (hr.mono (by decide)) rfl (g__law_pen T) FE.kp BE .nil pass0 (pa_cons (pv 0) pa_nil)))
      (pss_cons (ps_for PassesOwn.never rfl (pi_range1 (by rfl) (n_range T) (pa_cons pe_int pa_nil)) (pg_name (i := 2) sc_law.nd rfl (Or.inl rfl)) (pss_one (ps_if (pt_not (pt_val (pe_callG gu GR hr rfl (g__law_right T) FR.kp BR .nil pass0 (pa_cons (pe_call GW (hr.mono (by decide)) rfl (g__law_drawn T) FW.kp BW .nil pass0 (pa_cons (pv 1) pa_nil)) pa_nil)))) (pss_one (ps_ret pe_bl)) pss_nil)))
      (pss_cons (ps_set (i := 3) sc_law.nd rfl (Or.inl rfl) (pe_lst (pa_cons (pe_lst (pa_cons pe_non (pa_cons pe_str (pa_cons pe_str (pa_cons pe_non (pa_cons pe_non pa_nil)))))) (pa_cons (pe_lst (pa_cons pe_str (pa_cons pe_str (pa_cons pe_int (pa_cons pe_non (pa_cons pe_int pa_nil)))))) (pa_cons (pe_lst (pa_cons pe_str (pa_cons pe_str (pa_cons pe_str (pa_cons pe_str (pa_cons pe_int pa_nil)))))) (pa_cons (pe_lst (pa_cons pe_str (pa_cons pe_str (pa_cons pe_str (pa_cons pe_int (pa_cons pe_bl pa_nil)))))) pa_nil))))))
      (pss_one (ps_ret (pe_cmpR (op_eqE (hu64 hr)) (pe_lc (own := [("_law_parts", 4)]) (g := gName 4) (by rfl) sc_law.nd (pi_list (pv 3)) (blkOk_by (own := [("_law_parts", 4)]) (N := ["_law_script", "_law_pen_here", "_law_turn", "_law_some", "_law_parts"]) (sc := defScope s_law) (by decide +kernel)) (fun _ _ _ _ _ => pg_name (i := 4) sc_law.nd rfl (Or.inl rfl)) (fun _ _ _ _ _ => (pts_one (pt_not (pt_val (pe_callG gu GR hr rfl (g__law_right T) FR.kp BR .nil pass0 (pa_cons (pv 4) pa_nil)))))) (fun _ _ _ _ _ => (pv 4))) (pe_lst pa_nil) (nomark _))))))), ?_⟩
    refine ⟨_, rfl, a, ns, rfl, hs, hl, fun H1 p c s1 np p1 => ?_⟩
    refine ⟨16, rfl, by decide, by decide, for_range (n := 16) (fun i σ H' => PenAt H' p c (20 * i) ∧ TabS H' (TP K) TQ ∧ ∃ v2 v3 v4, σ = [some (.ref a), some (.ref p), v2, v3, v4]) ⟨p1, tab_same tb s1, none, none, none, rfl⟩ ?_ ?_⟩
    · rintro i σ H2 hi ⟨p2, t2, v2, v3, v4, rfl⟩
      refine ⟨_, rfl, p, c, _, rfl, p2, by omega, fun H3 q xs b3 p3 P3 => ?_⟩
      refine ⟨q, xs, rfl, P3, tab_but t2 b3 p2, fun H4 e4 t4 => ⟨_, rfl, iteF ⟨(p3.ext e4).mono (by omega), t4, _, _, _, rfl⟩⟩⟩
    · rintro σ H2 ⟨p2, t2, v2, v3, v4, rfl⟩
      refine ⟨(by show 5 ≤ sizeLine; decide), fun l1 n1 => ⟨(by show 5 ≤ sizeLine; decide), fun l2 n2 => ⟨(by show 5 ≤ sizeLine; decide), fun l3 n3 => ⟨(by show 5 ≤ sizeLine; decide), fun l4 n4 => ⟨(by show 4 ≤ sizeLine; decide), fun l5 n5 => ?_⟩⟩⟩⟩⟩
      have s1 := new_same n1 (.lst [.non, .str "a", .str "a", .non, .non])
      have h1 : upd H2 l1 (.lst [.non, .str "a", .str "a", .non, .non]) l1 = some (.lst [.non, .str "a", .str "a", .non, .non]) := upd_same
      generalize upd H2 l1 (.lst [.non, .str "a", .str "a", .non, .non]) = G1 at s1 h1 n2 n3 n4 n5
      have s2 := new_same n2 (.lst [.str "r", .str "a", .int 0, .non, .int 0])
      have h2 : upd G1 l2 (.lst [.str "r", .str "a", .int 0, .non, .int 0]) l2 = some (.lst [.str "r", .str "a", .int 0, .non, .int 0]) := upd_same
      generalize upd G1 l2 (.lst [.str "r", .str "a", .int 0, .non, .int 0]) = G2 at s2 h2 n3 n4 n5
      have s3 := new_same n3 (.lst [.str "r", .str "a", .str "a", .str "x", .int 0])
      have h3 : upd G2 l3 (.lst [.str "r", .str "a", .str "a", .str "x", .int 0]) l3 = some (.lst [.str "r", .str "a", .str "a", .str "x", .int 0]) := upd_same
      generalize upd G2 l3 (.lst [.str "r", .str "a", .str "a", .str "x", .int 0]) = G3 at s3 h3 n4 n5
      have s4 := new_same n4 (.lst [.str "r", .str "a", .str "b", .int 0, .bl true])
      have h4 : upd G3 l4 (.lst [.str "r", .str "a", .str "b", .int 0, .bl true]) l4 = some (.lst [.str "r", .str "a", .str "b", .int 0, .bl true]) := upd_same
      generalize upd G3 l4 (.lst [.str "r", .str "a", .str "b", .int 0, .bl true]) = G4 at s4 h4 n5
      have s5 := new_same n5 (.lst [.ref l1, .ref l2, .ref l3, .ref l4])
      have h5 : upd G4 l5 (.lst [.ref l1, .ref l2, .ref l3, .ref l4]) l5 = some (.lst [.ref l1, .ref l2, .ref l3, .ref l4]) := upd_same
      have t5 := tab_same t2 ((((s1.trans s2).trans s3).trans s4).trans s5)
      have g4 := s5 _ _ h4
      have g3 := s5 _ _ (s4 _ _ h3)
      have g2 := s5 _ _ (s4 _ _ (s3 _ _ h2))
      have g1 := s5 _ _ (s4 _ _ (s3 _ _ (s2 _ _ h1)))
      generalize upd G4 l5 (.lst [.ref l1, .ref l2, .ref l3, .ref l4]) = G5 at h5 t5 g1 g2 g3 g4
      have ok : ∀ v ∈ ([.ref l1, .ref l2, .ref l3, .ref l4] : List V), ∃ q xs, v = .ref q ∧ Parts G5 q xs := fun v hv => by
        simp only [List.mem_cons, List.not_mem_nil, or_false] at hv
        rcases hv with rfl | rfl | rfl | rfl
        · exact ⟨_, _, rfl, g1, _, _, _, _, _, rfl, .non, .str _ (by decide +kernel), .str _ (by decide +kernel), .non, .non⟩
        · exact ⟨_, _, rfl, g2, _, _, _, _, _, rfl, .str _ (by decide +kernel), .str _ (by decide +kernel), .int _, .non, .int _ (by decide)⟩
        · exact ⟨_, _, rfl, g3, _, _, _, _, _, rfl, .str _ (by decide +kernel), .str _ (by decide +kernel), .str _ (by decide +kernel), .x, .int _ (by decide)⟩
        · exact ⟨_, _, rfl, g4, _, _, _, _, _, rfl, .str _ (by decide +kernel), .str _ (by decide +kernel), .str _ (by decide +kernel), .int _ (by decide), .bl _⟩
      refine ⟨_, rfl, l5, rfl, ⟨_, SqL.of h5⟩, fun D nD => ?_⟩
      refine lc_list (K := K) (a := l5) (xs := [.ref l1, .ref l2, .ref l3, .ref l4]) (fun i H' => ExtN G5 H' ∧ TabS H' (TP K) TQ ∧ H' D = some (.lst [])) ⟨fun b o e _ => new_same nD _ _ _ e, tab_same t5 (new_same nD _), upd_same⟩ (fun i H' _ q => SqL.of (q.1 _ _ h5 (fun ps z => by cases z))) ?_ ?_
      · rintro i v H6 hi ⟨e6, t6, d6⟩
        obtain ⟨q, xs, rfl, P6⟩ := ok v (List.mem_of_getElem? hi)
        exact ⟨rfl, _, rfl, q, xs, rfl, parts_of P6 e6, t6, fun H7 e7 t7 => ⟨_, rfl, iteF ⟨e6.trans e7, t7, e7 _ _ d6 (fun ps z => by cases z)⟩⟩⟩
      · rintro H6 ⟨e6, t6, d6⟩
        refine ⟨by decide, fun l nl => ⟨D, l, [], rfl, rfl, SqL.of (new_same nl _ _ _ d6), SqL.of upd_same, k _⟩⟩
end
end K06
namespace K06
open PySem PySem.Spec PyProof.Rows L2 Hx
theorem run (w : World) : HandSHeadRun.RunEq R (PySem.W.view R.prog [46]) hk ob 20000 loose w := by
  intro os
  kernel_rfl
end K06
namespace Hx
open PySem L2
theorem fd_one {K : PySem.W.Frag} {d : Dx} {f g : FuncData} (F : Fd K d f) (G : Fd K d g) : f = g := by
  obtain ⟨oc, od, dV, kV, doc, pm, an, cdv, ct, osl, _, h, _⟩ := F.ex
  obtain ⟨oc2, od2, dV2, kV2, doc2, pm2, an2, cdv2, ct2, osl2, _, h2, _⟩ := G.ex
  have e := h.symm.trans h2
  simp only [Option.some.injEq, Obj.mk.injEq, Data.func.injEq] at e
  exact e.2.2.1
end Hx
open PySem PySem.W PySem.Calls PyProof.Rows
set_option maxRecDepth 100000 in
set_option maxHeartbeats 8000000 in
theorem PySem.Challenge.cw_signtown_k06_streets_refused_holds : PySem.Challenge.rw_signtown_k06_streets_refused.Holds := by
  w_on; o_law
  refine HandSHeadRun.head_any (r := OpenLaw.row PySem.Challenge.rw_signtown_k06_streets_refused) (q := view (OpenLaw.row PySem.Challenge.rw_signtown_k06_streets_refused).prog [46]) (H := K06.hk) (ob := K06.ob) (M := 20000) (loose := K06.loose)
    (d := HandSHeadRun.topDef (OpenLaw.row PySem.Challenge.rw_signtown_k06_streets_refused).prog 46) (kwd := []) K06.ob_eq
    (by kernel_rfl) (fun s => by kernel_rfl) K06.run (by kernel_rfl) (by kernel_rfl) (by kernel_rfl) (by rfl)
    (by first | assumption | decide +kernel) (by decide +kernel) ⟨rfl, rfl, rfl, rfl, rfl, by decide +kernel⟩ ?hw ?hc
  case hw => w_witness2
  case hc =>
    refine KX.walk_tG (l := PySem.Challenge.rw_signtown_k06_streets_refused) (n := 63) (k := 9) (x := "_law_script") (CX := fun _ => L2.CX0) rfl (by decide) (by kernel_rfl) ⟨rfl, by decide, by decide⟩ ?F (fun _ _ _ _ _ z => z)
    intro w mg fa h Y G hmg0
    obtain ⟨K, KX, c, tabs⟩ := Y
    have T : K06.Tx K mg := ⟨h, KX, G, c⟩
    have hmg : mg ("law" : PySem.Str) = some (.ref fa) := by
      have e : (HandSHeadRun.topDef (OpenLaw.row PySem.Challenge.rw_signtown_k06_streets_refused).prog 46).name = ("law" : PySem.Str) := by kernel_rfl
      rw [← e]
      exact hmg0
    have e := hmg.symm.trans (K06.g_law T)
    cases e
    obtain ⟨fd0, F0⟩ := K06.f_law T
    have b := L2.FunD.bindsA (ps := ["_law_script"]) F0 fun _ _ _ _ _ _ us hl => match us, hl with | [_], _ => rfl
    have one : ∀ p ∈ [He.cT K (("_law_right" : PySem.Str), none)], p = He.cT K (("_law_right" : PySem.Str), none) := fun p hp => List.mem_singleton.mp hp
    obtain ⟨t1, t2, t3⟩ := tabs (("_law_right" : PySem.Str), none) (List.mem_singleton.mpr rfl)
    refine ⟨K, KX, fd0, [He.cT K (("_law_right" : PySem.Str), none)], K06.spLaw K, fun p hp => by rw [one p hp]; exact t3, fun p hp => by rw [one p hp]; exact t2, fun p hp => by rw [one p hp]; exact codeHd_of_K KX t1, fun s v => b s [v] rfl,
      fun H a ns hl _ ht hS => ⟨a, ns, rfl, hS, hl, LamX.TabS.nil (ht _ (List.mem_singleton.mpr rfl)), fun _ => rfl⟩, fun base _ _ tb => ?_⟩
    obtain ⟨fd, F, Gf⟩ := K06.p_law (P := (PySem.Challenge.rw_signtown_k06_streets_refused).prog) (w := w) (base := base) T (tb _ (List.mem_singleton.mpr rfl))
    have e : fd = fd0 := Hx.fd_one F F0
    rw [← e]
    exact Gf
