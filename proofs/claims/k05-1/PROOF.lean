import PyProof.Rows.All
import Wide.All
import OpenK.AllK
import Wide.FinOn
import PyProof.ReprRoads
import HandS.ForMost
import HandS.Defaults
import HandS.HeadHook3
import HandS.HeadWalk
import HandS.HeadEnd
import HandS.Head2
import HandS.IsInst
import HandS.Property
import HandS.FStr
import HandS.Wide
import HandS.OwnEq
import HandS.Flow
import HandS.Walk
import HandS.Style
import HandS.Zip
import HandS.Conv
import HandS.Exc
import HandS.ExcIs
import HandS.ExcField
import HandS.Lambda
import HandS.RaiseMore
import PyProof.NeKinds
import HandS.HeadHook4
import HandS.MakeKw
import HandS.MakeKwOnly
import PyProof.EqKinds
import PyProof.ReprLen
import KE.KCallOwn
import HandS.ClsMeth
import HandS.ExcInit
import PySem.Challenge.RW_signtown_k05_avenues_and_roads_made
import HandS.ExcOwn
import HandS.TryOnly
import HandS.More
set_option Elab.async false
set_option linter.all false
set_option maxRecDepth 100000
set_option maxHeartbeats 4000000
namespace Gx
open PySem PySem.Spec PyProof.Rows L2
/-- a def's promise where no repr is under way -/
structure FnG (P : Program) (w : World) (K : PySem.W.Frag) (mg : Str → Option Value) (base : Heap) (CX : CXT) (k : Nat) (f : Addr) (fd : FuncData) (ps : List Str) (sp : Sp) : Prop where
  len : ∀ vs H Q E, sp vs H Q E → vs.length = ps.length
  run : ∀ (A : Around) (outer : List Env) (s : Shared) (H : Hp) (args : Args) (us : List Value) (vs : List V) (Q : VK) (E : XK),
    A.guards = some [] → Room k A → Env0 P w K mg base A outer s H → BindsTo s fd args (ps.zip us) → Vals vs us → sp vs H Q E →
      codeAny (model P w) A (.call (.ref f) args) (CR CX outer P w H s Q E) s
theorem FnG.of {P : Program} {w : World} {K : PySem.W.Frag} {mg : Str → Option Value} {base : Heap} {CX : CXT} {k : Nat} {f : Addr} {fd : FuncData} {ps : List Str} {sp : Sp}
    (F : FnOk P w K mg base CX k f fd ps sp) : FnG P w K mg base CX k f fd ps sp :=
  ⟨F.len, fun A outer s H args us vs Q E _ => F.run A outer s H args us vs Q E⟩
section
variable {P : Program} {w : World} {K : PySem.W.Frag} {mg : Str → Option Value} {base : Heap}
/-- its body, walked where no repr is under way -/
theorem FnG.body {CX : CXT} {x qual : Str} {params : Arguments} {body : List Stmt} {scope : Scope} {dvs : List V} {kws : List (Str × V)} {f : Addr} {fd : FuncData} {N ps : List Str} {k : Nat} {sp : Sp}
    (F : FunD K x qual params body scope dvs kws f fd) (S : FnScope N ps scope) (len : ∀ vs H Q E, sp vs H Q E → vs.length = ps.length)
    (hb : ∀ (cdv : Value) (A : Around) (outer : List Env) (s : Shared) (H : Hp) (vs : List V) (Q : VK) (E : XK),
      Room k (A.deeper (envOfC qual scope s.heap.objs.size f cdv)) → (cxOf CX P w K mg base N qual scope f cdv A outer s H E).A.guards = some [] → sp vs H Q E →
      ∃ t, PSs (cxOf CX P w K mg base N qual scope f cdv A outer s H E) body t ∧ t { nx := fun _ H' => Q .non H', rt := Q } (start N vs) H) :
    FnG P w K mg base CX (k + 1) f fd ps sp := by
  obtain ⟨oc, od, dV, kV, doc, pm, an, cdv, ct, osl, rfl, lk, hcd, _, _⟩ := F.ex
  refine ⟨len, ?_⟩
  intro A outer s H args us vs Q E gu hr e0 bind r hsp
  have hl := len _ _ _ _ hsp
  have held : ∀ b o, base.get? b = some o → s.heap.get? b = some o := fun b o e => (e0.bs b o e).1
  have KX : K.In s.heap := e0.mod.kin.keeps held
  have par : ∀ y ∈ ps.zip us, scope.names.lookup y.1 = some .local ∨ (scope.names.lookup y.1 = some .cell ∧ ((cellsFrom (s.heap.objs.size + 1) scope.names []).lookup y.1).isSome = true) := by
    rintro ⟨n, v⟩ hy
    rcases S.par n (List.of_mem_zip hy).1 with q | q
    · left; exact q
    · right; exact ⟨q, PySem.W.cellsFrom_some _ _ _ (.inl q)⟩
  refine codeAny_call_function hr.depth (KX _ _ lk) rfl S.co S.gen rfl
    (PySem.W.codeRec_of KX hcd) (bind _ _ _ _ ?_)
  refine wpAny_newFunctionEnv_cells S.kind par ?_
  intro env he s1 x
  subst he
  refine ⟨(e0.mod.nolimit.keeps held).keeps x.toInCall.keep, codeAny_func ?_⟩
  obtain ⟨t, ht, hq⟩ := hb cdv A outer s H vs Q E (hr.deeper _) gu hsp
  have I := inv_start (CX := CX) (mg := mg) (E := E) S hr.hd e0 hl r x
  refine wpAny_mono (ht.run [] s1 (start N vs) H _ I hq) ?_ (fun e s' hs => hs)
  intro fl s' hs
  cases fl with
  | ret u => obtain ⟨v, σ', H', J, rv, q⟩ := hs; exact ⟨v, H', J.os, J.bare, J.base, J.hok, rv, q⟩
  | next => obtain ⟨σ', H', J, q⟩ := hs; exact ⟨V.non, H', J.os, J.bare, J.base, J.hok, rfl, q⟩
  | brk => obtain ⟨_, _, _, q⟩ := hs; cases q
  | cont => obtain ⟨_, _, _, q⟩ := hs; cases q
end
section
variable {X : Cx} {CX : CXT} {k : Nat} {f : Addr} {fd : FuncData} {ps : List Str} {sp : Sp} {dvs : List V} {ds : List Value} {E : XK} {x : Str} {p pos : Pos} {e : Expr} {es : List Expr} {t : TA}
theorem run_g {pins : List (Addr × Obj)} {σ : L2.St} {H : Hp} {s : Shared} {Q : VK} {us : List Value} {vs : List V}
    (gu : X.A.guards = some []) (F : FnG X.prog X.w X.K X.mg X.base CX k f fd ps sp) (hr : Room k X.A) (hb : Binds X.K fd ps ds) (hd : Vals dvs ds) (hx : Passes CX X E)
    (I : Inv X pins σ H s) (r : Vals vs us) (h : sp (vs ++ dvs) H Q E) :
    wpAny (model X.prog X.w) X.A (call (.ref f) us) (EP X pins σ Q) X.xe s := by
  have all := r.append hd
  have hl : (us ++ ds).length = ps.length := all.length ▸ F.len _ _ _ _ h
  have go := F.run X.A X.stack s H ⟨us, []⟩ (us ++ ds) (vs ++ dvs) Q E gu hr I.env0 (hb s us I.kIn hl) all h
  refine wpAny_call (codeAny_mono go ?_)
  intro r s' hq
  match r, hq with
  | .error e, hq => exact hx pins σ H s e s' I hq
  | .ok (.ret u), hq => exact I.after hq
  | .ok .next, hq => exact hq.elim
  | .ok .brk, hq => exact hq.elim
  | .ok .cont, hq => exact hq.elim
/-- f(e, ..) -/
theorem pe_callG (gu : X.A.guards = some []) (F : FnG X.prog X.w X.K X.mg X.base CX k f fd ps sp) (hr : Room k X.A)
    (hg : Gl X x) (hm : X.mg x = some (.ref f)) (hk : PySem.W.keepIn X.K (.ref f) = true) (hb : Binds X.K fd ps ds) (hd : Vals dvs ds) (hx : Passes CX X E) (ha : PA X (e :: es) t)
    (hdb : (x == ("__debug__" : Str)) = false := by decide)
    (he : starEach (e :: es) X.env = (false, eval e X.env) :: starEach es X.env := by rfl)
    (hpl : (backTo pos (starEach es X.env)).any (·.1) = false := by rfl) :
    PE X (.Call (.Name x p) (e :: es) [] pos) (tCall sp dvs E t) := by
  constructor
  intro pins s σ H Q I h
  refine wpAny_Call_Name_kw (ld_glob I hg hm ?_ hdb)
  refine PySem.W.callWith_K (h₀ := X.base) I.ok.mod.kin hk
    (thn (ha.run pos pins s σ H _ I h) ?_) he hpl
  rintro us s1 ⟨vs, H1, I1, r, q⟩
  exact ⟨I1.kIn, run_g gu F hr hb hd hx I1 r q⟩
/-- repr of data: None, bools, ints, texts, lists, tuples -/
def rRepr (K : PySem.W.Frag) : List V → Hp → VK → Prop := fun xs H Q =>
  ∃ (a : Addr) (d : PyData), xs = [.ref a] ∧ Dp K H (.ref a) d ∧ d.showable = true ∧ d.hasDict = false ∧ d.depth ≤ 60 ∧ d.shown.length ≤ sizeLine ∧ Q (.str d.shown) H
theorem call_reprD (gu : X.A.guards = some []) (hu : X.A.units + 64 < cLine) : CallR X (.builtin "repr") (rRepr X.K) := by
  rintro pins s σ H xs us Q I r ⟨a, d, rfl, hd, sh, nd, dp, sz, q⟩
  obtain ⟨u, rfl, ru⟩ := r.one
  cases (show u = Value.ref a from ru)
  obtain ⟨as, rd⟩ := Dp.reads I d _ _ hd rfl
  refine repr_of_reads' rd sh (PyData.noDict_hsm nd) gu (by omega) (fun _ _ e => e) ?_ sz
  intro h' u tk kp
  exact ⟨.str d.shown, H, I.kept kp, ⟨u, rfl⟩, q⟩
end
/-- the law's call -/
theorem law_callG {P : Program} {w : World} {K : PySem.W.Frag} {mg mb : Str → Option Value} {CX : CXT} {k : Nat} {fa a : Addr} {fd : FuncData} {x : Str} {sp : Sp} {s₁ : Shared} {vs : List Value} {ns : List Int}
    (KX : K.In s₁.heap) (hns : s₁.heap.Ns mainGlobals mg) (hb : s₁.heap.Ns builtinsNs mb) (hbb : ∀ x : Str, x ≠ "__name__" → mb x = bootBuiltins x) (hlim : s₁.heap.NoLimit) (hg : s₁.gens = #[])
    (ha : s₁.heap.get? a = some { cls := .type "list", data := .seq vs.toArray })
    (hi : IntsAre vs ns) (hl : ns.length ≤ sizeLine) (hr : Room k callerA)
    (F : ∀ base : Heap, K.In base → base.Ns mainGlobals mg → FnG P w K mg base CX k fa fd [x] sp)
    (hbind : ∀ (s : Shared) (u : Value), BindsTo s fd ⟨[u], []⟩ [(x, u)])
    (hsp : ∀ H : Hp, Only H → SqL K H a (ns.map V.int) → sp [.ref a] H (fun v _ => v = .bl true) fun _ _ _ => False)
    (hCX : ∀ H e s', CX [] H s₁ (fun _ _ _ => False) e s' → False) :
    codeAny (model P w) callerA (.call (.ref fa) ⟨[.ref a], []⟩)
      (fun r s' => r = .ok (.ret (.bool true)) ∧ OldK s₁.heap s'.heap ∧ s'.os = s₁.os ∧ AllBare s'.gens) s₁ := by
  have rv := vals_ints hi
  have go : ∀ H : Hp, Only H → SqL K H a (ns.map V.int) → HOk P w H s₁.heap → (∀ b, H b ≠ none → b = a) → (H a ≠ none → K.lookup a = none) →
      codeAny (model P w) callerA (.call (.ref fa) ⟨[.ref a], []⟩)
        (fun r s' => r = .ok (.ret (.bool true)) ∧ OldK s₁.heap s'.heap ∧ s'.os = s₁.os ∧ AllBare s'.gens) s₁ := by
    intro H hO hS hok only hK
    have isA : ∀ {b : Addr} {u : HO}, H b = some u → b = a := fun {b u} q => only b (by rw [q]; exact Option.some_ne_none u)
    have noDict : ∀ {b : Addr} {o : Obj} {es : Array DictEntry} {ep : Nat}, s₁.heap.get? b = some o → o.data = .dict es ep → H b = none := by
      intro b o es ep e d
      cases q : H b with
      | none => rfl
      | some u =>
        cases isA q
        rw [ha] at e
        cases e
        cases (show Data.seq vs.toArray _ = Data.dict es ep from d)
    have ns' : ∀ {b : Addr} {m : Str → Option Value}, s₁.heap.Ns b m → (hidT s₁.heap H).Ns b m := by
      rintro b m ⟨o, es, ep, e, d, r⟩
      exact ⟨o, es, ep, hidT_get e (noDict e d), d, r⟩
    have kin : K.In (hidT s₁.heap H) := by
      intro b o e
      refine hidT_get (KX b o e) ?_
      cases q : H b with
      | none => rfl
      | some u =>
        cases isA q
        rw [hK (by rw [q]; exact Option.some_ne_none u)] at e
        cases e
    obtain ⟨mc, c1, c2⟩ := hlim
    have md : Mod K mg (hidT s₁.heap H) := ⟨kin, ns' hns, ⟨mb, ns' hb, hbb⟩, ⟨mc, ns' c1, c2⟩⟩
    have none_in : ∀ b : Addr, ¬ b ∈ ([] : List Addr) := fun b z => by cases z
    have e0 : Env0 P w K mg (hidT s₁.heap H) callerA [] s₁ H :=
      ⟨rfl, md, fun b o e => of_hidT e, Nat.le_of_eq (hidT_size _ _), trivial, fun b z => (none_in b z).elim, hok, .of_eq hg⟩
    have run := (F _ kin (ns' hns)).run callerA [] s₁ H ⟨[.ref a], []⟩ [.ref a] [.ref a] _ _ rfl hr e0 (hbind s₁ (.ref a)) (.cons rfl .nil) (hsp H hO hS)
    refine codeAny_mono run ?_
    intro r s' h
    match r, h with
    | .error e, h => exact (hCX H e s' h).elim
    | .ok .next, h => exact h.elim
    | .ok .brk, h => exact h.elim
    | .ok .cont, h => exact h.elim
    | .ok (.ret u), ⟨v, H', os, bare, un, hok', r', q⟩ =>
      cases (show v = .bl true from q)
      cases (show u = Value.bool true from r')
      refine ⟨rfl, OldK.of_keep ?_, os, bare⟩
      intro b o e
      cases hb : H b with
      | none => exact un.keep b o e hb (none_in b) (none_in b)
      | some u =>
        rcases hO b with z | ⟨ob, xs, z⟩
        · rw [hb] at z
          cases z
        · obtain ⟨e1, _⟩ := hok b _ z
          obtain ⟨e2, _⟩ := hok' b _ (un.frzs b ob _ z)
          rw [e] at e1
          cases e1
          exact e2
  cases hk : K.lookup a with
  | some o =>
    have e := (KX a o hk).symm.trans ha
    cases e
    have sq : SqL K (fun _ => none) a (ns.map V.int) :=
      .inr ⟨_, vs.toArray, _, hk, rfl, rfl, rfl, by rw [List.size_toArray, hi.length]; exact hl, by simpa using rv⟩
    exact go (fun _ => none) (fun _ => .inl rfl) sq (fun b u z => by cases z) (fun b z => (z rfl).elim) (fun z => (z rfl).elim)
  | none =>
    let L : HO := .frz { cls := .type "list", data := .seq vs.toArray } (.lst (ns.map V.int))
    have at1 : ∀ {b}, b = a → (fun b => if b = a then some L else none : Hp) b = some L := fun h => if_pos h
    have at0 : ∀ {b}, ¬ b = a → (fun b => if b = a then some L else none : Hp) b = none := fun h => if_neg h
    refine go (fun b => if b = a then some L else none) ?_ (.inl (.inr ⟨_, at1 rfl⟩)) ?_ ?_ (fun _ => hk)
    · intro b
      by_cases h : b = a
      · exact .inr ⟨_, _, at1 h⟩
      · exact .inl (at0 h)
    · intro b u z
      by_cases h : b = a
      · cases (at1 h).symm.trans z
        subst h
        exact ⟨ha, by rw [List.length_map]; exact hl, vs, _, rv, ha⟩
      · cases (at0 h).symm.trans z
    · intro b z
      by_cases h : b = a
      · exact h
      · exact (z (at0 h)).elim
/-- a law's end, over facts of the head -/
theorem walk_G {l : PySem.W.OpenLaw} {n k : Nat} {q : Program} {loose : List Str} {XP : (Str → Option Value) → Heap → Prop} {YP : World → Heap → Prop} {d : DefRec} {CX : CXT} {x : Str}
    (hn : l.most = some n) (hn2 : n ≤ sizeLine) (hdf : d.params.defaults = []) (hr : Room k callerA)
    (F : ∀ (w : World) (mg : Str → Option Value) (fa : Addr) (h : Heap), YP w h → h.Ns mainGlobals mg → mg d.name = some (.ref fa) →
      ∃ (K : PySem.W.Frag) (fd : FuncData) (sp : Sp), K.In h ∧ (∀ (s : Shared) (u : Value), BindsTo s fd ⟨[u], []⟩ [(x, u)]) ∧
        (∀ (H : Hp) (a : Addr) (ns : List Int), ns.length ≤ n → Only H → SqL K H a (ns.map V.int) → sp [.ref a] H (fun v _ => v = .bl true) fun _ _ _ => False) ∧
        ∀ base : Heap, K.In base → base.Ns mainGlobals mg → FnG l.prog w K mg base CX k fa fd [x] sp)
    (hCX : ∀ (H : Hp) (s : Shared) (e : Value) (s' : Shared), CX [] H s (fun _ _ _ => False) e s' → False) :
    PySem.W.WalkO q loose XP YP l.row.toRowW d [] (fun f vs => PySem.call f vs) := by
  refine Att.attach_call hn hdf ?_
  intro w s₀ s₁ mg mb fa o pm cd doc a vs ns G Y ho hd hcd hmg hobj hints hlen hg
  obtain ⟨K, fd, sp, KX, bind, hsp, hF⟩ := F w mg fa _ Y G.T.g hmg
  exact law_callG KX G.T.g G.T.b G.T.builtins G.T.nolimit hg hobj hints (Nat.le_trans hlen hn2) hr hF bind
    (fun H hO hS => hsp H a ns hlen hO hS) (fun H e s' => hCX H s₁ e s')
end Gx
/-! a caught error that is kept behind its clause: the statements behind the try know it -/
namespace KX
open PySem PySem.Spec PyProof.Rows L2
/-- what the clause 'except x as n' wishes, the rest of the block following it: t1, where the error is kept -/
def wKeep (K : PySem.W.Frag) (c : Value) (i : Nat) (ts t1 : Addr → Value → Option Addr → TS) (Wout : WX) (D : Ends) : WX := fun cls d σ H =>
  ∃ b, PySem.W.exmOne K cls c = some b ∧ (b = true → ∀ a, H a = none → ts a cls d { nx := fun σ' H' => t1 a cls d D (σ'.set i none) H', rt := D.rt, bk := fun σ' H' => D.bk (σ'.set i none) H', ct := fun σ' H' => D.ct (σ'.set i none) H' } (σ.set i (some (.ref a))) H) ∧
    (b = false → Wout cls d σ H)
section
variable {X : Cx} {x n : Str} {c : Value} {i : Nat} {body suite rest : List Stmt} {b₀ : Stmt} {np pos pos' : Pos} {tb : WX → TS} {ts t1 : Addr → Value → Option Addr → TS} {t0 : TS} {Wout : WX}
theorem pss_try_keep (hs : X.stack = X.env :: X.outer) (hf : X.env.frame = some X.env.locals) (hN : X.N.Nodup) (hi : X.N[i]? = some n) (hln : X.env.kindOf n = some .local) (hc : Names X x c) (tk : Takes X Wout)
    (hb : ∀ (W : WX) (pn : List (Addr × Obj)) (xe : Value → Shared → Prop), Takes (X.tr pn xe) W → PassesOwn (model X.prog X.w) X.A X.env xe → PSs (X.tr pn xe) body (tb W))
    (hsu : ∀ (a : Addr) (oe : Obj) (cls : Value) (d : Option Addr) (pn : List (Addr × Obj)), Zc cls d oe → (∃ vs, oe.data = .fields vs) → PSs (X.suite a ((a, oe) :: pn)) (b₀ :: suite) (ts a cls d))
    (h0 : PSs X rest t0)
    (h1 : ∀ (a : Addr) (oe : Obj) (cls : Value) (d : Option Addr) (pn : List (Addr × Obj)), Zc cls d oe → (∃ vs, oe.data = .fields vs) → PSs (X.tr ((a, oe) :: pn) X.xe) rest (t1 a cls d)) :
    PSs X (.Try body [.ExceptHandler (some (.Name x np)) (some n) (b₀ :: suite) pos'] [] [] pos :: rest) (fun D σ H => tb (wKeep X.K c i ts t1 Wout D) { D with nx := t0 D } σ H) := by
  refine ⟨fun pins s σ H D I h => ?_⟩
  have okX := I.ok
  have fr0 : X.A.frames = some (X.env :: X.outer) := by rw [okX.frames, hs]
  have lc0 : Loc X.env.scope n := .inl hln
  -- what stands behind the try: the rest where nothing was caught; the ends where the rest was run already
  let SPr : Flow → Shared → Prop := fun f w1 => match f with
    | .next => wpAny (model X.prog X.w) X.A (execs rest X.env) (SP X pins D) X.xe w1
    | f => SP X pins D f w1
  refine wpAny_execs_cons (wpAny_mono (Q := SPr) ?_ (fun f w2 q => ?_) (fun _ _ z => z))
  · refine wpAny_Try_except ?_
    refine wpAny_mono ((hb (wKeep X.K c i ts t1 Wout D) (X.pn ++ pins) (fun e s₁ => wpAny (model X.prog X.w) X.A (noteFrame e X.env) (fun _ s₂ => wpAny (model X.prog X.w) X.A (setFlight e none) (fun _ s₃ =>
      wpAny (model X.prog X.w) X.A (handleBy e X.env [.ExceptHandler (some (.Name x np)) (some n) (b₀ :: suite) pos']) SPr X.xe s₃) X.xe s₂) X.xe s₁) (fun u w1 hx => ?_) PassesOwn.looking).run [] s σ H { D with nx := t0 D } (I.toTry _) h) (fun f w2 hq => ?_) (fun e w2 he => he)
    · -- the catch
      obtain ⟨a, B, sg, pz, τ, G, cls, d, rfl, Jt, gb, us, s0, nn, oo, bb, b, eb1, yes, no⟩ := hx
      have J : Inv X pins τ G sg := Jt.ofTry okX
      have sk : Sky B (X.env :: X.outer) a (Zc cls d) X.env.locals w1.heap := by rw [← hs]; exact s0
      show wpAny (model X.prog X.w) X.A (noteFrame (.ref a) X.env) _ _ _
      refine Sky.land Zc.steady fr0 hf sk fun ha fa ua => ?_
      have Ja : Inv X pins τ G { w1 with heap := ha } := J.landed gb fa.1 (us.trans ua) oo bb
      obtain ⟨oa, va, ea, za, da⟩ := fa.there
      have offFr : ∀ {h : Heap} {o : Obj} {vs : Array Value}, h.FunFrames B (X.env :: X.outer) → h.get? a = some o → o.data = .fields vs → a ∉ frs (X.env :: X.outer) := fun {h o vs} ff e dd hm => by
        obtain ⟨_, o', e', hnf⟩ := ff.mem hm
        rw [e] at e'; cases e'
        exact hnf _ dd
      have nf := offFr fa.2.2.1 ea da
      have nl : a ≠ X.env.locals := fun z => nf (List.mem_filterMap.mpr ⟨X.env, List.mem_cons_self, by rw [hf, z]⟩)
      have ng : a ∉ X.fs := fun hm => by
        obtain ⟨e, he, q⟩ := List.mem_filterMap.mp hm
        exact nf (List.mem_filterMap.mpr ⟨e, List.mem_cons_of_mem _ he, q⟩)
      have Sa := Ja.suite ea da nn nl ng
      refine wpAny_handleBy_cons (codeAny_handlers_test ?_) (by intro q; cases q)
      have ty0 : PySem.W.Looks (model X.prog X.w) ha (typeOf (.ref a)) cls := fun A Q E s k q => wpAny_typeOf_ref (k _ _ ea) (by rw [za.1]; exact q)
      have mt := PySem.W.exm_one (M := model X.prog X.w) (Ja.kIn) ty0 eb1
      have ask : ∀ {Q : Value → Shared → Prop} {E : Value → Shared → Prop}, Q c { w1 with heap := ha } → wpAny (model X.prog X.w) (X.A.mark (some (.ref a))) (eval (.Name x np) X.env) Q E { w1 with heap := ha } := fun {Q E} q => by
        obtain ⟨hg, hdbg, hm | ⟨hm, hv, hnn⟩⟩ := hc
        · exact ld_glob (X := X.suite a ((a, oa) :: (X.pn ++ pins))) Sa hg hm q hdbg
        · exact ld_blt (X := X.suite a ((a, oa) :: (X.pn ++ pins))) Sa hg hm hv q hnn hdbg
      refine ask (mt.here ?_)
      cases b with
      | true =>
        refine codeAny_handlers_suite_as ?_
        refine HandSPX.lands_againZ fa fun hb2 fb ub => ?_
        have Jb : Inv X pins τ G { w1 with heap := hb2 } := J.landed gb fb.1 ((us.trans ua).trans ub) oo bb
        obtain ⟨ob, vb, eb, zb, db⟩ := fb.there
        have Sb := Jb.suite eb db nn nl ng
        refine store_ok (X := X.suite a ((a, ob) :: (X.pn ++ pins))) (v := .ref a) Sb hN hi lc0 rfl (fun w5 Sc => ?_) (.inr hln)
        refine wpAny_mono ((hsu a ob cls d (X.pn ++ pins) zb ⟨_, db⟩).run [] w5 _ G _ Sc (yes rfl a nn)) (fun f w6 hq => ?_) (fun _ _ z => False.elim z)
        -- the rest, the error known
        have keep1 : ∀ {τ6 : L2.St} {G6 : Hp} {w6 : Shared}, Inv (X.suite a ((a, ob) :: (X.pn ++ pins))) [] τ6 G6 w6 → Inv (X.tr ((a, ob) :: (X.pn ++ pins)) X.xe) [] τ6 G6 w6 := fun S =>
          ⟨okX.toTry _ _, S.os, S.bare, S.base, S.loc, S.cell, S.free, S.freeC, S.pin, S.hok, S.len⟩
        have back1 : ∀ {τ6 : L2.St} {G6 : Hp} {w6 : Shared}, Inv (X.tr ((a, ob) :: (X.pn ++ pins)) X.xe) [] τ6 G6 w6 → Inv X pins τ6 G6 w6 := fun S =>
          ⟨okX, S.os, S.bare, S.base, S.loc, S.cell, S.free, S.freeC, fun p hp => S.pin p (List.mem_append_left _ (List.mem_cons_of_mem _ hp)), S.hok, S.len⟩
        have after : ∀ {τ6 : L2.St} {G6 : Hp} {Q : Shared → Prop}, Inv (X.suite a ((a, ob) :: (X.pn ++ pins))) [] τ6 G6 w6 → (∀ w7, Inv (X.tr ((a, ob) :: (X.pn ++ pins)) X.xe) [] (τ6.set i none) G6 w7 → Q w7) →
            wpAny (model X.prog X.w) X.A (do bindName X.env n .none; unbindBehindTheSuite X.env n pos') (fun _ w7 => Q w7) X.xe w6 := fun {τ6 G6 Q} Sd hq =>
          gone_ok (X := X.tr ((a, ob) :: (X.pn ++ pins)) X.xe) (keep1 Sd) hN hi hln hq
        cases f with
        | next =>
          obtain ⟨τ6, G6, Sd, k6⟩ := hq
          refine after Sd fun w7 Jz => ?_
          refine wpAny_mono ((h1 a ob cls d (X.pn ++ pins) zb ⟨_, db⟩).run [] w7 _ G6 D Jz k6) (fun f w8 hq8 => ?_) (fun _ _ z => z)
          cases f with
          | next => obtain ⟨τ8, G8, Sz, k8⟩ := hq8; exact ⟨τ8, G8, back1 Sz, k8⟩
          | brk => obtain ⟨τ8, G8, Sz, k8⟩ := hq8; exact ⟨τ8, G8, back1 Sz, k8⟩
          | cont => obtain ⟨τ8, G8, Sz, k8⟩ := hq8; exact ⟨τ8, G8, back1 Sz, k8⟩
          | ret u => obtain ⟨y8, τ8, G8, Sz, rr8, k8⟩ := hq8; exact ⟨y8, τ8, G8, back1 Sz, rr8, k8⟩
        | brk =>
          obtain ⟨τ6, G6, Sd, k6⟩ := hq
          exact after Sd fun w7 Jz => ⟨_, _, back1 Jz, k6⟩
        | cont =>
          obtain ⟨τ6, G6, Sd, k6⟩ := hq
          exact after Sd fun w7 Jz => ⟨_, _, back1 Jz, k6⟩
        | ret u =>
          obtain ⟨y6, τ6, G6, Sd, rr6, k6⟩ := hq
          exact after Sd fun w7 Jz => ⟨_, _, _, back1 Jz, rr6, k6⟩
      | false =>
        show wpAny _ X.A (handleBy (.ref a) X.env []) _ _ _
        refine wpAny_handleBy_nil ?_
        obtain ⟨k1, k2, k3, oe, vs, T, oT, ts', he, hz, hd, h1, hr⟩ := id fa
        unfold PySem.passOn
        refine wpAny_bind (wpAny_field he hd h1 ?_)
        rw [if_neg (show ¬ ((Value.ref T == Value.none) = true) from by simp)]
        have go : wpAny (model X.prog X.w) X.A (setFlight (.ref a) X.env.frame) (fun _ s4 => wpAny (model X.prog X.w) X.A (throw (.ref a) : Sem Flow) SPr X.xe s4) X.xe { w1 with heap := ha } := by
          rw [hf]
          refine HandSPX.setFlight_upZ fa fun hb2 hh4 ub => wpAny_throw (tk _ _ ?_)
          exact ⟨a, B, sg, pins, τ, G, cls, d, rfl, J, gb, (us.trans ua).trans ub, .inr (.inr (by rw [hs]; exact hh4)), nn, oo, bb, no rfl⟩
        first
          | exact wpAny_bind (wpAny_pure (wpAny_bind go))
          | exact wpAny_bind go
    · cases f with
      | next =>
        obtain ⟨τ, G, Jt, q⟩ := hq
        exact wpAny_execs_nil (h0.run pins w2 τ G D (Jt.ofTry okX) q)
      | brk =>
        obtain ⟨τ, G, Jt, q⟩ := hq
        exact ⟨τ, G, Jt.ofTry okX, q⟩
      | cont =>
        obtain ⟨τ, G, Jt, q⟩ := hq
        exact ⟨τ, G, Jt.ofTry okX, q⟩
      | ret u =>
        obtain ⟨v, τ, G, Jt, r, q⟩ := hq
        exact ⟨v, τ, G, Jt.ofTry okX, r, q⟩
  · cases f with
    | next => exact q
    | brk => exact q
    | cont => exact q
    | ret u => exact q
end
end KX
/-! what is asked of a kept error: isinstance, a field; repr of plain values -/
namespace KX
open PySem PySem.Spec PyProof.Rows L2
theorem findObj_any {K : PySem.W.Frag} {C : Addr} {od : Option Obj} {name : Str} {a g : Value} (hc : (PySem.W.clsIn K C).isSome = true) (ha : PySem.W.findIn K (.ref C) name = some (some a))
    (hg : PySem.W.specialIn K a "__get__" = some (some g)) (ht : PySem.W.takesIn K a = some true) : PySem.W.findObj K C od name = some (.bind g a) := by
  cases q : PySem.W.clsIn K C with
  | none => rw [q] at hc; cases hc
  | some cd => simp [PySem.W.findObj, q, ha, hg, ht]
/-- x.__class__, x of an own error class, with a dict or without -/
theorem class_of {prog : Program} {w : World} {A : Around} {E : Value → Shared → Prop} {s : Shared} {K : PySem.W.Frag} {x D : Addr} {ox : Obj} {od : Option Obj} {Q : Option Value → Shared → Prop}
    (c : ExcC K D) (kin : K.In s.heap) (I : PySem.W.InstAt s.heap x ox D od) (h : Q (some (.ref D)) { s with toks := s.toks + 1 }) : wpAny (model prog w) A (getAttr? (.ref x) "__class__") Q E s := by
  have some_ : (PySem.W.clsIn K D).isSome = true := by
    have z := c.hd
    unfold PySem.W.hasDictIn at z
    cases q : PySem.W.clsIn K D with
    | none => rw [q] at z; cases z
    | some _ => rfl
  have found := findObj_any (od := od) some_ c.ha c.hn c.ht
  obtain ⟨hp, g, d, t, os⟩ := s
  have ty := I.type (M := model prog w)
  have own := PySem.W.looks_findIn (M := model prog w) kin c.hg
  have alt := PySem.W.looks_findIn (M := model prog w) kin c.hk
  have it := PySem.W.looks_find (M := model prog w) kin I found
  have exc : PySem.W.Looks (model prog w) hp (isInstance (.ref x) (.type "BaseException")) true := ty.andThen (PySem.W.looks_subIn kin c.hs)
  have n1 : (Value.builtin "BaseException.__getattribute__" == Value.builtin "object.__getattribute__") = false := by decide +kernel
  have n2 : (onTheHeap (Value.ref D) && Value.builtin "BaseException.__getattribute__" == Value.builtin "object.__getattribute__") = false := by rw [n1]; rfl
  have n3 : (false && onTheHeap (Value.builtin "BaseException.__getattribute__")) = false := rfl
  unfold getAttr? getAttrBy? getAttrBy
  refine wpAny_bind (wpAny_mkText (wpAny_bind (wpAny_attempt (wpAny_holding (wpAny_bind (ty.at (wpAny_bind (own.at ?_))))))))
  show wpAny _ _ (if (onTheHeap (Value.ref D) && Value.builtin "BaseException.__getattribute__" == Value.builtin "object.__getattribute__") = true then _ else _) _ _ _
  rw [n2, if_neg Bool.false_ne_true]
  unfold getAttrByItsOwn hookBefore
  refine wpAny_bind ?_
  rw [if_pos (show onTheHeap (Value.ref D) = true from rfl)]
  refine alt.at (wpAny_bind (wpAny_attempt (wpAny_holding ?_)))
  unfold callGetattribute
  rw [n3, if_neg Bool.false_ne_true]
  unfold boundAndCalled
  rw [PySem.F.excAttr_ValueError.ga.bind (.ref x)]
  refine wpAny_bind (wpAny_pure ?_)
  show wpAny _ _ (call (.builtin "BaseException.__getattribute__") [.ref x, .str "__class__" t]) _ _ _
  refine wpAny_call (codeAny_call_builtin PySem.F.excAttr_ValueError.ga.plain PySem.F.entry_bexc_ga ?_)
  refine @PySem.W.check_slot (model prog w) _ _ ⟨hp, g, d, t + 1, os⟩ "BaseException.__getattribute__" "BaseException" "__getattribute__" (.ref x) [.str "__class__" t] [] _ (by decide +kernel) (by decide +kernel) exc (PySem.F.args_bexc_ga (.ref x) (.str "__class__" t)) ?_
  unfold Builtin.«object.__getattribute__»
  refine wpAny_bind (wpAny_of_eq (a := ((Value.ref x : Value), [Value.str "__class__" t])) (by first | rfl | (simp only [slotArgs]; rfl)) ?_)
  refine wpAny_bind (wpAny_pure (wpAny_bind (ty.at (wpAny_bind (it.at ?_)))))
  show wpAny _ _ (holding [Value.builtin "object.__class__"] (call (.builtin "getset_descriptor.__get__") [.builtin "object.__class__", .ref x, .ref D]) >>= ret) _ _ _
  refine wpAny_bind (wpAny_holding (wpAny_call (PySem.W.class_get (s := ⟨hp, g, d, t + 1, os⟩) (ox := ox) (od := od) kin I c.hm (wpAny_pure ?_))))
  show wpAny _ _ (handedOut (.ref D)) _ _ _
  rw [PySem.W.handedOut_of (v := .ref D) rfl]
  first
    | exact wpAny_pure (wpAny_pure h)
    | exact wpAny_pure h
    | exact wpAny_pure (wpAny_bind (wpAny_pure (wpAny_pure h)))

theorem kit_kept {K : PySem.W.Frag} {x D : Addr} {ox : Obj} {od : Option Obj} (c : ExcC K D) : PySem.W.KitX K (.ref x) (.ref D) (fun h => PySem.W.InstAt h x ox D od) where
  ty := fun _ _ _ I => I.type
  it := fun _ _ kin _ => by
    have z := c.hd
    unfold PySem.W.hasDictIn at z
    cases q : PySem.W.clsIn K D with
    | none => rw [q] at z; cases z
    | some cd =>
      unfold PySem.W.clsIn at q
      split at q
      · rename_i ho
        intro _ _ _ _ kp k
        unfold isType loadHead
        exact wpAny_bind (wpAny_loadPart (kp _ _ (kin _ _ ho)) (wpAny_pure k))
      · cases q
  ne := fun h tp dd its n sl kin htp => by
    cases e : (Value.ref D == Value.ref tp) with
    | false => rfl
    | true =>
      have e2 : D = tp := Value.ref.inj (beq_iff_eq.mp e)
      have z := c.hd
      unfold PySem.W.hasDictIn at z
      cases q : PySem.W.clsIn K D with
      | none => rw [q] at z; cases z
      | some cd =>
        unfold PySem.W.clsIn at q
        split at q
        · rename_i ho
          rw [e2] at ho
          cases (kin _ _ ho).symm.trans htp
        · cases q
  ca := fun kin I k => class_of c kin I k
/-- isinstance(e, C), e the kept error -/
def rIsK (K : PySem.W.Frag) (a : Addr) (cls : Value) (d : Option Addr) : List V → Hp → VK → Prop := fun xs H Q =>
  ∃ (c : V) (cv : Value) (b : Bool) (D dd : Addr) (fs : List (Str × V)), xs = [.ref a, c] ∧ cls = .ref D ∧ d = some dd ∧ ExcC K D ∧ H dd = some (.xd fs) ∧ (∀ u, RelV c u → u = cv) ∧ PySem.W.kitOne K (.ref D) cv = some b ∧ Q (.bl b) H
theorem call_isK {X : Cx} {a : Addr} {oe : Obj} {cls : Value} {d : Option Addr} {pn : List (Addr × Obj)} {xe : Value → Shared → Prop} (hz : Zc cls d oe) (hf : ∃ vs, oe.data = .fields vs) :
    CallR (X.tr ((a, oe) :: pn) xe) (.builtin "isinstance") (rIsK X.K a cls d) := by
  intro pins s σ H xs us Q I r h
  obtain ⟨c, cv, b, D, dd, fs, rfl, rfl, rfl, ec, ed, hcv, e, q⟩ := h
  cases r with
  | cons rx rr =>
    cases rr with
    | cons rt rr =>
      cases rr
      cases rx
      have e2 := hcv _ rt
      subst e2
      obtain ⟨hget, _⟩ := I.pin (a, oe) (List.mem_append.mpr (.inl List.mem_cons_self))
      obtain ⟨vs, hv⟩ := hf
      obtain ⟨mA, hns, _⟩ := (show ObjOk X.prog X.w H s.heap dd (.xd fs) from I.hok dd _ ed)
      obtain ⟨od, ho, _⟩ := lookIn_ns hns
      have J : PySem.W.InstAt s.heap a oe D (some od) := ⟨hget, hz.1, by unfold PySem.W.notCls; rw [hv] <;> rfl, by rw [hz.2]; exact ho⟩
      exact PySem.W.kia_one (kit_kept (ox := oe) (od := some od) ec) I.kIn J e (fun z => nomatch z) fun tk => ⟨.bl b, H, I.kept (t' := tk) fun _ _ z => z, rfl, q⟩
/-- e.f, e the kept error -/
def tXk (K : PySem.W.Frag) (a : Addr) (cls : Value) (d : Option Addr) (f : Str) (te : TE) : TE := fun σ H Q => te σ H fun x H1 => x = .ref a ∧ ∃ (C dd : Addr) (fs : List (Str × V)) (v : V),
  cls = .ref C ∧ d = some dd ∧ XfC K C ∧ PySem.W.findIn K (.ref C) f = some none ∧ H1 dd = some (.xd fs) ∧ fs.lookup f = some v ∧ Q v H1
theorem pe_xk {X : Cx} {a : Addr} {oe : Obj} {cls : Value} {d : Option Addr} {pn : List (Addr × Obj)} {xe : Value → Shared → Prop} {e : Expr} {te : TE} {pos : Pos} {n : Str}
    (hz : Zc cls d oe) (hf : ∃ vs, oe.data = .fields vs) (he : PE (X.tr ((a, oe) :: pn) xe) e te) (hb : attributeBase e n X.env (eval e X.env) = eval e X.env := by rfl) :
    PE (X.tr ((a, oe) :: pn) xe) (.Attribute e n pos) (tXk X.K a cls d n te) := by
  refine ⟨fun pins s σ H Q I h => ?_⟩
  refine attr_of hb (thn (he.run pins s σ H _ I h) fun u s1 ⟨x, H1, I1, rx, ex, C, dd, fs, v, ec, ed, T, hno, ea, l, q⟩ => ?_)
  subst ex
  subst ec
  subst ed
  cases (show u = Value.ref a from rx)
  obtain ⟨ha, _⟩ := I1.pin (a, oe) (List.mem_append_left _ List.mem_cons_self)
  obtain ⟨vs, hd⟩ := hf
  obtain ⟨mA, hns, hr⟩ := (show ObjOk X.prog X.w H1 s1.heap dd (.xd fs) from I1.hok dd _ ea)
  obtain ⟨od, ho, hl⟩ := lookIn_ns hns
  obtain ⟨u, hu, ru⟩ := RelO.some_of (v := v) (o := mA n) (by rw [← l]; exact hr n)
  have J : PySem.W.InstAt s1.heap a oe C (some od) := ⟨ha, hz.1, by unfold PySem.W.notCls; rw [hd] <;> rfl, by rw [hz.2]; exact ho⟩
  exact HandSPX.exc_get I1.kIn J T.ga T.gg T.exC (PySem.W.findObj_own T.hdC hno rfl (by rw [hl, hu])) (handed_of ru) ⟨v, H1, I1.tok _, ru, q⟩
end KX
/-! repr of a plain value or a container -/
namespace KX
open PySem PySem.Spec PyProof.Rows L2 Gx
/-- the text of a value's repr -/
inductive Rp (K : PySem.W.Frag) (H : Hp) : V → Str → Prop
  | non : Rp K H .non "None"
  | bl (b : Bool) : Rp K H (.bl b) (if b then ("True" : Str) else "False")
  | int (i : Int) : i.natAbs.log2 < 1920 → Rp K H (.int i) (toString i : String)
  | str (x : Str) : (reprText x).length ≤ sizeLine → Rp K H (.str x) (reprText x)
  | obj {a : Addr} {d : PyData} : Dp K H (.ref a) d → d.showable = true → d.hasDict = false → d.depth ≤ 60 → d.shown.length ≤ sizeLine → Rp K H (.ref a) d.shown
  | dict {a : Addr} : H a = some (.dK []) → Rp K H (.ref a) (PyData.dict []).shown
def rReprV (K : PySem.W.Frag) : List V → Hp → VK → Prop := fun xs H Q => ∃ x t, xs = [x] ∧ Rp K H x t ∧ Q (.str t) H
theorem call_reprV {X : Cx} (gu : X.A.guards = some []) (hu : X.A.units + 64 < cLine) : CallR X (.builtin "repr") (rReprV X.K) := by
  rintro pins s σ H xs us Q I r ⟨x, t, rfl, rp, q⟩
  obtain ⟨u, rfl, ru⟩ := r.one
  cases rp with
  | non =>
    cases (show u = Value.none from ru)
    exact PySem.P.repr_of_none ⟨.str _, H, I.tok _, ⟨_, rfl⟩, q⟩
  | bl b =>
    cases (show u = Value.bool b from ru)
    exact PySem.P.repr_of_bool ⟨.str _, H, I.tok _, ⟨_, rfl⟩, q⟩
  | int i hz =>
    obtain ⟨t, rfl⟩ := ru
    exact PySem.P.repr_of_int hz ⟨.str _, H, I.tok _, ⟨_, rfl⟩, q⟩
  | str x hz =>
    obtain ⟨t, rfl⟩ := ru
    exact PySem.P.repr_of_str ⟨.str _, H, I.tok _, ⟨_, rfl⟩, q⟩ hz
  | @obj a d hd sh nd dp sz =>
    cases (show u = Value.ref a from ru)
    obtain ⟨as, rd⟩ := Dp.reads I d _ _ hd rfl
    refine repr_of_reads' rd sh (PyData.noDict_hsm nd) gu (by omega) (fun _ _ e => e) ?_ sz
    intro h' u tk kp
    exact ⟨.str d.shown, H, I.kept kp, ⟨u, rfl⟩, q⟩
  | @dict a ha =>
    cases (show u = Value.ref a from ru)
    obtain ⟨_, nsys, vs, kv, o, es, ep, ho, ⟨hc, _⟩, hd, _, he, _⟩ := (show ObjOk X.prog X.w H s.heap a (.dK []) from I.hok a _ ha)
    cases kv
    have e0 : es.toList = [] := by
      cases q0 : es.toList with
      | nil => rfl
      | cons e r => rw [q0] at he; cases he
    have rd : Reads s.heap (.ref a) (.dict []) (a :: [] ++ []) := .dict ho hc hd (by rw [e0]; exact .nil) (by rw [e0]; exact .nil)
    have d1 : (PyData.dict []).depth ≤ 2 := by decide
    refine repr_of_reads' rd (by decide) (fun _ z => ?_) gu (Nat.lt_of_le_of_lt (Nat.add_le_add_left (show (PyData.dict []).depth + 1 ≤ 64 by omega) _) hu) (fun _ _ e => e) ?_ (by decide +kernel)
    · have z2 : sysModules = a := by simpa using z
      rw [z2] at nsys
      simp at nsys
    · intro h' u tk kp
      exact ⟨.str _, H, I.kept kp, ⟨u, rfl⟩, q⟩
end KX
/-! a list of anything against the empty list -/
namespace KX
open PySem PySem.Spec PyProof.Rows L2
def rNeE (K : PySem.W.Frag) : R2 := fun x y H Q => ∃ (a b : Addr) (xs : List V), x = .ref a ∧ y = .ref b ∧ SqL K H a xs ∧ SqL K H b [] ∧ Q (.bl (!decide (xs = []))) H
def rEqE (K : PySem.W.Frag) : R2 := fun x y H Q => ∃ (a b : Addr) (xs : List V), x = .ref a ∧ y = .ref b ∧ SqL K H a xs ∧ SqL K H b [] ∧ Q (.bl (decide (xs = []))) H
section
variable {X : Cx}
theorem op_neE (hu : X.A.units + 64 < cLine) : OpR X (compareOp .NotEq) (rNeE X.K) := by
  intro pins s σ H x y v u Q I rx ry h
  obtain ⟨a, b, xs, rfl, rfl, ha, hb, q⟩ := h
  cases (show v = Value.ref a from rx)
  cases (show u = Value.ref b from ry)
  obtain ⟨us, r1, p1, _⟩ := I.list ha
  obtain ⟨ws, r2, p2, _⟩ := I.list hb
  cases r2
  cases xs with
  | nil =>
    cases r1
    refine SeqAt.RcNeAt.lists (e := fun _ => true) p1.isList p2.isList rfl (by omega) (fun j h1 _ => absurd h1 (Nat.not_lt_zero j)) X.prog X.w _ _ ?_
    exact ⟨.bl _, H, I, rfl, q⟩
  | cons z zs =>
    cases r1 with
    | @cons _ u0 _ ur ra rw' =>
      refine SeqAt.RcNeAt.lists_lengths p1.isList p2.isList (by simp) (by omega) X.prog X.w _ _ ?_
      exact ⟨.bl _, H, I, rfl, q⟩
theorem op_eqE (hu : X.A.units + 64 < cLine) : OpR X (compareOp .Eq) (rEqE X.K) := by
  intro pins s σ H x y v u Q I rx ry h
  obtain ⟨a, b, xs, rfl, rfl, ha, hb, q⟩ := h
  cases (show v = Value.ref a from rx)
  cases (show u = Value.ref b from ry)
  obtain ⟨us, r1, p1, _⟩ := I.list ha
  obtain ⟨ws, r2, p2, _⟩ := I.list hb
  cases r2
  cases xs with
  | nil =>
    cases r1
    refine SeqAt.RcAt.lists (e := fun _ => true) p1.isList p2.isList rfl (by omega) (fun j h1 _ => absurd h1 (Nat.not_lt_zero j)) X.prog X.w _ _ ?_
    exact ⟨.bl _, H, I, rfl, q⟩
  | cons z zs =>
    cases r1 with
    | @cons _ u0 _ ur ra rw' =>
      refine SeqAt.RcAt.lists_lengths p1.isList p2.isList (by simp) (by omega) X.prog X.w _ _ ?_
      exact ⟨.bl _, H, I, rfl, q⟩
end
end KX
/-! what was heard: pairs of texts; a list of them; a def that makes lambdas; keywords -/
namespace KX
open PySem PySem.Spec PyProof.Rows L2 LamX Gx
/-- the slots at a raise are as many as the frame's names -/
theorem takes_len {X : Cx} {W : WX} (t : Takes X W) : Takes X (fun c d σ H => σ.length = X.N.length → W c d σ H) := fun u s' ⟨a, B, sI, pins, σ, H, cls, d, e, I, nb, up, sky, na, os, ag, w⟩ =>
  t u s' ⟨a, B, sI, pins, σ, H, cls, d, e, I, nb, up, sky, na, os, ag, w I.len⟩
theorem pss_imp {X : Cx} {b : List Stmt} {t t' : TS} (h : PSs X b t) (k : ∀ D σ H, t' D σ H → t D σ H) : PSs X b t' := ⟨fun pins s σ H D I q => h.run pins s σ H D I (k _ _ _ q)⟩
theorem pe_mono {X : Cx} {e : Expr} {t : TE} (h : PE X e t) : PE X e (fun σ H Q => ∃ Qn : VK, t σ H Qn ∧ ∀ v H', Qn v H' → Q v H') :=
  ⟨fun pins s σ H Q I ⟨Qn, h1, h2⟩ => wpAny_mono (h.run pins s σ H Qn I h1) (fun u s' ⟨v, H', J, r, q⟩ => ⟨v, H', J, r, h2 _ _ q⟩) (fun _ _ z => z)⟩
theorem len4 {σ : L2.St} (h : σ.length = 4) : ∃ a b c d, σ = [a, b, c, d] := by
  match σ, h with
  | [a, b, c, d], _ => exact ⟨a, b, c, d, rfl⟩
theorem new_same {H : Hp} {p : Addr} (n : H p = none) (o : HO) : Same H (upd H p o) := fun b u e => by rw [upd_ne (ne_of_none e n)]; exact e
/-- None, or a new pair of texts -/
inductive Val (H : Hp) : V → PyData → Prop
  | non : Val H .non .none
  | pair {t : Addr} {s u : Str} : H t = some (.tup [.str s, .str u]) → Val H (.ref t) (.tuple [.str s, .str u])
theorem Val.dp {K : PySem.W.Frag} {H : Hp} {v : V} {D : PyData} (h : Val H v D) : Dp K H v D := by
  cases h with
  | non => exact .non
  | pair h => exact .tup (SqT.of h) (.cons (.str _) (.cons (.str _) .nil))
theorem Val.of {H H' : Hp} {v : V} {D : PyData} (h : Val H v D) (s : ∀ b xs, H b = some (.tup xs) → H' b = some (.tup xs)) : Val H' v D := by
  cases h with
  | non => exact .non
  | pair h => exact .pair (s _ _ h)
theorem Val.ext {H H' : Hp} {v : V} {D : PyData} (h : Val H v D) (s : ExtN H H') : Val H' v D := h.of fun b xs e => s b _ e (fun ps z => by cases z)
theorem Val.same {H H' : Hp} {v : V} {D : PyData} (h : Val H v D) (s : Same H H') : Val H' v D := h.of fun b xs e => s b _ e
theorem ExtN.same {H H1 H2 : Hp} (e : ExtN H H1) (s : Same H1 H2) : ExtN H H2 := fun b o h n => s b o (e b o h n)
theorem tab_same {H H' : Hp} {P : Addr} {q : Str} (t : TabS H P q) (s : Same H H') : TabS H' P q := t.ext fun b o e => s b o e
theorem tab_lst {H : Hp} {P l : Addr} {q : Str} {xs ys : List V} (t : TabS H P q) (hl : H l = some (.lst xs)) : TabS (upd H l (.lst ys)) P q := by
  obtain ⟨ps, h1, h2, h3⟩ := t
  have np : P ≠ l := fun z => by rw [z, hl] at h1; cases h1
  refine ⟨ps, by rw [upd_ne np]; exact h1, h2, fun pos cv hc => ?_⟩
  obtain ⟨c, e1, e2⟩ := h3 pos cv hc
  have nc : c ≠ l := fun z => by
    rw [z, hl] at e2
    unfold CodeO at e2
    cases e2
  exact ⟨c, e1, by rw [upd_ne nc]; exact e2⟩
/-- a list at l that is filled with such values -/
structure Stt (H0 H : Hp) (P : Addr) (q : Str) (l : Addr) (vs : List V) (Ds : List PyData) : Prop where
  ext : ExtN H0 H
  tab : TabS H P q
  at_ : H l = some (.lst vs)
  vals : Paired (Val H) vs Ds
  fresh : ∀ o, H0 l = some o → ∃ ps, o = .tbl ps
theorem vals_of {H H' : Hp} (s : ∀ b xs, H b = some (.tup xs) → H' b = some (.tup xs)) {vs : List V} {Ds : List PyData} (h : Paired (Val H) vs Ds) : Paired (Val H') vs Ds := by
  induction h with
  | nil => exact .nil
  | cons a b ih => exact .cons (a.of s) ih
theorem paired_snoc {α β : Type} {R : α → β → Prop} {xs : List α} {ys : List β} {x : α} {y : β} (h : Paired R xs ys) (r : R x y) : Paired R (xs ++ [x]) (ys ++ [y]) := by
  induction h with
  | nil => exact .cons r .nil
  | cons a b ih => exact .cons a ih
/-- a lambda is made, heard, and what was heard is put behind -/
theorem Stt.step {H0 H H1 H2 : Hp} {P l : Addr} {q : Str} {vs : List V} {Ds : List PyData} {v : V} {D : PyData} (S : Stt H0 H P q l vs Ds) (e : ExtN H H1) (t : TabS H1 P q) (s : Same H1 H2) (r : Val H2 v D) :
    H2 l = some (.lst vs) ∧ Stt H0 (upd H2 l (.lst (vs ++ [v]))) P q l (vs ++ [v]) (Ds ++ [D]) := by
  have l2 : H2 l = some (.lst vs) := s _ _ (e _ _ S.at_ (fun ps z => by cases z))
  have ut : ∀ b xs, H2 b = some (.tup xs) → upd H2 l (.lst (vs ++ [v])) b = some (.tup xs) := fun b xs h => by
    rw [upd_ne (fun z => by rw [z, l2] at h; cases h)]
    exact h
  refine ⟨l2, fun b o h nt => ?_, tab_lst (tab_same t s) l2, upd_same, ?_, S.fresh⟩
  · have nb : b ≠ l := fun z => by
      rw [z] at h
      obtain ⟨ps, hp⟩ := S.fresh o h
      exact nt ps hp
    rw [upd_ne nb]
    exact s _ _ (e _ _ (S.ext _ _ h nt) nt)
  · refine paired_snoc (vals_of (fun b xs h => ut b xs (s _ _ (e _ _ h (fun ps z => by cases z)))) S.vals) (r.of ut)
theorem Stt.start {H0 H1 H2 : Hp} {P l : Addr} {q : Str} {v : V} {D : PyData} (e : ExtN H0 H1) (t : TabS H1 P q) (s : Same H1 H2) (r : Val H2 v D) (n : H2 l = none) : Stt H0 (upd H2 l (.lst [v])) P q l [v] [D] := by
  have s2 := s.trans (new_same n (.lst [v]))
  refine ⟨ExtN.same e s2, tab_same t s2, upd_same, .cons (r.same (new_same n _)) .nil, fun o h => ?_⟩
  cases o with
  | tbl ps => exact ⟨ps, rfl⟩
  | _ =>
    have z := s _ _ (e _ _ h (fun ps z => by cases z))
    rw [n] at z
    cases z
theorem Stt.same {H0 H H1 : Hp} {P l : Addr} {q : Str} {vs : List V} {Ds : List PyData} (S : Stt H0 H P q l vs Ds) (s : Same H H1) : Stt H0 H1 P q l vs Ds :=
  ⟨ExtN.same S.ext s, tab_same S.tab s, s _ _ S.at_, vals_of (fun b xs h => s b _ h) S.vals, S.fresh⟩
theorem vals_dp {K : PySem.W.Frag} {H : Hp} {vs : List V} {Ds : List PyData} (h : Paired (Val H) vs Ds) : DpAll K H vs Ds := by
  induction h with
  | nil => exact .nil
  | cons a b ih => exact .cons a.dp ih
section
variable {P : Program} {w : World} {K : PySem.W.Frag} {mg : Str → Option Value} {base : Heap}
/-- a def's body, its code object told, where no repr is under way -/
theorem FnG.bodyT {CX : CXT} {x qual : Str} {params : Arguments} {body : List Stmt} {scope : Scope} {dvs : List V} {kws : List (Str × V)} {f : Addr} {fd : FuncData} {N ps : List Str} {k : Nat} {sp : Sp} {p : He.Defn} (hp : He.fAd K p = f)
    (F : FunD K x qual params body scope dvs kws f fd) (S : FnScope N ps scope) (len : ∀ vs H Q E, sp vs H Q E → vs.length = ps.length)
    (hb : ∀ (A : Around) (outer : List Env) (s : Shared) (H : Hp) (vs : List V) (Q : VK) (E : XK),
      Room k (A.deeper (envOfC qual scope s.heap.objs.size f (.ref (He.cT K p).1))) → (cxOf CX P w K mg base N qual scope f (.ref (He.cT K p).1) A outer s H E).A.guards = some [] → sp vs H Q E →
      ∃ t, PSs (cxOf CX P w K mg base N qual scope f (.ref (He.cT K p).1) A outer s H E) body t ∧ t { nx := fun _ H' => Q .non H', rt := Q } (start N vs) H) :
    FnG P w K mg base CX (k + 1) f fd ps sp := by
  obtain ⟨oc, od, dV, kV, doc, pm, an, cdv, ct, osl, rfl, lk, hcd, _, _⟩ := F.ex
  obtain ⟨c, rfl⟩ := He.codeIn_ref hcd
  have ec : (He.cT K p).1 = c := He.codeOf_eq (by rw [hp]; exact lk) rfl
  refine ⟨len, ?_⟩
  intro A outer s H args us vs Q E gu hr e0 bind r hsp
  have hl := len _ _ _ _ hsp
  have held : ∀ b o, base.get? b = some o → s.heap.get? b = some o := fun b o e => (e0.bs b o e).1
  have KX : K.In s.heap := e0.mod.kin.keeps held
  have par : ∀ y ∈ ps.zip us, scope.names.lookup y.1 = some .local ∨ (scope.names.lookup y.1 = some .cell ∧ ((cellsFrom (s.heap.objs.size + 1) scope.names []).lookup y.1).isSome = true) := by
    rintro ⟨n, v⟩ hy
    rcases S.par n (List.of_mem_zip hy).1 with q | q
    · left; exact q
    · right; exact ⟨q, PySem.W.cellsFrom_some _ _ _ (.inl q)⟩
  refine codeAny_call_function hr.depth (KX _ _ lk) rfl S.co S.gen rfl
    (PySem.W.codeRec_of KX hcd) (bind _ _ _ _ ?_)
  refine wpAny_newFunctionEnv_cells S.kind par ?_
  intro env he s1 x
  subst he
  refine ⟨(e0.mod.nolimit.keeps held).keeps x.toInCall.keep, codeAny_func ?_⟩
  have hb1 := hb A outer s H vs Q E
  rw [ec] at hb1
  obtain ⟨t, ht, hq⟩ := hb1 (hr.deeper _) gu hsp
  have I := inv_start (CX := CX) (mg := mg) (E := E) S hr.hd e0 hl r x
  refine wpAny_mono (ht.run [] s1 (start N vs) H _ I hq) ?_ (fun e s' hs => hs)
  intro fl s' hs
  cases fl with
  | ret u => obtain ⟨v, σ', H', J, rv, q⟩ := hs; exact ⟨v, H', J.os, J.bare, J.base, J.hok, rv, q⟩
  | next => obtain ⟨σ', H', J, q⟩ := hs; exact ⟨V.non, H', J.os, J.bare, J.base, J.hok, rfl, q⟩
  | brk => obtain ⟨_, _, _, q⟩ := hs; cases q
  | cont => obtain ⟨_, _, _, q⟩ := hs; cases q
end
section
variable {K : PySem.W.Frag} {x qual : Str} {params : Arguments} {body : List Stmt} {scope : Scope} {f : Addr} {fd : FuncData} {ps : List Str}
/-- f(e, .., k = v, ..), no defaults: n positional values, keywords named ks -/
theorem kbN (F : FunD K x qual params body scope [] [] f fd) (n : Nat) (ks : List Str) (g : {α : Type} → List α → List α → List α)
    (hrel : ∀ {vs zs : List V} {us ws : List Value}, Vals vs us → Vals zs ws → Vals (g vs zs) (g us ws))
    (h : ∀ (kV doc pm : Value) (an : Option Addr) (cdv ct : Value) (us ws : List Value), us.length = n → ws.length = ks.length → bindArgs (PySem.W.fnOf x qual params body scope .none kV doc pm an cdv ct) ⟨us, ks.zip ws⟩ = pure (ps.zip (g us ws))) :
    KBn K fd ps n ks (fun us ws => g us ws) (fun vs zs => g vs zs) := by
  obtain ⟨oc, od, dV, kV, doc, pm, an, cdv, ct, osl, rfl, lk, hcd, hD, hK⟩ := F.ex
  rcases hD with ⟨_, rfl⟩ | ⟨e, _⟩
  · exact ⟨fun s us ws X l1 l2 => BindsTo.of_looks fun M => .of_pure (h kV doc pm an cdv ct us ws l1 l2), fun r1 r2 => hrel r1 r2⟩
  · exact absurd rfl e
end
end KX
namespace Nx
open PySem PySem.Spec PyProof.Rows L2
section
variable {prog : Program} {w : World} {A : Around} {E : Value → Shared → Prop} {s : Shared} {K : PySem.W.Frag} {x C f : Addr} {ox : Obj} {od : Option Obj} {b tb : Value}
/-- the inherited != asks the class's own == -/
theorem body_ne {Q : Fin → Shared → Prop} (hu : A.units < cLine) (X : K.In s.heap) (I : PySem.W.InstAt s.heap x ox C od)
    (he : PySem.W.findIn K (.ref C) "__eq__" = some (some (.ref f))) (hf : PySem.W.isFn K (.ref f) = true)
    (h : wpAny (model prog w) A (call (.ref f) [.ref x, b]) (fun v s' => ∃ r, v = .bool r ∧ Q (.done (.ret (.bool (!r)))) s') E s) :
    wpAny (model prog w) A (Builtin.«object.__ne__» ⟨[.ref x, b], []⟩) Q E s := by
  unfold Builtin.«object.__ne__»
  repeat (first
    | with_reducible refine wpAny_cRoomFor hu ?_
    | (refine wpAny_bind (m := callSpecialIfBound? (.ref x) (Str.ofString "__eq__") [b]) (PySem.W.ifBound_K X I he hf (wpAny_mono h (fun v s' hv => ?_) fun _ _ e => e))
       obtain ⟨r, rfl, hq⟩ := hv)
    | exact hq
    | exact wpAny_pure hq
    | exact wpAny_truthy_bool hq
    | (refine wpAny_bind (m := truthy (.bool _)) (wpAny_truthy_bool ?_))
    | wp_step)
theorem bound_ne {M : Model} {args : List Value} {Q : Option Value → Shared → Prop} (X : K.In s.heap) (I : PySem.W.InstAt s.heap x ox C od)
    (hs : PySem.W.findIn K (.ref C) "__ne__" = some (some (.builtin "object.__ne__")))
    (h : wpAny M A (call (.builtin "object.__ne__") (.ref x :: args)) (fun v => Q (some v)) E s) : wpAny M A (callSpecialIfBound? (.ref x) "__ne__" args) Q E s := by
  simp only [callSpecialIfBound?, bindSpecialIfBound?]
  refine wpAny_holding (wpAny_bind (wpAny_bind (wpAny_bind (I.type.here ((PySem.W.looks_findIn X hs).here ?_)))))
  refine wpAny_bind (wpAny_askSetting (wpAny_ite ?_))
  have fin : wpAny M A (call (.builtin "object.__ne__") ([.ref x] ++ args) >>= fun v => pure (some v)) Q E s :=
    wpAny_bind (wpAny_mono h (fun v s' h' => wpAny_pure h') fun _ _ h' => h')
  split
  · exact wpAny_bind (wpAny_of_eq (F.cmp_object.ne.bind _) (wpAny_pure (by exact fin)))
  · refine wpAny_tryCatch ?_
    exact wpAny_bind (wpAny_of_eq (F.cmp_object.ne.bind _) (wpAny_pure (by exact fin)))
theorem call_ne {Q : Value → Shared → Prop} (hu : A.units + 1 < cLine) (X : K.In s.heap) (I : PySem.W.InstAt s.heap x ox C od)
    (hm : PySem.W.mroIn K C (.type "object") = some true) (he : PySem.W.findIn K (.ref C) "__eq__" = some (some (.ref f))) (hf : PySem.W.isFn K (.ref f) = true)
    (h : wpAny (model prog w) A.in1 (call (.ref f) [.ref x, b]) (fun v s' => ∃ r, v = .bool r ∧ Q (.bool (!r)) s') E s) :
    wpAny (model prog w) A (call (.builtin "object.__ne__") [.ref x, b]) Q E s := by
  refine wpAny_call (codeAny_call_builtin F.cmp_object.ne.plain F.cmpEntry_ne ?_)
  refine PySem.W.check_slot F.cmpKind_ne F.cmpSplit_ne (I.type.andThen (PySem.W.looks_mroIn X hm)) (F.cmpArgs_ne _ _) ?_
  exact body_ne hu X I he hf h
/-- x != b, where the class of x has an own == and no own != -/
theorem rc_ne {Q : Value → Shared → Prop} (hu : A.units + 1 < cLine) (X : K.In s.heap) (I : PySem.W.InstAt s.heap x ox C od)
    (hb : PySem.W.Looks (model prog w) s.heap (typeOf b) tb) (hn : PySem.W.notFirst K C tb = true)
    (hm : PySem.W.mroIn K C (.type "object") = some true) (hs : PySem.W.findIn K (.ref C) "__ne__" = some (some (.builtin "object.__ne__")))
    (he : PySem.W.findIn K (.ref C) "__eq__" = some (some (.ref f))) (hf : PySem.W.isFn K (.ref f) = true)
    (h : wpAny (model prog w) A.in1 (call (.ref f) [.ref x, b]) (fun v s' => ∃ r, v = .bool r ∧ Q (.bool (!r)) s') E s) :
    wpAny (model prog w) A (richCompare .NotEq (.ref x) b) Q E s := by
  have one : wpAny (model prog w) A (tryCompare (.ref x) "__ne__" b) (fun r s' => ∃ v, r = some v ∧ Q v s') E s := by
    unfold tryCompare
    refine wpAny_bind (bound_ne X I hs (call_ne hu X I hm he hf (wpAny_mono h ?_ fun _ _ e => e)))
    rintro v s' ⟨r, rfl, hq⟩
    exact ⟨r, rfl, wpAny_pure ⟨_, rfl, hq⟩⟩
  unfold richCompare
  simp only [oneThing_ref, cmpInfo_NotEq]
  refine wpAny_holding (wpAny_bind (wpAny_cRoomFor (Nat.lt_of_succ_lt hu) ?_))
  refine wpAny_bind (I.type.here (wpAny_bind (hb.here ?_)))
  split
  · rename_i q
    have e : PySem.W.subIn K tb (.ref C) = some false := by
      rcases Bool.or_eq_true_iff.mp hn with z | z
      · rw [beq_iff_eq.mp z] at q
        simp at q
      · exact beq_iff_eq.mp z
    refine wpAny_bind ((PySem.W.looks_subIn X e).here ?_)
    simp only [Bool.false_eq_true, if_false]
    refine wpAny_bind (wpAny_mono one (fun r s' z => ?_) fun _ _ e => e)
    obtain ⟨v, rfl, hq⟩ := z
    exact wpAny_pure hq
  · refine wpAny_bind (wpAny_pure ?_)
    simp only [Bool.false_eq_true, if_false]
    refine wpAny_bind (wpAny_mono one (fun r s' z => ?_) fun _ _ e => e)
    obtain ⟨v, rfl, hq⟩ := z
    exact wpAny_pure hq
end
/-- what == and != ask of a class -/
structure OwnE (K : PySem.W.Frag) (C f : Addr) : Prop where
  eq : PySem.W.findIn K (.ref C) "__eq__" = some (some (.ref f))
  ne : PySem.W.findIn K (.ref C) "__ne__" = some (some (.builtin "object.__ne__"))
  fn : PySem.W.isFn K (.ref f) = true
  ob : PySem.W.mroIn K C (.type "object") = some true
section
variable {X : Cx} {CX : CXT} {k : Nat} {C f : Addr} {fd : FuncData} {ps : List Str} {sp : Sp} {E : XK}
/-- a callee below the running body -/
theorem run_at {A : Around} {pins : List (Addr × Obj)} {σ : L2.St} {H : Hp} {s : Shared} {Q : VK} {us : List Value} {vs : List V}
    (F : FnOk X.prog X.w X.K X.mg X.base CX k f fd ps sp) (hr : Room k A) (e0 : Env0 X.prog X.w X.K X.mg X.base A X.stack s H) (hb : Binds X.K fd ps []) (hx : Passes CX X E)
    (I : Inv X pins σ H s) (r : Vals vs us) (h : sp vs H Q E) :
    wpAny (model X.prog X.w) A (call (.ref f) us) (EP X pins σ Q) X.xe s := by
  have hl : us.length = ps.length := r.length ▸ F.len _ _ _ _ h
  have bd := hb s us I.kIn (by simpa using hl)
  have go := F.run A X.stack s H ⟨us, []⟩ us vs Q E hr e0 (by simpa using bd) r h
  refine wpAny_call (codeAny_mono go ?_)
  intro r s' hq
  match r, hq with
  | .error e, hq => exact hx pins σ H s e s' I hq
  | .ok (.ret u), hq => exact I.after hq
  | .ok .next, hq => exact hq.elim
  | .ok .brk, hq => exact hq.elim
  | .ok .cont, hq => exact hq.elim
theorem back {P : Value → Shared → Prop} {z : V} {v : Value} {s' : Shared} (r : RelV z v) (h : P v s') : PySem.W.CmpBack P v s' := by
  cases z with
  | non => cases (show v = Value.none from r); exact h
  | bl b => cases (show v = Value.bool b from r); exact h
  | int i => obtain ⟨t, rfl⟩ := (show ∃ t, v = Value.int i t from r); exact h
  | str x => obtain ⟨t, rfl⟩ := (show ∃ t, v = Value.str x t from r); exact h
  | byt b => obtain ⟨t, rfl⟩ := (show ∃ t, v = Value.bytes b t from r); exact h
  | flt b => obtain ⟨t, rfl⟩ := (show ∃ t, v = Value.float b t from r); exact h
  | ref a => cases (show v = Value.ref a from r); exact h
  | ty n => cases (show v = Value.type n from r); exact h
/-- x == y by the own == of the class of x -/
def rEqO (K : PySem.W.Frag) (C : Addr) (sp : Sp) (E : XK) : R2 := fun x y H Q =>
  ∃ (a dx : Addr) (fs : List (Str × V)) (t : Value), x = .ref a ∧ H a = some (.ins C dx fs) ∧ TyX K H y t ∧ PySem.W.notFirst K C t = true ∧ sp [x, y] H Q E
def rNeO (K : PySem.W.Frag) (C : Addr) (sp : Sp) (E : XK) : R2 := fun x y H Q =>
  ∃ (a dx : Addr) (fs : List (Str × V)) (t : Value), x = .ref a ∧ H a = some (.ins C dx fs) ∧ TyX K H y t ∧ PySem.W.notFirst K C t = true ∧ sp [x, y] H (fun z H' => ∃ b, z = .bl b ∧ Q (.bl (!b)) H') E
theorem op_eqO (o : OwnE X.K C f) (F : FnOk X.prog X.w X.K X.mg X.base CX k f fd ps sp) (hb : Binds X.K fd ps []) (hr : Room k X.A) (hx : Passes CX X E) :
    OpR X (compareOp .Eq) (rEqO X.K C sp E) := by
  rintro pins s σ H x y v u Q I rx ry ⟨a, dx, fs, t, rfl, ha, ty, hn, q⟩
  cases (show v = Value.ref a from rx)
  obtain ⟨Z, KZ, z, _⟩ := kit_of I ry ty
  obtain ⟨mA, J, _⟩ := ins_get I.hok ha
  obtain ⟨od, J, _⟩ := J.look
  obtain ⟨m, hF⟩ := I.fr
  show wpAny _ _ (richCompare .Eq _ _) _ _ _
  refine PySem.W.cmp_K (op := .Eq) (hr.units0) hF I.ok.mod.kin J (KZ.ty _ _ I.kIn z) hn o.eq o.fn ?_
  refine wpAny_mono (run_at F hr I.env0 hb hx I (.cons (show RelV (.ref a) (.ref a) from rfl) (.cons ry .nil)) q) ?_ (fun _ _ e => e)
  rintro r s' ⟨c, H', I', rc, qc⟩
  exact back rc ⟨c, H', I', rc, qc⟩
theorem op_neO (o : OwnE X.K C f) (F : FnOk X.prog X.w X.K X.mg X.base CX k f fd ps sp) (hb : Binds X.K fd ps []) (hr : Room (k + 1) X.A) (hx : Passes CX X E) :
    OpR X (compareOp .NotEq) (rNeO X.K C sp E) := by
  rintro pins s σ H x y v u Q I rx ry ⟨a, dx, fs, t, rfl, ha, ty, hn, q⟩
  cases (show v = Value.ref a from rx)
  obtain ⟨Z, KZ, z, _⟩ := kit_of I ry ty
  obtain ⟨mA, J, _⟩ := ins_get I.hok ha
  obtain ⟨od, J, _⟩ := J.look
  show wpAny _ _ (richCompare .NotEq _ _) _ _ _
  refine rc_ne (by have := hr.un; omega) I.kIn J (KZ.ty _ _ I.kIn z) hn o.ob o.ne o.eq o.fn ?_
  refine wpAny_mono (run_at F hr.in1 I.env0.in1 hb hx I (.cons (show RelV (.ref a) (.ref a) from rfl) (.cons ry .nil)) q) ?_ (fun _ _ e => e)
  rintro r s' ⟨c, H', I', rc, b, rfl, qb⟩
  cases (show r = Value.bool b from rc)
  exact ⟨b, rfl, .bl (!b), H', I', rfl, qb⟩
end
end Nx
/-! in by an own __contains__; a value of any kind among texts; repr of data with empty dicts -/
namespace KX
open PySem PySem.Spec PyProof.Rows L2
section
variable {X : Cx} {CX : CXT} {k : Nat} {C f : Addr} {fd : FuncData} {ps : List Str} {sp : Sp} {E : XK}
/-- x in y by the own __contains__ of the class of y -/
def rInO (C : Addr) (sp : Sp) (E : XK) : R2 := fun x y H Q =>
  ∃ (a dx : Addr) (fs : List (Str × V)), y = .ref a ∧ H a = some (.ins C dx fs) ∧ sp [y, x] H (fun z H' => ∃ b, z = .bl b ∧ Q (.bl b) H') E
theorem op_inO (hs : PySem.W.findIn X.K (.ref C) "__contains__" = some (some (.ref f))) (hf : PySem.W.isFn X.K (.ref f) = true) (F : FnOk X.prog X.w X.K X.mg X.base CX k f fd ps sp) (hb : Binds X.K fd ps []) (hr : Room k X.A) (hx : Passes CX X E) :
    OpR X (compareOp .In) (rInO C sp E) := by
  rintro pins s σ H x y v u Q I rx ry ⟨a, dx, fs, rfl, ha, q⟩
  cases (show u = Value.ref a from ry)
  obtain ⟨mA, J, _⟩ := ins_get I.hok ha
  obtain ⟨od, J, _⟩ := J.look
  have ask : ∀ {Q' : Option Value → Shared → Prop} {E'}, Q' (some (.ref f)) s → wpAny (model X.prog X.w) X.A (specialOf (.ref a) "__contains__") Q' E' s := fun {Q' E'} h => by
    unfold specialOf
    exact wpAny_bind (J.type.here ((PySem.W.looks_findIn I.kIn hs).here h))
  show wpAny _ _ (contains (.ref a) v >>= fun r => pure (Value.bool r)) _ _ _
  unfold contains
  refine wpAny_bind (wpAny_holding ?_)
  rw [show stdlibNamesSay? (.ref a) v = none from rfl]
  refine wpAny_bind (ask ?_)
  have n1 : ((some (Value.ref f) : Option Value) == some Value.none) = false := rfl
  rw [n1, if_neg Bool.false_ne_true]
  have n2 : (Value.ref f == Value.none) = false := rfl
  have run : wpAny (model X.prog X.w) X.A (call (.ref f) ([.ref a] ++ [v])) (fun r s' => ∃ b, r = .bool b ∧ ∃ H', Inv X pins σ H' s' ∧ Q (.bl b) H') X.xe s := by
    refine wpAny_mono (Nx.run_at F hr I.env0 hb hx I (.cons (show RelV (.ref a) (.ref a) from rfl) (.cons rx .nil)) q) (fun r s' ⟨c, H', I', rc, b, ec, qb⟩ => ?_) (fun _ _ e => e)
    subst ec
    cases (show r = Value.bool b from rc)
    exact ⟨b, rfl, H', I', qb⟩
  refine wpAny_bind ?_
  unfold callSpecialUnlessNone?
  refine wpAny_bind (ask (wpAny_holding (wpAny_bind ((PySem.W.bind_fn I.kIn _ (beq_iff_eq.mp hf)).here ?_))))
  show wpAny _ _ (if (Value.ref f == Value.none) = true then _ else _) _ _ _
  rw [n2, if_neg Bool.false_ne_true]
  refine wpAny_bind (wpAny_mono run (fun r s' ⟨b, er, H', I', qb⟩ => ?_) (fun _ _ e => e))
  subst er
  refine wpAny_pure ?_
  refine wpAny_truthy_bool (wpAny_pure ?_)
  exact ⟨.bl b, H', I', rfl, qb⟩
end
end KX
namespace PySem.SeqAt
open AutoSeq1 (wpAny_loadPart')
open MeetsSeq
/-! ### texts against values of any kind -/
theorem kx_str_declines (b : Str) (u : Tok) (l : Addr) (dd : Option Addr) (es : Array DictEntry) (n : Nat) (sl : Array (Option Value)) :
    Meets (Builtin.«str.__eq__» ⟨[.str b u, .ref l], []⟩) (fun _ R s => s.heap.get? l = some { cls := .type "dict", dict := dd, data := .dict es n, slots := sl } ∧ R (.ok (.ret .notImplemented)) s) :=
  .of_wp fun prog w A R s h => by obtain ⟨hp, g, d, tk, os⟩ := s; obtain ⟨hl, h⟩ := h; wp_walk using wpAny_loadPart' hl, wpAny_load hl; exact ⟨_, rfl, h⟩
theorem kx_dict_declines (b : Str) (u : Tok) (l : Addr) (dd : Option Addr) (es : Array DictEntry) (n : Nat) (sl : Array (Option Value)) :
    Meets (Builtin.«dict.__eq__» ⟨[.ref l, .str b u], []⟩) (fun _ R s => s.heap.get? l = some { cls := .type "dict", dict := dd, data := .dict es n, slots := sl } ∧ R (.ok (.ret .notImplemented)) s) :=
  .of_wp fun prog w A R s h => by obtain ⟨hp, g, d, tk, os⟩ := s; obtain ⟨hl, h⟩ := h; have f1 := PySem.F.sub_str_dict; wp_walk using wpAny_loadPart' hl; exact ⟨_, rfl, h⟩
theorem kx_str_dict {A : Around} {s : Shared} {l : Addr} {es : Array DictEntry} {n : Nat} {dd : Option Addr} {sl : Array (Option Value)} (b : Str) (u : Tok) (ho : s.heap.get? l = some { cls := .type "dict", dict := dd, data := .dict es n, slots := sl }) (hu : A.units < cLine) : EqAt A s (.str b u) (.ref l) false := fun prog w E Q h => by
  have rc : ∀ (E : Value → Shared → Prop) (Q : Value → Shared → Prop), Q (.bool false) s → wpAny (model prog w) A (richCompare .Eq (.str b u) (.ref l)) Q E s := fun E Q h =>
    rc_eq_decline_or (k := false) (typeIs_str s b u) ⟨_, ho, rfl⟩ (by decide) PySem.F.sub_dict_str F.slot_str_eq PySem.F.slot_dict_eq_refl
      (fun _ hq => call_meets F.slot_str_eq (typeIs_str s b u) F.entry_str_eq (F.args_str_eq_2 _ _) (kx_str_declines b u l dd es n sl) ⟨ho, hq⟩)
      (fun _ hq => call_meets PySem.F.slot_dict_eq_refl ⟨_, ho, rfl⟩ PySem.F.entry_dict_eq (PySem.F.args_dict_eq_2 _ _) (kx_dict_declines b u l dd es n sl) ⟨ho, hq⟩)
      (fun _ hq => wpAny_of_eq (rfl : isSame (.str b u) (.ref l) = pure false) hq) (.inr hu) h
  unfold eqBool
  refine wpAny_holding ?_
  refine wpAny_ite_split (fun hab => absurd (eq_of_beq hab) nofun) (fun _ => ?_)
  exact wpAny_bind (rc E _ (wpAny_truthy_bool h))
end PySem.SeqAt
namespace KX
open PySem PySem.Spec PyProof.Rows L2
/-- a value of a plain kind -/
inductive Kd (H : Hp) : V → Prop
  | str (x : Str) : Kd H (.str x)
  | int (i : Int) : Kd H (.int i)
  | non : Kd H .non
  | bl (b : Bool) : Kd H (.bl b)
  | tup {a : Addr} {xs : List V} : H a = some (.tup xs) → Kd H (.ref a)
  | lst {a : Addr} {xs : List V} : H a = some (.lst xs) → Kd H (.ref a)
  | dct {a : Addr} : H a = some (.dK []) → Kd H (.ref a)
/-- whether it is one of two texts -/
def isE (lo hi : Str) : V → Bool
  | .str g => decide (g = lo) || decide (g = hi)
  | _ => false
/-- x in (lo, hi) -/
def rInK (K : PySem.W.Frag) (n : Bool) : R2 := fun x y H Q => ∃ (t : Addr) (lo hi : Str), y = .ref t ∧ SqT K H t [.str lo, .str hi] ∧ Kd H x ∧ Q (.bl (n ^^ isE lo hi x)) H
section
variable {X : Cx}
theorem eq_kd {pins : List (Addr × Obj)} {σ : L2.St} {H : Hp} {s : Shared} {x : V} {u : Value} {A : Around} (I : Inv X pins σ H s) (kd : Kd H x) (rx : RelV x u) (hu : A.units < cLine) (z : Str) (t : Tok) : SeqAt.EqAt A s (.str z t) u (isE z z x) := by
  cases kd with
  | str g =>
    obtain ⟨t2, rfl⟩ := rx
    have e := SeqAt.EqAt.str_str (A := A) (s := s) z t g t2
    have e2 : (z == g) = isE z z (.str g) := by
      show _ = (decide (g = z) || decide (g = z))
      rw [Bool.or_self, Bool.eq_iff_iff, beq_iff_eq, decide_eq_true_eq]
      exact eq_comm
    rw [← e2]
    exact e
  | int i =>
    obtain ⟨t2, rfl⟩ := rx
    exact SeqAt.EqAt.str_int z t i t2
  | non =>
    cases (show u = Value.none from rx)
    exact SeqAt.EqAt.str_none z t
  | bl b =>
    cases (show u = Value.bool b from rx)
    exact SeqAt.EqAt.str_bool z t b
  | @tup a xs h =>
    cases (show u = Value.ref a from rx)
    obtain ⟨its, r, pl, hz⟩ := I.tuple (SqT.of h)
    exact SeqAt.EqAt.str_tuple z t pl hu
  | @lst a xs h =>
    cases (show u = Value.ref a from rx)
    obtain ⟨its, r, pl, hz⟩ := I.list (SqL.of h)
    exact SeqAt.EqAt.str_list z t pl.isList hu
  | @dct a ha =>
    cases (show u = Value.ref a from rx)
    obtain ⟨_, nsys, vs, kv, o, es, ep, ho, ⟨hc, hs⟩, hd, he, _⟩ := (show ObjOk X.prog X.w H s.heap a (.dK []) from I.hok a _ ha)
    obtain ⟨c, dd, dt, sl⟩ := o
    cases (show c = _ from hc)
    cases (show dt = _ from hd)
    exact SeqAt.kx_str_dict z t ho hu
theorem op_inK (hu : X.A.units + 64 < cLine) : OpR X (compareOp .In) (rInK X.K false) := by
  rintro pins s σ H x y v u Q I rx ry ⟨t, lo, hi, rfl, ht, kd, q⟩
  cases (show u = Value.ref t from ry)
  obtain ⟨its, r, pl, hz⟩ := I.tuple ht
  cases r with
  | @cons _ u1 _ ur ra rr =>
    cases rr with
    | @cons _ u2 _ us rb rc =>
      cases rc
      obtain ⟨t1, rfl⟩ := ra
      obtain ⟨t2, rfl⟩ := rb
      have hu1 : X.A.in1.units < cLine := by show X.A.units + 1 < cLine; omega
      refine SeqAt.in_tupleAt (fun y => match y with | .str z _ => isE z z x | _ => false) pl (fun y hy => ?_) ?_
      · have hy2 : y = .str lo t1 ∨ y = .str hi t2 := by simpa using hy
        rcases hy2 with rfl | rfl
        · exact eq_kd I kd rx hu1 lo t1
        · exact eq_kd I kd rx hu1 hi t2
      · refine ⟨.bl (isE lo hi x), H, I, ?_, by simpa using q⟩
        have e : (#[Value.str lo t1, Value.str hi t2].any fun y => match y with | .str z _ => isE z z x | _ => false) = isE lo hi x := by
          cases x <;> simp [isE]
        show Value.bool _ = Value.bool _
        exact congrArg Value.bool e
theorem op_notInK (hu : X.A.units + 64 < cLine) : OpR X (compareOp .NotIn) (rInK X.K true) := by
  rintro pins s σ H x y v u Q I rx ry ⟨t, lo, hi, rfl, ht, kd, q⟩
  cases (show u = Value.ref t from ry)
  obtain ⟨its, r, pl, hz⟩ := I.tuple ht
  cases r with
  | @cons _ u1 _ ur ra rr =>
    cases rr with
    | @cons _ u2 _ us rb rc =>
      cases rc
      obtain ⟨t1, rfl⟩ := ra
      obtain ⟨t2, rfl⟩ := rb
      have hu1 : X.A.in1.units < cLine := by show X.A.units + 1 < cLine; omega
      refine SeqAt.notIn_tupleAt (fun y => match y with | .str z _ => isE z z x | _ => false) pl (fun y hy => ?_) ?_
      · have hy2 : y = .str lo t1 ∨ y = .str hi t2 := by simpa using hy
        rcases hy2 with rfl | rfl
        · exact eq_kd I kd rx hu1 lo t1
        · exact eq_kd I kd rx hu1 hi t2
      · refine ⟨.bl (!isE lo hi x), H, I, ?_, by simpa using q⟩
        have e : (#[Value.str lo t1, Value.str hi t2].any fun y => match y with | .str z _ => isE z z x | _ => false) = isE lo hi x := by
          cases x <;> simp [isE]
        show Value.bool _ = Value.bool _
        exact congrArg (fun b => Value.bool (!b)) e
end
end KX
/-! repr of data with empty dicts -/
namespace KX
open PySem PySem.Spec PyProof.Rows L2 Gx
mutual
/-- a value that is this data -/
inductive Dq (K : PySem.W.Frag) (H : Hp) : V → PyData → Prop
  | non : Dq K H .non .none
  | bl (b : Bool) : Dq K H (.bl b) (.bool b)
  | int (i : Int) : Dq K H (.int i) (.int i)
  | str (x : Str) : Dq K H (.str x) (.str x)
  | lst {a : Addr} {xs : List V} {ds : List PyData} : SqL K H a xs → DqAll K H xs ds → Dq K H (.ref a) (.list ds)
  | tup {a : Addr} {xs : List V} {ds : List PyData} : SqT K H a xs → DqAll K H xs ds → Dq K H (.ref a) (.tuple ds)
  | dct {a : Addr} : H a = some (.dK []) → Dq K H (.ref a) (.dict [])
inductive DqAll (K : PySem.W.Frag) (H : Hp) : List V → List PyData → Prop
  | nil : DqAll K H [] []
  | cons {v : V} {vs : List V} {d : PyData} {ds : List PyData} : Dq K H v d → DqAll K H vs ds → DqAll K H (v :: vs) (d :: ds)
end
/-- the modules' dict is known -/
def SmK (K : PySem.W.Frag) : Prop := ∃ (es : Array DictEntry) (n : Nat) (sl : Array (Option Value)), K.lookup sysModules = some { cls := .type "dict", dict := none, data := .dict es n, slots := sl }
section
variable {X : Cx} {pins : List (Addr × Obj)} {σ : L2.St} {H : Hp} {s : Shared}
mutual
theorem Dq.reads (I : Inv X pins σ H s) (sm : SmK X.K) : ∀ (d : PyData) (v : V) (u : Value), Dq X.K H v d → RelV v u → ∃ as, Reads s.heap u d as ∧ sysModules ∉ as
  | .none, _, _, h, r => by
    cases h
    cases r
    exact ⟨_, Reads.none, by simp⟩
  | .bool b, _, _, h, r => by
    cases h
    cases r
    exact ⟨_, Reads.bool b, by simp⟩
  | .int i, _, _, h, r => by
    cases h
    obtain ⟨t, rfl⟩ := r
    exact ⟨_, Reads.int i t, by simp⟩
  | .str x, _, _, h, r => by
    cases h
    obtain ⟨t, rfl⟩ := r
    exact ⟨_, Reads.str x t, by simp⟩
  | .list ds, _, _, h, r => by
    cases h with
    | @lst a xs _ hs ha =>
      cases r
      obtain ⟨its, rv, ⟨o, n, ho, hc, _, hd⟩, _⟩ := I.list hs
      obtain ⟨as, hr, hn⟩ := Dq.readsAll I sm ds _ its ha rv
      refine ⟨_, Reads.list ho hc hd hr, fun z => ?_⟩
      rcases List.mem_cons.mp z with e | e
      · obtain ⟨es, n2, sl, e1⟩ := sm
        have e2 := I.kIn _ _ e1
        rw [e, ho] at e2
        cases e2
        cases hd
      · exact hn e
  | .tuple ds, _, _, h, r => by
    cases h with
    | tup hs ha =>
      cases r
      obtain ⟨its, rv, ⟨o, ho, hc, n, hd⟩, _⟩ := I.tuple hs
      obtain ⟨as, hr, hn⟩ := Dq.readsAll I sm ds _ its ha rv
      exact ⟨_, Reads.tuple ho hc hd hr, hn⟩
  | .dict kvs, v, u, h, r => by
    cases h with
    | @dct a ha =>
      cases (show u = Value.ref a from r)
      obtain ⟨_, nsys, vs, kv, o, es, ep, ho, ⟨hc, _⟩, hd, _, he, _⟩ := (show ObjOk X.prog X.w H s.heap a (.dK []) from I.hok a _ ha)
      cases kv
      have e0 : es.toList = [] := by
        cases q0 : es.toList with
        | nil => rfl
        | cons e r => rw [q0] at he; cases he
      refine ⟨a :: [] ++ [], .dict ho hc hd (by rw [e0]; exact .nil) (by rw [e0]; exact .nil), fun z => ?_⟩
      have z2 : sysModules = a := by simpa using z
      rw [z2] at nsys
      simp at nsys
theorem Dq.readsAll (I : Inv X pins σ H s) (sm : SmK X.K) : ∀ (ds : List PyData) (vs : List V) (us : List Value), DqAll X.K H vs ds → Vals vs us → ∃ as, ReadsAll s.heap us ds as ∧ sysModules ∉ as
  | [], _, _, h, r => by
    cases h
    cases r
    exact ⟨_, ReadsAll.nil, by simp⟩
  | d :: ds, _, _, h, r => by
    cases h with
    | cons h1 h2 =>
      cases r with
      | cons r1 r2 =>
        obtain ⟨as, q1, n1⟩ := Dq.reads I sm d _ _ h1 r1
        obtain ⟨bs, q2, n2⟩ := Dq.readsAll I sm ds _ _ h2 r2
        refine ⟨_, ReadsAll.cons q1 q2, fun z => ?_⟩
        rcases List.mem_append.mp z with e | e
        · exact n1 e
        · exact n2 e
end
end
mutual
theorem Dq.of {K : PySem.W.Frag} {H H' : Hp} (sl : ∀ a xs, SqL K H a xs → SqL K H' a xs) (st : ∀ a xs, SqT K H a xs → SqT K H' a xs) (sd : ∀ a, H a = some (.dK []) → H' a = some (.dK [])) : ∀ (d : PyData) (v : V), Dq K H v d → Dq K H' v d
  | .none, _, h => by cases h; exact .non
  | .bool b, _, h => by cases h; exact .bl b
  | .int i, _, h => by cases h; exact .int i
  | .str x, _, h => by cases h; exact .str x
  | .list ds, _, h => by
    cases h with
    | lst a b => exact .lst (sl _ _ a) (DqAll.of sl st sd ds _ b)
  | .tuple ds, _, h => by
    cases h with
    | tup a b => exact .tup (st _ _ a) (DqAll.of sl st sd ds _ b)
  | .dict kvs, _, h => by
    cases h with
    | dct a => exact .dct (sd _ a)
theorem DqAll.of {K : PySem.W.Frag} {H H' : Hp} (sl : ∀ a xs, SqL K H a xs → SqL K H' a xs) (st : ∀ a xs, SqT K H a xs → SqT K H' a xs) (sd : ∀ a, H a = some (.dK []) → H' a = some (.dK [])) : ∀ (ds : List PyData) (vs : List V), DqAll K H vs ds → DqAll K H' vs ds
  | [], _, h => by cases h; exact .nil
  | d :: ds, _, h => by
    cases h with
    | cons a b => exact .cons (Dq.of sl st sd d _ a) (DqAll.of sl st sd ds _ b)
end
theorem extL {K : PySem.W.Frag} {H H' : Hp} (e : LamX.ExtN H H') (a : Addr) (xs : List V) (h : SqL K H a xs) : SqL K H' a xs := by
  rcases h with (h | ⟨o, h⟩) | h
  · exact .inl (.inl (e _ _ h (fun ps z => by cases z)))
  · exact .inl (.inr ⟨o, e _ _ h (fun ps z => by cases z)⟩)
  · exact .inr h
theorem extT {K : PySem.W.Frag} {H H' : Hp} (e : LamX.ExtN H H') (a : Addr) (xs : List V) (h : SqT K H a xs) : SqT K H' a xs := by
  rcases h with (h | ⟨o, h⟩) | h
  · exact .inl (.inl (e _ _ h (fun ps z => by cases z)))
  · exact .inl (.inr ⟨o, e _ _ h (fun ps z => by cases z)⟩)
  · exact .inr h
theorem Dq.ext {K : PySem.W.Frag} {H H' : Hp} {v : V} {d : PyData} (h : Dq K H v d) (e : LamX.ExtN H H') : Dq K H' v d := Dq.of (extL e) (extT e) (fun a h => e _ _ h (fun ps z => by cases z)) d v h
theorem Dq.same {K : PySem.W.Frag} {H H' : Hp} {v : V} {d : PyData} (h : Dq K H v d) (e : Same H H') : Dq K H' v d := h.ext (fun b o z _ => e b o z)
theorem Kd.ext {H H' : Hp} {v : V} (k : Kd H v) (s : LamX.ExtN H H') : Kd H' v := by
  cases k with
  | str x => exact .str x
  | int i => exact .int i
  | non => exact .non
  | bl b => exact .bl b
  | tup h => exact .tup (s _ _ h (fun ps z => by cases z))
  | lst h => exact .lst (s _ _ h (fun ps z => by cases z))
  | dct h => exact .dct (s _ _ h (fun ps z => by cases z))
theorem Kd.same {H H' : Hp} {v : V} (k : Kd H v) (s : Same H H') : Kd H' v := k.ext (fun b o z _ => s b o z)
/-- short data -/
def fine (d : PyData) : Bool := d.showable && (d.leavesShort 8 && (decide (d.depth ≤ 60) && decide (d.weight ≤ 100000)))
theorem fine_len {d : PyData} (h : fine d = true) : d.showable = true ∧ d.depth ≤ 60 ∧ d.shown.length ≤ sizeLine := by
  unfold fine at h
  simp only [Bool.and_eq_true, decide_eq_true_eq] at h
  obtain ⟨h1, h2, h3, h4⟩ := h
  refine ⟨h1, h3, ?_⟩
  have z := PyData.shown_le 8 (by decide) d h2
  rw [sizeLine_eq]
  omega
def rReprQ (K : PySem.W.Frag) : List V → Hp → VK → Prop := fun xs H Q => ∃ (v : V) (d : PyData), xs = [v] ∧ Dq K H v d ∧ fine d = true ∧ Q (.str d.shown) H
theorem call_reprQ {X : Cx} (sm : SmK X.K) (gu : X.A.guards = some []) (hu : X.A.units + 64 < cLine) : CallR X (.builtin "repr") (rReprQ X.K) := by
  rintro pins s σ H xs us Q I r ⟨v, d, rfl, hd, fn, q⟩
  obtain ⟨u, rfl, ru⟩ := r.one
  obtain ⟨sh, dp, sz⟩ := fine_len fn
  have go : ∀ a, v = .ref a → wpAny (model X.prog X.w) X.A (call (.builtin "repr") [u]) (EP X pins σ Q) X.xe s := fun a e => by
    subst e
    cases (show u = Value.ref a from ru)
    obtain ⟨as, rd, nas⟩ := Dq.reads I sm d _ _ hd rfl
    refine repr_of_reads' rd sh (fun _ => nas) gu (by omega) (fun _ _ e => e) ?_ sz
    intro h' u tk kp
    exact ⟨.str d.shown, H, I.kept kp, ⟨u, rfl⟩, q⟩
  cases hd with
  | non =>
    cases (show u = Value.none from ru)
    exact PySem.P.repr_of_none ⟨.str _, H, I.tok _, ⟨_, rfl⟩, q⟩
  | bl b =>
    cases (show u = Value.bool b from ru)
    exact PySem.P.repr_of_bool ⟨.str _, H, I.tok _, ⟨_, rfl⟩, q⟩
  | int i =>
    obtain ⟨t, rfl⟩ := ru
    exact PySem.P.repr_of_int (of_decide_eq_true sh) ⟨.str _, H, I.tok _, ⟨_, rfl⟩, q⟩
  | str x =>
    obtain ⟨t, rfl⟩ := ru
    exact PySem.P.repr_of_str ⟨.str _, H, I.tok _, ⟨_, rfl⟩, q⟩ sz
  | @lst a xs ds h1 h2 => exact go a rfl
  | @tup a xs ds h1 h2 => exact go a rfl
  | @dct a h1 => exact go a rfl
end KX
/-! a list of what was heard, each item by a wish of its own -/
namespace KX
open PySem PySem.Spec PyProof.Rows L2 LamX Gx
/-- all but l and the tables stays -/
def EB (l : Addr) (H H' : Hp) : Prop := ∀ b o, b ≠ l → H b = some o → (∀ ps, o ≠ .tbl ps) → H' b = some o
theorem EB.refl (l : Addr) (H : Hp) : EB l H H := fun _ _ _ h _ => h
theorem EB.trans {l : Addr} {H H1 H2 : Hp} (a : EB l H H1) (b : EB l H1 H2) : EB l H H2 := fun c o n h t => b c o n (a c o n h t) t
theorem EB.ext {l : Addr} {H H1 : Hp} (e : ExtN H H1) : EB l H H1 := fun c o _ h t => e c o h t
theorem EB.same {l : Addr} {H H1 : Hp} (e : Same H H1) : EB l H H1 := fun c o _ h _ => e c o h
theorem EB.upd {l : Addr} {H : Hp} {o : HO} : EB l H (upd H l o) := fun c u n h _ => by rw [upd_ne n]; exact h
/-- a wish that what is at l does not touch -/
def Stab (l : Addr) (R : Hp → V → Prop) : Prop := ∀ H H' v, R H v → EB l H H' → R H' v
structure SttG (H0 H : Hp) (P : Addr) (q : Str) (l : Addr) (vs : List V) (Rs : List (Hp → V → Prop)) : Prop where
  ext : ExtN H0 H
  tab : TabS H P q
  at_ : H l = some (.lst vs)
  vals : Paired (fun v R => R H v) vs Rs
  stab : ∀ R ∈ Rs, Stab l R
  fresh : ∀ o, H0 l = some o → ∃ ps, o = .tbl ps
theorem pairs_of {l : Addr} {H H' : Hp} (e : EB l H H') : ∀ {vs : List V} {Rs : List (Hp → V → Prop)}, (∀ R ∈ Rs, Stab l R) → Paired (fun v R => R H v) vs Rs → Paired (fun v R => R H' v) vs Rs := by
  intro vs Rs st h
  induction h with
  | nil => exact .nil
  | cons a b ih => exact .cons (st _ List.mem_cons_self _ _ _ a e) (ih fun R hR => st R (List.mem_cons_of_mem _ hR))
theorem SttG.step {H0 H H1 H2 : Hp} {P l : Addr} {q : Str} {vs : List V} {Rs : List (Hp → V → Prop)} {v : V} {R : Hp → V → Prop} (S : SttG H0 H P q l vs Rs) (e : ExtN H H1) (t : TabS H1 P q) (s : Same H1 H2) (r : R H2 v) (st : Stab l R) :
    H2 l = some (.lst vs) ∧ SttG H0 (upd H2 l (.lst (vs ++ [v]))) P q l (vs ++ [v]) (Rs ++ [R]) := by
  have l2 : H2 l = some (.lst vs) := s _ _ (e _ _ S.at_ (fun ps z => by cases z))
  have eb : EB l H (upd H2 l (.lst (vs ++ [v]))) := ((EB.ext e).trans (EB.same s)).trans EB.upd
  refine ⟨l2, fun b o h nt => ?_, tab_lst (tab_same t s) l2, upd_same, paired_snoc (pairs_of eb S.stab S.vals) (st _ _ _ r EB.upd), fun R' hR => ?_, S.fresh⟩
  · have nb : b ≠ l := fun z => by
      rw [z] at h
      obtain ⟨ps, hp⟩ := S.fresh o h
      exact nt ps hp
    rw [upd_ne nb]
    exact s _ _ (e _ _ (S.ext _ _ h nt) nt)
  · rcases List.mem_append.mp hR with h | h
    · exact S.stab _ h
    · rw [List.mem_singleton.mp h]
      exact st
theorem SttG.start {H0 H1 H2 : Hp} {P l : Addr} {q : Str} {v : V} {R : Hp → V → Prop} (e : ExtN H0 H1) (t : TabS H1 P q) (s : Same H1 H2) (r : R H2 v) (st : Stab l R) (n : H2 l = none) : SttG H0 (upd H2 l (.lst [v])) P q l [v] [R] := by
  have s2 := s.trans (new_same n (.lst [v]))
  refine ⟨ExtN.same e s2, tab_same t s2, upd_same, .cons (st _ _ _ r EB.upd) .nil, fun R' hR => by rw [List.mem_singleton.mp hR]; exact st, fun o h => ?_⟩
  cases o with
  | tbl ps => exact ⟨ps, rfl⟩
  | _ =>
    have z := s _ _ (e _ _ h (fun ps z => by cases z))
    rw [n] at z
    cases z
theorem SttG.same {H0 H H1 : Hp} {P l : Addr} {q : Str} {vs : List V} {Rs : List (Hp → V → Prop)} (S : SttG H0 H P q l vs Rs) (s : Same H H1) : SttG H0 H1 P q l vs Rs :=
  ⟨ExtN.same S.ext s, tab_same S.tab s, s _ _ S.at_, pairs_of (EB.same s) S.stab S.vals, S.stab, S.fresh⟩
/-- ("corner", x) -/
def ItC (x : V) : Hp → V → Prop := fun H v => ∃ t, v = .ref t ∧ H t = some (.tup [.str "corner", x])
/-- [y], apart from l -/
def ItA (l : Addr) (y : V) : Hp → V → Prop := fun H v => ∃ t, v = .ref t ∧ t ≠ l ∧ H t = some (.lst [y])
theorem stab_C (l : Addr) (x : V) : Stab l (fun H v => ItC x H v ∧ ∀ t, v = .ref t → t ≠ l) := by
  rintro H H' v ⟨⟨t, rfl, h⟩, n⟩ e
  exact ⟨⟨t, rfl, e _ _ (n t rfl) h (fun ps z => by cases z)⟩, n⟩
theorem stab_A (l : Addr) (y : V) : Stab l (ItA l y) := by
  rintro H H' v ⟨t, rfl, n, h⟩ e
  exact ⟨t, rfl, n, e _ _ n h (fun ps z => by cases z)⟩
/-- what is heard, by whether x is an end -/
def Heard (l : Addr) (e : Bool) (x y : V) : Hp → V → Prop := fun H v => (e = false ∧ ItC x H v ∧ ∀ t, v = .ref t → t ≠ l) ∨ (e = true ∧ ItA l y H v)
theorem stab_H (l : Addr) (e : Bool) (x y : V) : Stab l (Heard l e x y) := by
  rintro H H' v (⟨a, b⟩ | ⟨a, b⟩) k
  · exact .inl ⟨a, stab_C l x _ _ _ b k⟩
  · exact .inr ⟨a, stab_A l y _ _ _ b k⟩
theorem Dq.tupC {K : PySem.W.Frag} {H : Hp} {v x : V} {D : PyData} (h : ItC x H v) (hx : Dq K H x D) : Dq K H v (.tuple [.str "corner", D]) := by
  obtain ⟨t, rfl, h⟩ := h
  exact .tup (SqT.of h) (.cons (.str _) (.cons hx .nil))
theorem Dq.lstA {K : PySem.W.Frag} {H : Hp} {v y : V} {l : Addr} {D : PyData} (h : ItA l y H v) (hx : Dq K H y D) : Dq K H v (.list [D]) := by
  obtain ⟨t, rfl, _, h⟩ := h
  exact .lst (SqL.of h) (.cons hx .nil)
/-- short data for a thing -/
structure Tiny (D : PyData) : Prop where
  sh : D.showable = true
  lv : D.leavesShort 8 = true
  dp : D.depth ≤ 2
  wt : D.weight ≤ 200
theorem Tiny.pair {D : PyData} (h : Tiny D) : PyData.showable (.tuple [.str "corner", D]) = true ∧ PyData.leavesShort 8 (.tuple [.str "corner", D]) = true ∧ PyData.depth (.tuple [.str "corner", D]) ≤ 3 ∧ PyData.weight (.tuple [.str "corner", D]) ≤ 300 := by
  have c1 : PyData.leavesShort 8 (.str "corner") = true := by decide +kernel
  have c2 : PyData.weight (.str "corner") = 6 := by decide +kernel
  refine ⟨?_, ?_, ?_, ?_⟩
  · simp [PyData.showable, PyData.showableAll, h.sh]
  · simp only [PyData.leavesShort, PyData.leavesShortAll, h.lv, Bool.and_true]
    exact c1
  · have := h.dp
    simp only [PyData.depth, PyData.depthAll]
    omega
  · have := h.wt
    have e : PyData.weight (.tuple [.str "corner", D]) = PyData.weight (.str "corner") + 1 + (PyData.weight D + 1 + 0) := rfl
    rw [e, c2]
    omega
theorem fine4 {a b c d : PyData} (ha : a.showable = true ∧ a.leavesShort 8 = true ∧ a.depth ≤ 3 ∧ a.weight ≤ 300) (hb : b.showable = true ∧ b.leavesShort 8 = true ∧ b.depth ≤ 3 ∧ b.weight ≤ 300)
    (hc : c.showable = true ∧ c.leavesShort 8 = true ∧ c.depth ≤ 3 ∧ c.weight ≤ 300) (hd : d.showable = true ∧ d.leavesShort 8 = true ∧ d.depth ≤ 3 ∧ d.weight ≤ 300) : fine (.list [a, b, c, d]) = true := by
  unfold fine
  simp only [Bool.and_eq_true, decide_eq_true_eq]
  refine ⟨?_, ?_, ?_, ?_⟩
  · simp [PyData.showable, PyData.showableAll, ha.1, hb.1, hc.1, hd.1]
  · simp [PyData.leavesShort, PyData.leavesShortAll, ha.2.1, hb.2.1, hc.2.1, hd.2.1]
  · have := ha.2.2.1
    have := hb.2.2.1
    have := hc.2.2.1
    have := hd.2.2.1
    simp only [PyData.depth, PyData.depthAll]
    omega
  · have e : PyData.weight (.list [a, b, c, d]) = a.weight + 1 + (b.weight + 1 + (c.weight + 1 + (d.weight + 1 + 0))) := rfl
    have := ha.2.2.2
    have := hb.2.2.2
    have := hc.2.2.2
    have := hd.2.2.2
    rw [e]
    omega
theorem one_str {x : Str} (h1 : x.cps.toList.length ≤ 100) (h2 : x.cps.toList.all (fun c => decide (c < 16 ^ 8)) = true) : PyData.showable (.list [.str x]) = true ∧ PyData.leavesShort 8 (.list [.str x]) = true ∧ PyData.depth (.list [.str x]) ≤ 3 ∧ PyData.weight (.list [.str x]) ≤ 300 := by
  refine ⟨rfl, ?_, by simp [PyData.depth, PyData.depthAll], ?_⟩
  · show (PyData.leavesShort 8 (.str x) && PyData.leavesShortAll 8 []) = true
    simp only [PyData.leavesShort, PyData.leavesShortAll, Bool.and_true]
    exact h2
  · have e : PyData.weight (.list [.str x]) = x.cps.size + 1 + 0 := rfl
    rw [e]
    have e2 : x.cps.size = x.cps.toList.length := (Array.length_toList).symm
    omega
theorem one_bool (b : Bool) : PyData.showable (.list [.bool b]) = true ∧ PyData.leavesShort 8 (.list [.bool b]) = true ∧ PyData.depth (.list [.bool b]) ≤ 3 ∧ PyData.weight (.list [.bool b]) ≤ 300 := by
  cases b <;> decide
theorem tiny_str {x : Str} (h1 : x.cps.toList.length ≤ 100) (h2 : x.cps.toList.all (fun c => decide (c < 16 ^ 8)) = true) : Tiny (.str x) := by
  refine ⟨rfl, ?_, by show 0 ≤ 2; omega, ?_⟩
  · simp only [PyData.leavesShort]
    exact h2
  · have e : PyData.weight (.str x) = x.cps.size := rfl
    rw [e]
    have e2 : x.cps.size = x.cps.toList.length := (Array.length_toList).symm
    omega
end KX
/-! a pair turned round: t[::-1] -/
namespace PySem.SeqAt
open AutoSeq1 (wpAny_loadPart')
open MeetsSeq
theorem kx_sliceRev {prog : Program} {w : World} {A : Around} {E : Value → Shared → Prop} {s : Shared} {sl : Addr} {x y : Value} {t : Tok} {de : Option Addr} {sb : Array (Option Value)} {Q : Int × Int × Nat → Shared → Prop}
    (hs : s.heap.get? sl = some { cls := .type "slice", dict := de, data := .fields #[.none, .none, .int (-1) t], slots := sb }) (h : Q (1, -1, 2) s) :
    wpAny (model prog w) A (Builtin.Slice.sliceApplied (.ref sl) (pure ((#[x, y] : Array Value).size : Int))) Q E s := by
  obtain ⟨hp, g, d, tk, os⟩ := s
  have hf : wpAny (model prog w) A (Builtin.Slice.sliceFields (.ref sl)) (fun r s' => r = (.none, .none, .int (-1) t) ∧ s' = ⟨hp, g, d, tk, os⟩) E ⟨hp, g, d, tk, os⟩ := by
    unfold Builtin.Slice.sliceFields
    wp_walk using wpAny_loadPart' hs, wpAny_load hs
    all_goals exact ⟨rfl, rfl⟩
  unfold Builtin.Slice.sliceApplied
  refine wpAny_bind (wpAny_mono hf (fun r s' ⟨e1, e2⟩ => ?_) (fun _ _ e => e))
  subst e1 e2
  refine wpAny_bind (HT.slicePart_ (IsPart.int (-1) t) ?_)
  have n0 : (((some (-1 : Int)).getD 1) == 0) = false := rfl
  refine (show wpAny (model prog w) A (if (((some (-1 : Int)).getD 1) == 0) = true then _ else _) Q E _ from ?_)
  rw [n0, if_neg Bool.false_ne_true]
  refine wpAny_bind (HT.slicePart_ IsPart.none ?_)
  refine wpAny_bind (HT.slicePart_ IsPart.none ?_)
  refine wpAny_bind (wpAny_pure ?_)
  refine wpAny_pure ?_
  have e : (((1 : Int), (-1 : Int), (2 : Nat)) : Int × Int × Nat) = ((Builtin.Slice.sliceAdjust none none ((some (-1 : Int)).getD 1) ((#[x, y] : Array Value).size : Int)).1, (some (-1 : Int)).getD 1, Builtin.Slice.slicePlaces (Builtin.Slice.sliceAdjust none none ((some (-1 : Int)).getD 1) ((#[x, y] : Array Value).size : Int)).1 (Builtin.Slice.sliceAdjust none none ((some (-1 : Int)).getD 1) ((#[x, y] : Array Value).size : Int)).2 ((some (-1 : Int)).getD 1)) := by
    show _ = ((Builtin.Slice.sliceAdjust none none (-1) 2).1, (-1 : Int), Builtin.Slice.slicePlaces (Builtin.Slice.sliceAdjust none none (-1) 2).1 (Builtin.Slice.sliceAdjust none none (-1) 2).2 (-1))
    decide +kernel
  rw [e] at h
  exact h
theorem kx_rev2 (l sl : Addr) (x y : Value) (n : Nat) (t : Tok) (dd de : Option Addr) (sa sb : Array (Option Value)) :
    Meets (Builtin.«tuple.__getitem__» ⟨[.ref l, .ref sl], []⟩) (fun _ R s => s.heap.get? l = some { cls := .type "tuple", dict := dd, data := .seq #[x, y] n, slots := sa } ∧ s.heap.get? sl = some { cls := .type "slice", dict := de, data := .fields #[.none, .none, .int (-1) t], slots := sb } ∧
      R (.ok (.ret (.ref s.heap.objs.size))) { s with heap := s.heap.push { cls := .type "tuple", data := .seq #[y, x] } }) :=
  .of_wp fun prog w A R s h => by
    obtain ⟨hp, g, d, tk, os⟩ := s
    obtain ⟨hl, hs, h⟩ := h
    wp_walk using wpAny_loadPart' hl, wpAny_load hl, kx_sliceRev hs
    exact ⟨_, rfl, h⟩
end PySem.SeqAt
namespace KX
open PySem PySem.Spec PyProof.Rows L2
/-- [::-1] of a pair -/
def tRevT (K : PySem.W.Frag) (te : TE) : TE := fun σ H Q => te σ H fun x H1 => ∃ (a : Addr) (y z : V), x = .ref a ∧ SqT K H1 a [y, z] ∧ ∀ p, H1 p = none → Q (.ref p) (upd H1 p (.tup [z, y]))
theorem pe_revT {X : Cx} {e : Expr} {te : TE} {k : Nat} {p1 p2 p3 pos : Pos} (he : PE X e te) (hl : ∀ o r, letTemporaryGo e o r = pure () := by intro _ _; rfl) :
    PE X (.Subscript e (.Slice none none (some (.UnaryOp .USub (.Constant (.int 1) k p1) p3)) p2) pos) (tRevT X.K te) := by
  constructor
  intro pins s σ H Q I h
  have ev : eval (.Subscript e (.Slice none none (some (.UnaryOp .USub (.Constant (.int 1) k p1) p3)) p2) pos) X.env = (do
      let o ← eval e X.env
      let i ← holding [o] (eval (.Slice none none (some (.UnaryOp .USub (.Constant (.int 1) k p1) p3)) p2) X.env)
      standAt pos
      subscriptTail e (.Slice none none (some (.UnaryOp .USub (.Constant (.int 1) k p1) p3)) p2) o i) := by rfl
  rw [ev]
  refine wpAny_bind (wpAny_mono (he.run pins s σ H _ I h) ?_ (fun _ _ e => e))
  rintro u s1 ⟨v, H1, I1, rv, a, y, z, rfl, hs, q⟩
  cases (show u = Value.ref a from rv)
  refine wpAny_bind (wpAny_holding ?_)
  unfold eval
  refine wpAny_bind (show wpAny _ _ (pure Value.none) _ _ _ from wpAny_pure ?_)
  refine wpAny_bind (wpAny_holding (show wpAny _ _ (pure Value.none) _ _ _ from wpAny_pure ?_))
  refine wpAny_bind (wpAny_holding (show wpAny _ _ (eval (.UnaryOp .USub (.Constant (.int 1) k p1) p3) X.env) _ _ _ from ?_))
  refine wpAny_mono ((pe_un un_neg pe_int).run pins s1 σ H1 (fun v H' => v = .int (-1) ∧ H' = H1) I1 ⟨_, rfl, rfl, rfl⟩) ?_ (fun _ _ e => e)
  rintro u2 s2 ⟨v2, H2, I2, rv2, rfl, rfl⟩
  obtain ⟨t2, rfl⟩ := rv2
  unfold newFields
  refine wpAny_newObj_type ?_
  have gp : ∀ (b : Addr) (u : Obj), s2.heap.get? b = some u → (s2.heap.push { cls := .type "slice", data := .fields [Value.none, Value.none, Value.int (-1) t2].toArray }).get? b = some u := fun b u hb => Heap.get?_push_of_some _ hb
  have I3 := I2.kept (t' := s2.toks) gp
  have sl3 : (s2.heap.push { cls := .type "slice", data := .fields [Value.none, Value.none, Value.int (-1) t2].toArray }).get? s2.heap.objs.size = some { cls := .type "slice", data := .fields #[.none, .none, .int (-1) t2] } := Heap.get?_push_size _ rfl
  obtain ⟨its, rvs, pl, hz⟩ := I3.tuple hs
  refine wpAny_bind (wpAny_standAt ?_)
  generalize hg : s2.heap.push { cls := .type "slice", data := .fields [Value.none, Value.none, Value.int (-1) t2].toArray } = h3 at *
  cases rvs with
  | @cons _ u1 _ ur ra rr =>
    cases rr with
    | @cons _ u2 _ us rb rc =>
      cases rc
      obtain ⟨o, ho, hc, n, hd⟩ := pl
      obtain ⟨oc, od, oda, osl⟩ := o
      cases (show oc = _ from hc)
      cases (show oda = _ from hd)
      refine subscriptTail_builtin (T := "tuple") ⟨_, ho, rfl⟩ PySem.F.slot_tuple_getitem.lookup ?_ rfl (fun r => hl _ _)
      refine getItem_meets (T := "tuple") ⟨_, ho, rfl⟩ (by decide) PySem.F.slot_tuple_getitem PySem.F.entry_tuple_getitem (PySem.F.args_tuple_getitem_2 _ _) (SeqAt.kx_rev2 a s2.heap.objs.size u1 u2 n t2 od none osl _) ⟨ho, sl3, ?_⟩
      have gp2 : ∀ (b : Addr) (u : Obj), h3.get? b = some u → (h3.push { cls := .type "tuple", data := .seq #[u2, u1] }).get? b = some u := fun b u hb => Heap.get?_push_of_some _ hb
      refine ⟨.ref h3.objs.size, _, I3.laid (a := h3.objs.size) (o := .tup [z, y]) (t' := s2.toks) gp2 (Nat.le_refl _) ?_, rfl, q _ I3.fresh⟩
      unfold ObjOk
      exact ⟨by simpa using hz, [u2, u1], .cons rb (.cons ra .nil), _, Heap.get?_push_size _ rfl, rfl, _, rfl⟩
end KX
/-! a value of any kind in a list of two texts -/
namespace KX
open PySem PySem.Spec PyProof.Rows L2
def rInKL (K : PySem.W.Frag) : R2 := fun x y H Q => ∃ (t : Addr) (lo hi : Str), y = .ref t ∧ SqL K H t [.str lo, .str hi] ∧ Kd H x ∧ Q (.bl (isE lo hi x)) H
section
variable {X : Cx}
theorem op_inKL (hu : X.A.units + 64 < cLine) : OpR X (compareOp .In) (rInKL X.K) := by
  rintro pins s σ H x y v u Q I rx ry ⟨t, lo, hi, rfl, ht, kd, q⟩
  cases (show u = Value.ref t from ry)
  obtain ⟨its, r, pl, hz⟩ := I.list ht
  cases r with
  | @cons _ u1 _ ur ra rr =>
    cases rr with
    | @cons _ u2 _ us rb rc =>
      cases rc
      obtain ⟨t1, rfl⟩ := ra
      obtain ⟨t2, rfl⟩ := rb
      have hu1 : X.A.in1.units < cLine := by show X.A.units + 1 < cLine; omega
      refine SeqAt.in_listAt (fun y => match y with | .str z _ => isE z z x | _ => false) pl.isList (fun y hy => ?_) ?_
      · have hy2 : y = .str lo t1 ∨ y = .str hi t2 := by simpa using hy
        rcases hy2 with rfl | rfl
        · exact eq_kd I kd rx hu1 lo t1
        · exact eq_kd I kd rx hu1 hi t2
      · refine ⟨.bl (isE lo hi x), H, I, ?_, by simpa using q⟩
        have e : (#[Value.str lo t1, Value.str hi t2].any fun y => match y with | .str z _ => isE z z x | _ => false) = isE lo hi x := by
          cases x <;> simp [isE]
        show Value.bool _ = Value.bool _
        exact congrArg Value.bool e
end
end KX
namespace Nx
open PySem PySem.Spec PyProof.Rows L2
section
variable {X : Cx} {CX : CXT} {k : Nat} {C f : Addr} {fd : FuncData} {ps : List Str} {sp : Sp} {E : XK}
/-- str(x) by the own __str__ of the class of x -/
def rStrO (C : Addr) (sp : Sp) (E : XK) : List V → Hp → VK → Prop := fun xs H Q =>
  ∃ (a dx : Addr) (fs : List (Str × V)), xs = [.ref a] ∧ H a = some (.ins C dx fs) ∧ sp [.ref a] H (fun z H' => ∃ y, z = .str y ∧ Q z H') E
theorem call_strO (hs : PySem.W.findIn X.K (.ref C) "__str__" = some (some (.ref f))) (hf : PySem.W.isFn X.K (.ref f) = true)
    (F : FnOk X.prog X.w X.K X.mg X.base CX k f fd ps sp) (hb : Binds X.K fd ps []) (hr : Room (k + 2) X.A) (hx : Passes CX X E) : CallR X (.type "str") (rStrO C sp E) := by
  rintro pins s σ H xs us Q I r ⟨a, dx, fs, rfl, ha, q⟩
  obtain ⟨u, rfl, ru⟩ := r.one
  cases (show u = Value.ref a from ru)
  obtain ⟨mA, J, _⟩ := ins_get I.hok ha
  obtain ⟨od, J, _⟩ := J.look
  have r1 : Room (k + 1) X.A.in1 := Room.in1 hr
  have r2 : Room k X.A.in1.in1 := Room.in1 r1
  refine PySem.W.kso_call (by have := r2.un; omega) I.kIn J hs hf ?_
  refine wpAny_mono (run_at F r2 I.env0.in1.in1 hb hx I (.cons (show RelV (.ref a) (.ref a) from rfl) .nil) q) ?_ (fun _ _ e => e)
  rintro r s' ⟨c, H', I', rc, y, rfl, qy⟩
  obtain ⟨t, rfl⟩ := (show ∃ t, r = Value.str y t from rc)
  exact ⟨.str y, H', I', ⟨t, rfl⟩, qy⟩
end
end Nx
/-! the law's call and the walk, where no repr is under way and the tables of code objects are known (after LamX's, which speak of FnOk) -/
namespace KX
open PySem PySem.Spec PyProof.Rows L2 LamX
theorem lawcall_G {P : Program} {w : World} {K : PySem.W.Frag} {mg mb : Str → Option Value} {CX : CXT} {k : Nat} {fa a : Addr} {cs : List (Addr × Addr)} {fd : FuncData} {x : Str} {sp : Sp} {s₁ : Shared} {vs : List Value} {ns : List Int}
    (KX : K.In s₁.heap) (gl0 : s₁.heap.Ns mainGlobals mg) (hb : s₁.heap.Ns builtinsNs mb) (bb0 : ∀ x : Str, x ≠ "__name__" → mb x = bootBuiltins x) (li0 : s₁.heap.NoLimit) (ge0 : s₁.gens = #[])
    (ta0 : ∀ p ∈ cs, s₁.heap.get? p.2 = some { cls := .none, data := .fields #[] }) (nt0 : ∀ p ∈ cs, K.lookup p.2 = none) (C : ∀ p ∈ cs, PySem.W.CodeHd s₁.heap p.1 p.2)
    (bm0 : ∃ (bm : Addr) (ob : Obj), mg "__builtins__" = some (.ref bm) ∧ bm ≠ builtinsNs ∧ s₁.heap.get? bm = some ob ∧ ob.cls = .type "module" ∧ ob.dict = some builtinsNs ∧ ob.data = .plain)
    (ha : s₁.heap.get? a = some { cls := .type "list", data := .seq vs.toArray }) (hi : IntsAre vs ns) (hl : ns.length ≤ sizeLine) (hr : Room k callerA)
    (F : ∀ base : Heap, K.In base → base.Ns mainGlobals mg → (∀ p ∈ cs, TabB base mg p.1 p.2) → Gx.FnG P w K mg base CX k fa fd [x] sp) (bi0 : ∀ (s : Shared) (u : Value), BindsTo s fd ⟨[u], []⟩ [(x, u)])
    (sp0 : ∀ H : Hp, (∀ p ∈ cs, H p.2 = some (.tbl #[])) → SqL K H a (ns.map V.int) → sp [.ref a] H (fun v _ => v = .bl true) fun _ _ _ => False)
    (cx0 : ∀ H e s', CX [] H s₁ (fun _ _ _ => False) e s' → False) :
    codeAny (model P w) callerA (.call (.ref fa) ⟨[.ref a], []⟩) (fun r s' => r = .ok (.ret (.bool true)) ∧ OldK s₁.heap s'.heap ∧ s'.os = s₁.os ∧ AllBare s'.gens) s₁ := by
  have vv := vals_ints hi
  have len0 := hi.length
  have atT : ∀ b : Addr, b ∈ cs.map (·.2) → s₁.heap.get? b = some { cls := .none, data := .fields #[] } := fun b hb => by
    obtain ⟨p, hp, e⟩ := List.mem_map.mp hb
    rw [← e]
    exact ta0 p hp
  have offT : a ∉ cs.map (·.2) := fun z => by
    have q := atT a z
    rw [ha] at q
    have z' : Data.seq vs.toArray _ = Data.fields #[] := congrArg Obj.data (Option.some.inj q)
    cases z'
  have inT : ∀ p ∈ cs, p.2 ∈ cs.map (·.2) := fun p hp => List.mem_map.mpr ⟨p, hp, rfl⟩
  have main_ : ∀ H : Hp, (∀ p ∈ cs, H p.2 = some (.tbl #[])) → (∀ b, H b = none ∨ b ∈ cs.map (·.2) ∨ ∃ o xs, H b = some (.frz o (.lst xs))) → SqL K H a (ns.map V.int) → HOk P w H s₁.heap → (∀ b, H b ≠ none → b = a ∨ b ∈ cs.map (·.2)) → (H a ≠ none → K.lookup a = none) →
      codeAny (model P w) callerA (.call (.ref fa) ⟨[.ref a], []⟩) (fun r s' => r = .ok (.ret (.bool true)) ∧ OldK s₁.heap s'.heap ∧ s'.os = s₁.os ∧ AllBare s'.gens) s₁ := by
    intro H tb0 on0 sq0 ok0 al0 ko0
    have toBase : ∀ {b : Addr} {o : Obj}, s₁.heap.get? b = some o → H b = none → (hidT s₁.heap H).get? b = some o := fun e n => hidT_get e n
    have free0 : ∀ {b : Addr} {o : Obj}, s₁.heap.get? b = some o → (∀ vs n, o.data ≠ .seq vs n) → o.data ≠ .fields #[] → H b = none := fun {b o} e h1 h2 => by
      cases q : H b with
      | none => rfl
      | some u =>
        rcases al0 b (by rw [q]; simp) with e' | e'
        · rw [e', ha] at e
          cases e
          exact (h1 _ _ rfl).elim
        · rw [atT b e'] at e
          cases e
          exact (h2 rfl).elim
    have freeD : ∀ {b : Addr} {o : Obj} {es : Array DictEntry} {ep : Nat}, s₁.heap.get? b = some o → o.data = .dict es ep → H b = none := fun {b o es ep} e d => by
      refine free0 e (fun vs n z => ?_) fun z => ?_
      · rw [d] at z
        cases z
      · rw [d] at z
        cases z
    have nsB : ∀ {b : Addr} {m : Str → Option Value}, s₁.heap.Ns b m → (hidT s₁.heap H).Ns b m := fun {b m} ⟨o, es, ep, e, d, r⟩ => ⟨o, es, ep, toBase e (freeD e d), d, r⟩
    have kb0 : K.In (hidT s₁.heap H) := fun b o e => toBase (KX b o e) (by
      cases q : H b with
      | none => rfl
      | some u =>
        rcases al0 b (by rw [q]; simp) with e' | e'
        · rw [e'] at e q
          rw [ko0 (by rw [q]; simp)] at e
          cases e
        · obtain ⟨p, hp, ep⟩ := List.mem_map.mp e'
          rw [← ep, nt0 p hp] at e
          cases e)
    have md0 : L2.Mod K mg (hidT s₁.heap H) := ⟨kb0, nsB gl0, ⟨mb, nsB hb, bb0⟩, let ⟨mc, h1, h2⟩ := li0; ⟨mc, nsB h1, h2⟩⟩
    have tbs : ∀ p ∈ cs, TabB (hidT s₁.heap H) mg p.1 p.2 := fun p hp => by
      have tp0 := ta0 p hp
      refine ⟨?_, ?_, fun z => ?_⟩
      · obtain ⟨o, us, file, tf, flags, tg, inF, text, tt, e1, r1, r2, r3, r4, r5, r6, r7, r8, hne⟩ := C p hp
        refine ⟨o, us, file, tf, flags, tg, inF, text, tt, toBase e1 (free0 e1 (fun vs n z => ?_) fun z => ?_), r1, r2, r3, r4, r5, r6, r7, r8, hne⟩
        · rw [r2] at z
          cases z
        · rw [r2] at z
          cases z
          simp at r3
      · obtain ⟨bm, ob, b1, b2, b3, b4, b5, b6⟩ := bm0
        have ng0 : bm ≠ mainGlobals := fun q => by
          obtain ⟨o, es, ep, e, hd, _⟩ := gl0
          rw [q, e] at b3
          cases b3
          rw [hd] at b6
          cases b6
        have np0 : bm ≠ p.2 := fun q => by
          rw [q, tp0] at b3
          cases b3
          cases b6
        refine ⟨bm, ob, b1, b2, ng0, np0, toBase b3 (free0 b3 (fun vs n z => ?_) fun z => ?_), b4, b5, b6⟩
        · rw [b6] at z
          cases z
        · rw [b6] at z
          cases z
      · obtain ⟨o, es, ep, e, hd, _⟩ := gl0
        rw [z, tp0] at e
        cases e
        cases hd
    have en0 : Env0 P w K mg (hidT s₁.heap H) callerA [] s₁ H := ⟨rfl, md0, fun b o e => of_hidT e, Nat.le_of_eq (hidT_size _ _), trivial, fun b hb => absurd (show b ∈ ([] : List Addr) from hb) (by simp), ok0, .of_eq ge0⟩
    refine codeAny_mono ((F _ kb0 (nsB gl0) tbs).run callerA [] s₁ H ⟨[.ref a], []⟩ [.ref a] [.ref a] _ _ rfl hr en0 (bi0 s₁ (.ref a)) (.cons rfl .nil) (sp0 H tb0 sq0)) fun r s' h => ?_
    cases r with
    | error e => exact (cx0 H e s' h).elim
    | ok fl =>
      cases fl with
      | next => exact False.elim h
      | brk => exact False.elim h
      | cont => exact False.elim h
      | ret u =>
        obtain ⟨v, H', os, bare, un, hok', r', q⟩ := h
        have q' : v = .bl true := q
        subst q'
        obtain rfl : u = Value.bool true := r'
        have same0 : ∀ b o, b ∉ cs.map (·.2) → s₁.heap.get? b = some o → s'.heap.get? b = some o := fun b o nb e => by
          cases q : H b with
          | none => exact un.keep b o e q (by intro z; exact absurd (show b ∈ ([] : List Addr) from z) (by simp)) (by simp)
          | some u =>
            rcases on0 b with z | z | ⟨ob, xs, z⟩
            · rw [q] at z; cases z
            · exact absurd z nb
            · have z2 := un.frzs b ob _ z
              obtain ⟨e1, _⟩ := ok0 b _ z
              obtain ⟨e2, _⟩ := hok' b _ z2
              rw [e] at e1; cases e1
              exact e2
        have more0 : ∀ p ∈ cs, ∃ more : Array Value, s'.heap.get? p.2 = some { cls := .none, data := .fields more } := fun p hp => by
          obtain ⟨more, z⟩ := un.tbls p.2 #[] (tb0 p hp)
          exact ⟨_, hok' p.2 _ z⟩
        refine ⟨rfl, ⟨fun b o e => ?_, fun b o e => ?_⟩, os, bare⟩
        · by_cases hb : b ∈ cs.map (·.2)
          · obtain ⟨p, hp, ep⟩ := List.mem_map.mp hb
            obtain ⟨more, hm⟩ := more0 p hp
            rw [← ep] at e ⊢
            rw [ta0 p hp] at e
            cases e
            exact .inr (.inl ⟨((C p hp).tab (ta0 p hp)).isCodeTable, rfl, #[], more, rfl, by rw [Array.empty_append]; exact hm⟩)
          · exact .inl (same0 b o hb e)
        · by_cases hb : b ∈ cs.map (·.2)
          · obtain ⟨p, hp, ep⟩ := List.mem_map.mp hb
            obtain ⟨more, hm⟩ := more0 p hp
            rw [← ep]
            exact ⟨_, hm⟩
          · exact ⟨o, same0 b o hb e⟩
  cases hk : K.lookup a with
  | some o =>
    have e := KX a o hk
    rw [ha] at e
    cases e
    refine main_ (fun b => if b ∈ cs.map (·.2) then some (.tbl #[]) else none) (fun p hp => if_pos (inT p hp)) (fun b => ?_) (.inr ⟨_, vs.toArray, _, hk, rfl, rfl, rfl, by rw [List.size_toArray, len0]; exact hl, by simpa using vv⟩) (fun b u z => ?_) (fun b z => ?_) fun z => absurd (show (if a ∈ cs.map (·.2) then some (HO.tbl #[]) else none) = none from if_neg offT) z
    · by_cases hb : b ∈ cs.map (·.2)
      · exact .inr (.inl hb)
      · exact .inl (if_neg hb)
    · by_cases hb : b ∈ cs.map (·.2)
      · have z' := (if_pos hb).symm.trans z
        cases z'
        exact atT b hb
      · have z' := (if_neg hb).symm.trans z
        cases z'
    · by_cases hb : b ∈ cs.map (·.2)
      · exact .inr hb
      · exact absurd (if_neg hb) z
  | none =>
    refine main_ (fun b => if b = a then some (.frz { cls := .type "list", data := .seq vs.toArray } (.lst (ns.map V.int))) else if b ∈ cs.map (·.2) then some (.tbl #[]) else none) (fun p hp => (if_neg (show ¬ p.2 = a from fun z => offT (by rw [← z]; exact inT p hp))).trans (if_pos (inT p hp))) (fun b => ?_)
      (.inl (.inr ⟨{ cls := .type "list", data := .seq vs.toArray }, if_pos rfl⟩)) (fun b u z => ?_) (fun b z => ?_) fun _ => hk
    · by_cases hb : b = a
      · exact .inr (.inr ⟨_, _, if_pos hb⟩)
      · by_cases hb2 : b ∈ cs.map (·.2)
        · exact .inr (.inl hb2)
        · exact .inl ((if_neg hb).trans (if_neg hb2))
    · by_cases hb : b = a
      · have z' := (if_pos hb).symm.trans z
        cases z'
        rw [hb]
        exact ⟨ha, by rw [List.length_map]; exact hl, vs, _, vv, ha⟩
      · have z1 := (if_neg hb).symm.trans z
        by_cases hb2 : b ∈ cs.map (·.2)
        · have z' := (if_pos hb2).symm.trans z1
          cases z'
          exact atT b hb2
        · have z' := (if_neg hb2).symm.trans z1
          cases z'
    · by_cases hb : b = a
      · exact .inl hb
      · by_cases hb2 : b ∈ cs.map (·.2)
        · exact .inr hb2
        · exact absurd ((if_neg hb).trans (if_neg hb2)) z
def LawAtG (l : PySem.W.OpenLaw) (w : World) (K : PySem.W.Frag) (CX : CXT) (k n : Nat) (x : Str) (mg : Str → Option Value) (fa : Addr) (h : Heap) : Prop :=
  ∃ (fd : FuncData) (cs : List (Addr × Addr)) (sp : Sp), (∀ p ∈ cs, h.get? p.2 = some { cls := .none, data := .fields #[] }) ∧ (∀ p ∈ cs, K.lookup p.2 = none) ∧ (∀ p ∈ cs, PySem.W.CodeHd h p.1 p.2) ∧ (∀ (s : Shared) (u : Value), BindsTo s fd ⟨[u], []⟩ [(x, u)]) ∧
    (∀ (H : Hp) (a : Addr) (ns : List Int), ns.length ≤ n → (∀ z ∈ ns, Builtin.Int.intBits z ≤ 1048576) → (∀ p ∈ cs, H p.2 = some (.tbl #[])) → SqL K H a (ns.map V.int) → sp [.ref a] H (fun v _ => v = .bl true) fun _ _ _ => False) ∧
    ∀ base : Heap, K.In base → base.Ns mainGlobals mg → (∀ p ∈ cs, TabB base mg p.1 p.2) → Gx.FnG l.prog w K mg base CX k fa fd [x] sp
theorem walk_tG {l : PySem.W.OpenLaw} {n k : Nat} {q : Program} {loose : List Str} {XP : (Str → Option Value) → Heap → Prop} {YP : World → Heap → Prop} {d : DefRec} {CX : World → CXT} {x : Str}
    (ln1 : l.most = some n) (ln2 : n ≤ sizeLine) (df0 : d.params.defaults = []) (hr : Room k callerA)
    (F : ∀ (w : World) (mg : Str → Option Value) (fa : Addr) (h : Heap), YP w h → h.Ns mainGlobals mg → mg d.name = some (.ref fa) → ∃ K : PySem.W.Frag, K.In h ∧ LawAtG l w K (CX w) k n x mg fa h)
    (cx0 : ∀ (w : World) (H : Hp) (s : Shared) (e : Value) (s' : Shared), CX w [] H s (fun _ _ _ => False) e s' → False) :
    PySem.W.WalkO q loose XP YP l.row.toRowW d [] (fun f vs => PySem.call f vs) := by
  refine Att.attach_callB ln1 df0 fun w s₀ s₁ mg mb fa o pm cd doc a vs ns G Y ho hd hcd hmg hobj hints hlen hbits ge0 => ?_
  obtain ⟨K, KX, fd, cs, sp, ta0, nt0, C, hb, sp0, hF⟩ := F w mg fa _ Y G.T.g hmg
  exact lawcall_G KX G.T.g G.T.b G.T.builtins G.T.nolimit ge0 ta0 nt0 C G.T.bmain hobj hints (Nat.le_trans hlen ln2) hr hF hb (fun H tb0 sq0 => sp0 H a ns hlen hbits tb0 sq0) fun H e s' => cx0 w H s₁ e s'
end KX
namespace Hx
open PySem PySem.Spec PyProof.Rows L2
/-- where the getter of a property of a class stands -/
def getA (K : PySem.W.Frag) (C : Addr) (f : Str) : Addr :=
  match PySem.W.recIn K (He.ma K C f) "property" with
  | some (.ref g :: _) => g
  | _ => 0
def propB (K : PySem.W.Frag) (x f : Str) : Bool :=
  let p := He.ma K (He.ga K x) f
  He.eqO (PySem.W.findIn K (.ref (He.ga K x)) f) (some (some (.ref p))) &&
  (He.eqO (PySem.W.specialIn K (.ref p) "__get__") (some (some (.builtin "property.__get__"))) &&
  (decide (PySem.W.takesIn K (.ref p) = some true) &&
  (match PySem.W.recIn K p "property" with
    | some (.ref _ :: _) => true
    | _ => false)))
theorem propB_ok {K : PySem.W.Frag} {x f : Str} (h : propB K x f = true) : PropOf K (He.ga K x) f (He.ma K (He.ga K x) f) (getA K (He.ga K x) f) := by
  obtain ⟨h1, h2⟩ := He.ba h
  obtain ⟨h3, h4⟩ := He.ba h2
  obtain ⟨h5, h6⟩ := He.ba h4
  refine ⟨He.eqO_ok h1, He.eqO_ok h3, of_decide_eq_true h5, ?_⟩
  unfold getA
  split at h6
  · rename_i g r e
    rw [e]
    exact ⟨r, rfl⟩
  · cases h6
/-- what isinstance and != ask of a class of the text -/
def clsB (K : PySem.W.Frag) (x : Str) : Bool :=
  He.eqO (PySem.W.findIn K (.ref (He.ga K x)) "__class__") (some (some (.builtin "object.__class__"))) &&
  (He.eqO (PySem.W.specialIn K (.builtin "object.__class__") "__get__") (some (some (.builtin "getset_descriptor.__get__"))) &&
  (decide (PySem.W.takesIn K (.builtin "object.__class__") = some true) &&
  (decide (PySem.W.mroIn K (He.ga K x) (.type "object") = some true) &&
  He.eqO (PySem.W.findIn K (.ref (He.ga K x)) "__ne__") (some (some (.builtin "object.__ne__"))))))
structure ClsI (K : PySem.W.Frag) (C : Addr) : Prop where
  ca : PySem.W.findIn K (.ref C) "__class__" = some (some (.builtin "object.__class__"))
  cn : PySem.W.specialIn K (.builtin "object.__class__") "__get__" = some (some (.builtin "getset_descriptor.__get__"))
  ct : PySem.W.takesIn K (.builtin "object.__class__") = some true
  cm : PySem.W.mroIn K C (.type "object") = some true
  ne : PySem.W.findIn K (.ref C) "__ne__" = some (some (.builtin "object.__ne__"))
theorem clsB_ok {K : PySem.W.Frag} {x : Str} (h : clsB K x = true) : ClsI K (He.ga K x) := by
  obtain ⟨h1, h⟩ := He.ba h
  obtain ⟨h2, h⟩ := He.ba h
  obtain ⟨h3, h⟩ := He.ba h
  obtain ⟨h4, h5⟩ := He.ba h
  exact ⟨He.eqO_ok h1, He.eqO_ok h2, of_decide_eq_true h3, of_decide_eq_true h4, He.eqO_ok h5⟩
/-- a def of the text: where it stands, what it is -/
structure Dx where
  adr : PySem.W.Frag → Addr
  nm : Str
  ql : Str
  st : Stmt
  dfl : List He.Dv := []
  kwd : List (Str × He.Dv) := []
abbrev Vx : Type := Option (Str × Str × Arguments × FuncBody × Scope × Addr × List (Str × Addr) × Addr)
def seen (K : PySem.W.Frag) (a : Addr) : Vx :=
  match K.lookup a with
  | some ⟨_, _, .func d, _⟩ => some (d.name, d.qualname, d.params, d.body, d.scope, d.globals, d.closure, d.builtins)
  | _ => none
def Dx.due (d : Dx) : Vx := some (d.nm, d.ql, defArgs d.st, .stmts (defBody d.st), defScope d.st, mainGlobals, [], builtinsNs)
def Dx.ok (K : PySem.W.Frag) (d : Dx) : Bool :=
  PySem.W.keepIn K (.ref (d.adr K)) &&
  (match K.lookup (d.adr K) with
    | some ⟨_, _, .func y, _⟩ => PySem.W.codeIn K y.code d.ql && (He.dflB K y.defaults (d.dfl.map (He.Dv.v K)) && He.kwdB K y.kwdefaults (d.kwd.map fun q => (q.1, q.2.v K)))
    | _ => false)
/-- a def as it stands behind the top -/
abbrev Fd (K : PySem.W.Frag) (d : Dx) (fd : FuncData) : Prop := FunD K d.nm d.ql (defArgs d.st) (defBody d.st) (defScope d.st) (d.dfl.map (He.Dv.v K)) (d.kwd.map fun q => (q.1, q.2.v K)) (d.adr K) fd
theorem Dx.fun_ {K : PySem.W.Frag} {d : Dx} (e : seen K (d.adr K) = d.due) (c : d.ok K = true) : ∃ fd, Fd K d fd := by
  obtain ⟨kp, c2⟩ := He.ba c
  unfold seen at e
  cases q : K.lookup (d.adr K) with
  | none => rw [q] at c2; cases c2
  | some o =>
    obtain ⟨oc, od, dt, osl⟩ := o
    rw [q] at c2 e
    cases dt with
    | func fd =>
      obtain ⟨n1, n2, n3, n4, n5, n6, n7, n8, n9, n10, n11, n12, n13, n14, n15⟩ := fd
      have z : (some (n1, n2, n3, n4, n5, n6, n7, n15) : Vx) = d.due := e
      unfold Dx.due at z
      simp only [Option.some.injEq, Prod.mk.injEq] at z
      obtain ⟨z1, z2, z3, z4, z5, z6, z7, z8⟩ := z
      subst z1 z2 z3 z4 z5 z6 z7 z8
      obtain ⟨k1, k2⟩ := He.ba (show (PySem.W.codeIn K n13 d.ql && (He.dflB K n8 (d.dfl.map (He.Dv.v K)) && He.kwdB K n9 (d.kwd.map fun q => (q.1, q.2.v K)))) = true from c2)
      obtain ⟨k3, k4⟩ := He.ba k2
      exact ⟨_, ⟨oc, od, n8, n9, n10, n11, n12, n13, n14, osl, rfl, q, k1, He.dflB_ok k3, He.kwdB_ok k4⟩, kp⟩
    | _ => cases c2
/-- the getter of a classmethod of a class -/
def getC (K : PySem.W.Frag) (C : Addr) (f : Str) : Addr :=
  match PySem.W.recIn K (He.ma K C f) "classmethod" with
  | some (.ref g :: _) => g
  | _ => 0
/-- a class's attributes are read in the usual way -/
def creadB (K : PySem.W.Frag) (x : Str) : Bool :=
  PySem.W.readsIn K (He.ga K x) (.type "type") && He.eqO (PySem.W.specialIn K (.ref (He.ga K x)) "__getattribute__") (some (some (.builtin "type.__getattribute__")))
def cmetB (K : PySem.W.Frag) (x f : Str) : Bool :=
  let p := He.ma K (He.ga K x) f
  (match PySem.W.findCls K (.ref (He.ga K x)) (.type "type") f with
    | some (.get (.builtin i) (.ref q) .none (.ref c)) => decide (i = "classmethod.__get__") && (decide (q = p) && decide (c = He.ga K x))
    | _ => false) &&
  ((match PySem.W.recIn K p "classmethod" with
    | some (.ref _ :: _) => true
    | _ => false) && PySem.W.fnIn K (getC K (He.ga K x) f))
theorem cread_ok {K : PySem.W.Frag} {x : Str} (h : creadB K x = true) : ClX.CRead K (He.ga K x) (.type "type") := ⟨(He.ba h).1, He.eqO_ok (He.ba h).2⟩
theorem cmet_ok {K : PySem.W.Frag} {x f : Str} (h : cmetB K x f = true) : ClX.CMet K (He.ga K x) (.type "type") f (He.ma K (He.ga K x) f) (getC K (He.ga K x) f) := by
  obtain ⟨h1, h2⟩ := He.ba h
  obtain ⟨h3, h4⟩ := He.ba h2
  refine ⟨?_, ?_, h4⟩
  · split at h1
    · rename_i i q c e
      obtain ⟨a1, a2⟩ := He.ba h1
      obtain ⟨a3, a4⟩ := He.ba a2
      rw [e, of_decide_eq_true a1, of_decide_eq_true a3, of_decide_eq_true a4]
    · cases h1
  · unfold getC
    split at h3
    · rename_i g r e
      rw [e]
      exact ⟨r, rfl⟩
    · cases h3
/-- a class's constant is a tuple of these -/
def ctupB (K : PySem.W.Frag) (x f : Str) (vs : List He.Dv) : Bool :=
  (match PySem.W.findCls K (.ref (He.ga K x)) (.type "type") f with
    | some (.val (.ref q)) => decide (q = He.ma K (He.ga K x) f)
    | _ => false) &&
  (match K.lookup (He.ma K (He.ga K x) f) with
    | some ⟨.type c, _, .seq its _, _⟩ => decide (c = "tuple") && (decide (its.size ≤ sizeLine) && He.relAll (vs.map (He.Dv.v K)) its.toList)
    | _ => false)
theorem ctup_ok {K : PySem.W.Frag} {x f : Str} {vs : List He.Dv} (h : ctupB K x f vs = true) :
    ClX.CVal K (He.ga K x) (.type "type") f (.ref (He.ma K (He.ga K x) f)) (.ref (He.ma K (He.ga K x) f)) ∧ ∀ H, SqT K H (He.ma K (He.ga K x) f) (vs.map (He.Dv.v K)) := by
  obtain ⟨h1, h2⟩ := He.ba h
  refine ⟨⟨?_, rfl⟩, fun H => ?_⟩
  · split at h1
    · rename_i q e
      rw [e, of_decide_eq_true h1]
    · cases h1
  · split at h2
    · rename_i c dd its n sl e
      obtain ⟨a1, a2⟩ := He.ba h2
      obtain ⟨a3, a4⟩ := He.ba a2
      exact .inr ⟨_, its, n, e, congrArg Value.type (of_decide_eq_true a1), rfl, of_decide_eq_true a3, He.relAll_ok a4⟩
    · cases h2
/-- what is looked at behind the top -/
abbrev Look : Type := Bool × List Vx
def looks (fa : List (PySem.W.Frag → Bool)) (fn : List Dx) (K : PySem.W.Frag) : Look :=
  ((fa.all fun f => f K) && fn.all fun d => d.ok K, fn.map fun d => seen K (d.adr K))
def good (fn : List Dx) : Look := (true, fn.map Dx.due)
/-- the addresses among these that are not yet among the seen ones -/
def newO (bs : List Addr) (acc : List Addr × Nat) : List Addr × Nat :=
  bs.foldl (fun r b => bif Nat.testBit r.2 b then r else (b :: r.1, Nat.lor r.2 (Nat.shiftLeft 1 b))) acc
def lvlX (g : Addr → Option Obj) (fr : List Addr) (seen : Nat) : List Addr × Nat :=
  fr.foldl (fun r a => match g a with
    | some o => newO (He.refsD o) r
    | none => r) ([], seen)
def asX (g : Addr → Option Obj) : Nat → List Addr → List Addr → Nat → List Addr
  | 0, all, _, _ => all
  | n + 1, all, fr, seen => match lvlX g fr seen with
    | (new, seen2) => asX g n (all ++ new) new seen2
def lookG (n : Nat) (fa : List (PySem.W.Frag → Bool)) (fn : List Dx) (g : Addr → Option Obj) : Look := looks fa fn (He.frG g (cStatics :: asX g n [mainGlobals] [mainGlobals] (Nat.shiftLeft 1 mainGlobals)))
def hook (n : Nat) (fa : List (PySem.W.Frag → Bool)) (fn : List Dx) : PySem.W.Hook where
  α := Look
  obs := fun s => lookG n fa fn s.heap.get?
  val := fun _ => good fn
  says := fun _ h => ∃ K : PySem.W.Frag, K.In h ∧ looks fa fn K = good fn
  of := fun _ _ e => ⟨_, He.frG_in, e⟩
  keeps := fun _ _ _ ⟨K, kin, c⟩ k => ⟨K, PySem.W.Frag.In.keeps kin k, c⟩
theorem fact {fa : List (PySem.W.Frag → Bool)} {fn : List Dx} {K : PySem.W.Frag} (c : looks fa fn K = good fn) (i : Nat) {f : PySem.W.Frag → Bool} (h : fa[i]? = some f := by rfl) : f K = true := by
  have c1 := (He.ba (show ((fa.all fun f => f K) && fn.all fun d => d.ok K) = true from congrArg Prod.fst c)).1
  exact List.all_eq_true.mp c1 f (List.mem_of_getElem? h)
theorem defn {fa : List (PySem.W.Frag → Bool)} {fn : List Dx} {K : PySem.W.Frag} (c : looks fa fn K = good fn) (i : Nat) {d : Dx} (h : fn[i]? = some d := by rfl) : ∃ fd, Fd K d fd := by
  have c2 := (He.ba (show ((fa.all fun f => f K) && fn.all fun d => d.ok K) = true from congrArg Prod.fst c)).2
  have e : fn.map (fun d => seen K (d.adr K)) = fn.map Dx.due := congrArg Prod.snd c
  have e2 : (fn.map fun d => seen K (d.adr K))[i]? = (fn.map Dx.due)[i]? := by rw [e]
  rw [List.getElem?_map, List.getElem?_map, h] at e2
  exact Dx.fun_ (Option.some.inj e2) (List.all_eq_true.mp c2 d (List.mem_of_getElem? h))
end Hx
namespace Hx
open PySem PySem.Spec PyProof.Rows L2
/-- an own error class over ValueError: its object is of the usual form -/
def excB (K : PySem.W.Frag) (C : Addr) : Bool := match K.lookup C with
  | some ⟨.type "type", _, .cls cd, sl⟩ => (match cd.mro, sl.toList with
    | .ref c :: bm, [_, _, _, _, some (.builtin n), _] => decide (c = C) && (decide (n = "ValueError.__new__") && ((!cd.hasDel) && (cd.hasDict && PySem.HandSPX.refsVE bm)))
    | _, _ => false)
  | _ => false
theorem excB_ok {K : PySem.W.Frag} {C : Addr} (h : excB K C = true) :
    ∃ nm q N bs bm sn sub ab col dd k0 k1 k2 k3 k5, K.lookup C = some (excClassObj nm q C N bs bm true sn sub ab col dd k0 k1 k2 k3 k5 "ValueError.__new__") ∧ PySem.HandSPX.refsVE bm = true := by
  unfold excB at h
  split at h
  · rename_i dd cd sl look
    split at h
    · rename_i c bm k0 k1 k2 k3 n k5 em es
      obtain ⟨e1, h⟩ := He.ba h
      obtain ⟨e2, h⟩ := He.ba h
      obtain ⟨e3, h⟩ := He.ba h
      obtain ⟨e4, e5⟩ := He.ba h
      obtain ⟨nm, bs, mro, ns, qn, hd, sn, sub, ab, col, dl⟩ := cd
      obtain ⟨l⟩ := sl
      cases (show c = C from of_decide_eq_true e1)
      cases (show n = _ from of_decide_eq_true e2)
      cases (show mro = _ from em)
      cases (show l = _ from es)
      cases (show hd = true from e4)
      cases dl with
      | true => cases e3
      | false => exact ⟨nm, qn, ns, bs, bm, sn, sub, ab, col, dd, k0, k1, k2, k3, k5, look, e5⟩
    · cases h
  · cases h
/-- all that is asked of an own error class: made, its fields read, isinstance -/
structure Er (K : PySem.W.Frag) (C : Addr) : Prop where
  o : OexC K C
  c : ExcC K C
  f : XfC K C
def erB (K : PySem.W.Frag) (C : Addr) : Bool :=
  excB K C && (He.eqO (PySem.W.findIn K (.ref C) "__setattr__") (some (some (.builtin "object.__setattr__"))) && (decide (PySem.W.subIn K (.ref C) (.type "BaseException") = some true) && (decide (PySem.W.typeIn K (.ref C) = some (.type "type")) && (PySem.W.keepIn K (.ref C) &&
  (xfB K C && (He.eqO (PySem.W.findIn K (.ref C) "__class__") (some (some (.builtin "object.__class__"))) && (He.eqO (PySem.W.specialIn K (.builtin "object.__class__") "__get__") (some (some (.builtin "getset_descriptor.__get__"))) &&
  (decide (PySem.W.takesIn K (.builtin "object.__class__") = some true) && decide (PySem.W.mroIn K C (.type "object") = some true)))))))))
theorem erB_ok {K : PySem.W.Frag} {C : Addr} (h : erB K C = true) : Er K C := by
  obtain ⟨h1, h⟩ := He.ba h
  obtain ⟨h2, h⟩ := He.ba h
  obtain ⟨h3, h⟩ := He.ba h
  obtain ⟨h4, h⟩ := He.ba h
  obtain ⟨h5, h⟩ := He.ba h
  obtain ⟨h6, h⟩ := He.ba h
  obtain ⟨h7, h⟩ := He.ba h
  obtain ⟨h8, h⟩ := He.ba h
  obtain ⟨h9, h10⟩ := He.ba h
  have x := xfB_ok h6
  exact ⟨⟨excB_ok h1, He.eqO_ok h2, of_decide_eq_true h3, of_decide_eq_true h4, h5⟩,
    ⟨x.ga, x.gg, x.exC, x.hdC, He.eqO_ok h7, He.eqO_ok h8, of_decide_eq_true h9, of_decide_eq_true h10⟩, x⟩
/-- its __init__ is a function -/
def iniB (K : PySem.W.Frag) (C : Addr) : Bool :=
  He.eqO (PySem.W.findIn K (.ref C) "__init__") (some (some (.ref (He.ma K C "__init__")))) && decide (PySem.W.typeIn K (.ref (He.ma K C "__init__")) = some (.type "function"))
theorem iniB_ok {K : PySem.W.Frag} {C : Addr} (h : iniB K C = true) : PySem.W.findIn K (.ref C) "__init__" = some (some (.ref (He.ma K C "__init__"))) ∧ PySem.W.typeIn K (.ref (He.ma K C "__init__")) = some (.type "function") :=
  ⟨He.eqO_ok (He.ba h).1, of_decide_eq_true (He.ba h).2⟩
/-! the head's hook with the tables of the defs' code objects -/
abbrev LookT : Type := Look × Bool
def frX (n : Nat) (g : Addr → Option Obj) : PySem.W.Frag := He.frT g (cStatics :: sysModules :: asX g n [mainGlobals] [mainGlobals] (Nat.shiftLeft 1 mainGlobals))
def lookT (n : Nat) (fa : List (PySem.W.Frag → Bool)) (fn : List Dx) (tf : List He.Defn) (g : Addr → Option Obj) : LookT :=
  (looks fa fn (frX n g), He.tabsB g tf (frX n g))
/-- each of these defs' code object, and its table: empty, out of K -/
def TabsAt (K : PySem.W.Frag) (tf : List He.Defn) (h : Heap) : Prop := ∀ p ∈ tf, PySem.W.codeHdIn K (He.cT K p).1 (He.cT K p).2 = true ∧ K.lookup (He.cT K p).2 = none ∧ h.get? (He.cT K p).2 = some { cls := .none, data := .fields #[] }
theorem tabs_of {n : Nat} {tf : List He.Defn} {h : Heap} (e : He.tabsB h.get? tf (frX n h.get?) = true) : TabsAt (frX n h.get?) tf h := fun p hp => by
  obtain ⟨h3, h4⟩ := He.ba (List.all_eq_true.mp e p hp)
  cases q : h.get? (He.cT (frX n h.get?) p).2 with
  | none => rw [q] at h4; cases h4
  | some o =>
    rw [q] at h4
    have h4 : He.emptyTab o = true := h4
    exact ⟨h3, He.frT_none q h4, congrArg some (He.emptyTab_eq h4)⟩
def hookT (n : Nat) (fa : List (PySem.W.Frag → Bool)) (fn : List Dx) (tf : List He.Defn) : PySem.W.Hook where
  α := LookT
  obs := fun s => lookT n fa fn tf s.heap.get?
  val := fun _ => (good fn, true)
  says := fun _ h => ∃ K : PySem.W.Frag, K.In h ∧ looks fa fn K = good fn ∧ TabsAt K tf h
  of := fun _ _ e => ⟨_, He.frT_in, congrArg Prod.fst e, tabs_of (congrArg Prod.snd e)⟩
  keeps := fun _ _ _ ⟨K, kin, c, t⟩ k => ⟨K, PySem.W.Frag.In.keeps kin k, c, fun p hp => ⟨(t p hp).1, (t p hp).2.1, k _ _ (t p hp).2.2⟩⟩
end Hx
namespace K05
open PySem PySem.Spec PyProof.Rows L2 Hx
def top (i : Nat) : Stmt := PySem.Challenge.pw_signtown_k05_avenues_and_roads_made.main.body.getD i (.Pass ⟨0, 0, 0, 0⟩)
abbrev s_is_name : Stmt := top 13
abbrev s_is_integer : Stmt := top 14
abbrev s_is_price : Stmt := top 15
abbrev s_check_street : Stmt := top 21
abbrev s_check_prices : Stmt := top 22
abbrev s_check_end : Stmt := top 23
abbrev s_far_end : Stmt := top 24
abbrev s__law_pen : Stmt := top 36
abbrev s__law_draw : Stmt := top 37
abbrev s__law_pick : Stmt := top 38
abbrev s__law_word : Stmt := top 39
abbrev s__law_two : Stmt := top 40
abbrev s__law_price : Stmt := top 41
abbrev s__law_heard : Stmt := top 42
abbrev s__law_kinds : Stmt := top 43
abbrev s__law_ends_right : Stmt := top 44
abbrev s__law_odd_right : Stmt := top 45
abbrev s__law_avenue_right : Stmt := top 46
abbrev s__law_road_right : Stmt := top 47
abbrev s_law : Stmt := top 48
abbrev s_Lane_init : Stmt := inClass (top 32) 1
abbrev s_Lane_eq : Stmt := inClass (top 32) 9
abbrev s_Lane_str : Stmt := inClass (top 32) 10
abbrev s_Lane_far : Stmt := inClass (top 32) 4
abbrev s_Lane_leads : Stmt := inClass (top 32) 5
abbrev s_Lane_contains : Stmt := inClass (top 32) 3
abbrev s_Avenue_init : Stmt := inClass (top 33) 1
abbrev s_Avenue_eq : Stmt := inClass (top 33) 9
abbrev s_Avenue_str : Stmt := inClass (top 33) 10
abbrev s_Avenue_far : Stmt := inClass (top 33) 4
abbrev s_Avenue_leads : Stmt := inClass (top 33) 5
abbrev s_Avenue_contains : Stmt := inClass (top 33) 3
abbrev s_Road_init : Stmt := inClass (top 34) 1
abbrev s_Road_eq : Stmt := inClass (top 34) 12
abbrev s_Road_str : Stmt := inClass (top 34) 13
abbrev s_Road_far : Stmt := inClass (top 34) 4
abbrev s_Road_leads : Stmt := inClass (top 34) 5
abbrev s_Road_contains : Stmt := inClass (top 34) 3
abbrev s_Road_price : Stmt := inClass (top 34) 6
abbrev s_Road_signed : Stmt := inClass (top 34) 7
abbrev s_Lane_ends : Stmt := inClass (top 32) 2
abbrev s_Avenue_ends : Stmt := inClass (top 33) 2
abbrev s_Road_ends : Stmt := inClass (top 34) 2
abbrev s_NoCorner_init : Stmt := inClass (top 8) 0
def dxs : List Hx.Dx := [
  ⟨fun K => He.ga K "is_name", "is_name", "is_name", s_is_name, [], []⟩,
  ⟨fun K => He.ga K "is_integer", "is_integer", "is_integer", s_is_integer, [], []⟩,
  ⟨fun K => He.ga K "is_price", "is_price", "is_price", s_is_price, [], []⟩,
  ⟨fun K => He.ga K "check_street", "check_street", "check_street", s_check_street, [], []⟩,
  ⟨fun K => He.ga K "check_prices", "check_prices", "check_prices", s_check_prices, [], []⟩,
  ⟨fun K => He.ga K "check_end", "check_end", "check_end", s_check_end, [], []⟩,
  ⟨fun K => He.ga K "far_end", "far_end", "far_end", s_far_end, [], []⟩,
  ⟨fun K => He.ga K "_law_pen", "_law_pen", "_law_pen", s__law_pen, [], []⟩,
  ⟨fun K => He.ga K "_law_draw", "_law_draw", "_law_draw", s__law_draw, [], []⟩,
  ⟨fun K => He.ga K "_law_pick", "_law_pick", "_law_pick", s__law_pick, [], []⟩,
  ⟨fun K => He.ga K "_law_word", "_law_word", "_law_word", s__law_word, [], []⟩,
  ⟨fun K => He.ga K "_law_two", "_law_two", "_law_two", s__law_two, [], []⟩,
  ⟨fun K => He.ga K "_law_price", "_law_price", "_law_price", s__law_price, [], []⟩,
  ⟨fun K => He.ga K "_law_heard", "_law_heard", "_law_heard", s__law_heard, [], []⟩,
  ⟨fun K => He.ga K "_law_kinds", "_law_kinds", "_law_kinds", s__law_kinds, [], []⟩,
  ⟨fun K => He.ga K "_law_ends_right", "_law_ends_right", "_law_ends_right", s__law_ends_right, [], []⟩,
  ⟨fun K => He.ga K "_law_odd_right", "_law_odd_right", "_law_odd_right", s__law_odd_right, [], []⟩,
  ⟨fun K => He.ga K "_law_avenue_right", "_law_avenue_right", "_law_avenue_right", s__law_avenue_right, [], []⟩,
  ⟨fun K => He.ga K "_law_road_right", "_law_road_right", "_law_road_right", s__law_road_right, [], []⟩,
  ⟨fun K => He.ga K "law", "law", "law", s_law, [], []⟩,
  ⟨fun K => He.ma K (He.ga K "Lane") "__init__", "__init__", "Lane.__init__", s_Lane_init, [], []⟩,
  ⟨fun K => He.ma K (He.ga K "Lane") "__eq__", "__eq__", "Lane.__eq__", s_Lane_eq, [], []⟩,
  ⟨fun K => He.ma K (He.ga K "Lane") "__str__", "__str__", "Lane.__str__", s_Lane_str, [], []⟩,
  ⟨fun K => He.ma K (He.ga K "Lane") "far", "far", "Lane.far", s_Lane_far, [], []⟩,
  ⟨fun K => He.ma K (He.ga K "Lane") "leads", "leads", "Lane.leads", s_Lane_leads, [], []⟩,
  ⟨fun K => He.ma K (He.ga K "Lane") "__contains__", "__contains__", "Lane.__contains__", s_Lane_contains, [], []⟩,
  ⟨fun K => He.ma K (He.ga K "Avenue") "__init__", "__init__", "Avenue.__init__", s_Avenue_init, [], []⟩,
  ⟨fun K => He.ma K (He.ga K "Avenue") "__eq__", "__eq__", "Avenue.__eq__", s_Avenue_eq, [], []⟩,
  ⟨fun K => He.ma K (He.ga K "Avenue") "__str__", "__str__", "Avenue.__str__", s_Avenue_str, [], []⟩,
  ⟨fun K => He.ma K (He.ga K "Avenue") "far", "far", "Avenue.far", s_Avenue_far, [], []⟩,
  ⟨fun K => He.ma K (He.ga K "Avenue") "leads", "leads", "Avenue.leads", s_Avenue_leads, [], []⟩,
  ⟨fun K => He.ma K (He.ga K "Avenue") "__contains__", "__contains__", "Avenue.__contains__", s_Avenue_contains, [], []⟩,
  ⟨fun K => He.ma K (He.ga K "Road") "__init__", "__init__", "Road.__init__", s_Road_init, [.int (0), .int (0)], []⟩,
  ⟨fun K => He.ma K (He.ga K "Road") "__eq__", "__eq__", "Road.__eq__", s_Road_eq, [], []⟩,
  ⟨fun K => He.ma K (He.ga K "Road") "__str__", "__str__", "Road.__str__", s_Road_str, [], []⟩,
  ⟨fun K => He.ma K (He.ga K "Road") "far", "far", "Road.far", s_Road_far, [], []⟩,
  ⟨fun K => He.ma K (He.ga K "Road") "leads", "leads", "Road.leads", s_Road_leads, [], []⟩,
  ⟨fun K => He.ma K (He.ga K "Road") "__contains__", "__contains__", "Road.__contains__", s_Road_contains, [], []⟩,
  ⟨fun K => He.ma K (He.ga K "Road") "price", "price", "Road.price", s_Road_price, [], []⟩,
  ⟨fun K => He.ma K (He.ga K "Road") "signed", "signed", "Road.signed", s_Road_signed, [], []⟩,
  ⟨fun K => getA K (He.ga K "Lane") "ends", "ends", "Lane.ends", s_Lane_ends, [], []⟩,
  ⟨fun K => getA K (He.ga K "Avenue") "ends", "ends", "Avenue.ends", s_Avenue_ends, [], []⟩,
  ⟨fun K => getA K (He.ga K "Road") "ends", "ends", "Road.ends", s_Road_ends, [], []⟩,
  ⟨fun K => He.ma K (He.ga K "NoCorner") "__init__", "__init__", "NoCorner.__init__", s_NoCorner_init, [], []⟩]
def fas : List (PySem.W.Frag → Bool) := [
  (He.Fa.glo "is_name").ok,
  (He.Fa.glo "is_integer").ok,
  (He.Fa.glo "is_price").ok,
  (He.Fa.glo "check_street").ok,
  (He.Fa.glo "check_prices").ok,
  (He.Fa.glo "check_end").ok,
  (He.Fa.glo "far_end").ok,
  (He.Fa.glo "_law_pen").ok,
  (He.Fa.glo "_law_draw").ok,
  (He.Fa.glo "_law_pick").ok,
  (He.Fa.glo "_law_word").ok,
  (He.Fa.glo "_law_two").ok,
  (He.Fa.glo "_law_price").ok,
  (He.Fa.glo "_law_heard").ok,
  (He.Fa.glo "_law_kinds").ok,
  (He.Fa.glo "_law_ends_right").ok,
  (He.Fa.glo "_law_odd_right").ok,
  (He.Fa.glo "_law_avenue_right").ok,
  (He.Fa.glo "_law_road_right").ok,
  (He.Fa.glo "law").ok,
  (He.Fa.glo "Lane").ok,
  (He.Fa.glo "Avenue").ok,
  (He.Fa.glo "Road").ok,
  (He.Fa.glo "Street").ok,
  (He.Fa.glo "Settled").ok,
  (He.Fa.glo "Even").ok,
  (He.Fa.glo "BadStreet").ok,
  (He.Fa.glo "BadPrice").ok,
  (He.Fa.glo "NoCorner").ok,
  (He.Fa.glo "Refused").ok,
  (He.Fa.glo "TownError").ok,
  (He.Fa.free "sorted").ok,
  (He.Fa.free "isinstance").ok,
  (He.Fa.free "str").ok,
  (He.Fa.free "int").ok,
  (He.Fa.free "bool").ok,
  (He.Fa.free "len").ok,
  (He.Fa.free "all").ok,
  (He.Fa.free "list").ok,
  (He.Fa.free "tuple").ok,
  (He.Fa.free "range").ok,
  (He.Fa.free "repr").ok,
  (He.Fa.free "abs").ok,
  (He.Fa.int "NAME_LENGTH" (8)).ok,
  (He.Fa.int "GREATEST_PRICE" (999999999999)).ok,
  (He.Fa.str "LETTERS" "abcdefghijklmnopqrstuvwxyz").ok,
  (He.Fa.cls "Lane").ok,
  (He.Fa.cls "Avenue").ok,
  (He.Fa.cls "Road").ok,
  (He.Fa.noat "Lane" "name").ok,
  (He.Fa.noat "Lane" "start").ok,
  (He.Fa.noat "Lane" "goal").ok,
  (He.Fa.noat "Avenue" "name").ok,
  (He.Fa.noat "Avenue" "one").ok,
  (He.Fa.noat "Avenue" "other").ok,
  (He.Fa.noat "Road" "name").ok,
  (He.Fa.noat "Road" "one").ok,
  (He.Fa.noat "Road" "other").ok,
  (He.Fa.noat "Road" "there").ok,
  (He.Fa.noat "Road" "back").ok,
  (He.Fa.meth "Lane" "__eq__").ok,
  (He.Fa.meth "Lane" "__str__").ok,
  (He.Fa.meth "Lane" "far").ok,
  (He.Fa.meth "Lane" "leads").ok,
  (He.Fa.meth "Lane" "__contains__").ok,
  (He.Fa.meth "Avenue" "__eq__").ok,
  (He.Fa.meth "Avenue" "__str__").ok,
  (He.Fa.meth "Avenue" "far").ok,
  (He.Fa.meth "Avenue" "leads").ok,
  (He.Fa.meth "Avenue" "__contains__").ok,
  (He.Fa.meth "Road" "__eq__").ok,
  (He.Fa.meth "Road" "__str__").ok,
  (He.Fa.meth "Road" "far").ok,
  (He.Fa.meth "Road" "leads").ok,
  (He.Fa.meth "Road" "__contains__").ok,
  (He.Fa.meth "Road" "price").ok,
  (He.Fa.meth "Road" "signed").ok,
  (He.Fa.mkr "Lane").ok,
  (He.Fa.mkr "Avenue").ok,
  (He.Fa.mkr "Road").ok,
  (fun K => Hx.propB K "Lane" "ends"),
  (fun K => Hx.propB K "Avenue" "ends"),
  (fun K => Hx.propB K "Road" "ends"),
  (fun K => Hx.clsB K "Lane"),
  (fun K => Hx.clsB K "Avenue"),
  (fun K => Hx.clsB K "Road"),
  (fun K => decide (PySem.W.kitOne K (.ref (He.ga K "Lane")) (.ref (He.ga K "Lane")) = some true)),
  (fun K => decide (PySem.W.kitOne K (.ref (He.ga K "Lane")) (.ref (He.ga K "Avenue")) = some false)),
  (fun K => decide (PySem.W.kitOne K (.ref (He.ga K "Lane")) (.ref (He.ga K "Road")) = some false)),
  (fun K => decide (PySem.W.kitOne K (.ref (He.ga K "Lane")) (.ref (He.ga K "Street")) = some true)),
  (fun K => decide (PySem.W.kitOne K (.ref (He.ga K "Lane")) (.ref (He.ga K "Settled")) = some true)),
  (fun K => decide (PySem.W.kitOne K (.ref (He.ga K "Lane")) (.ref (He.ga K "Even")) = some false)),
  (fun K => decide (PySem.W.kitOne K (.ref (He.ga K "Avenue")) (.ref (He.ga K "Lane")) = some false)),
  (fun K => decide (PySem.W.kitOne K (.ref (He.ga K "Avenue")) (.ref (He.ga K "Avenue")) = some true)),
  (fun K => decide (PySem.W.kitOne K (.ref (He.ga K "Avenue")) (.ref (He.ga K "Road")) = some false)),
  (fun K => decide (PySem.W.kitOne K (.ref (He.ga K "Avenue")) (.ref (He.ga K "Street")) = some true)),
  (fun K => decide (PySem.W.kitOne K (.ref (He.ga K "Avenue")) (.ref (He.ga K "Settled")) = some true)),
  (fun K => decide (PySem.W.kitOne K (.ref (He.ga K "Avenue")) (.ref (He.ga K "Even")) = some true)),
  (fun K => decide (PySem.W.kitOne K (.ref (He.ga K "Road")) (.ref (He.ga K "Lane")) = some false)),
  (fun K => decide (PySem.W.kitOne K (.ref (He.ga K "Road")) (.ref (He.ga K "Avenue")) = some false)),
  (fun K => decide (PySem.W.kitOne K (.ref (He.ga K "Road")) (.ref (He.ga K "Road")) = some true)),
  (fun K => decide (PySem.W.kitOne K (.ref (He.ga K "Road")) (.ref (He.ga K "Street")) = some true)),
  (fun K => decide (PySem.W.kitOne K (.ref (He.ga K "Road")) (.ref (He.ga K "Settled")) = some false)),
  (fun K => decide (PySem.W.kitOne K (.ref (He.ga K "Road")) (.ref (He.ga K "Even")) = some true)),
  (fun K => decide (PySem.W.kitOne K (.type "NoneType") (.ref (He.ga K "Lane")) = some false)),
  (fun K => decide (PySem.W.kitOne K (.type "NoneType") (.ref (He.ga K "Avenue")) = some false)),
  (fun K => decide (PySem.W.kitOne K (.type "NoneType") (.ref (He.ga K "Road")) = some false)),
  (fun K => decide (PySem.W.kitOne K (.type "bool") (.ref (He.ga K "Lane")) = some false)),
  (fun K => decide (PySem.W.kitOne K (.type "bool") (.ref (He.ga K "Avenue")) = some false)),
  (fun K => decide (PySem.W.kitOne K (.type "bool") (.ref (He.ga K "Road")) = some false)),
  (fun K => decide (PySem.W.kitOne K (.type "int") (.ref (He.ga K "Lane")) = some false)),
  (fun K => decide (PySem.W.kitOne K (.type "int") (.ref (He.ga K "Avenue")) = some false)),
  (fun K => decide (PySem.W.kitOne K (.type "int") (.ref (He.ga K "Road")) = some false)),
  (fun K => decide (PySem.W.kitOne K (.type "str") (.ref (He.ga K "Lane")) = some false)),
  (fun K => decide (PySem.W.kitOne K (.type "str") (.ref (He.ga K "Avenue")) = some false)),
  (fun K => decide (PySem.W.kitOne K (.type "str") (.ref (He.ga K "Road")) = some false)),
  (fun K => decide (PySem.W.kitOne K (.type "list") (.ref (He.ga K "Lane")) = some false)),
  (fun K => decide (PySem.W.kitOne K (.type "list") (.ref (He.ga K "Avenue")) = some false)),
  (fun K => decide (PySem.W.kitOne K (.type "list") (.ref (He.ga K "Road")) = some false)),
  (fun K => decide (PySem.W.kitOne K (.type "tuple") (.ref (He.ga K "Lane")) = some false)),
  (fun K => decide (PySem.W.kitOne K (.type "tuple") (.ref (He.ga K "Avenue")) = some false)),
  (fun K => decide (PySem.W.kitOne K (.type "tuple") (.ref (He.ga K "Road")) = some false)),
  (fun K => decide (PySem.W.kitOne K (.type "dict") (.ref (He.ga K "Lane")) = some false)),
  (fun K => decide (PySem.W.kitOne K (.type "dict") (.ref (He.ga K "Avenue")) = some false)),
  (fun K => decide (PySem.W.kitOne K (.type "dict") (.ref (He.ga K "Road")) = some false)),
  (fun K => PySem.W.notFirst K (He.ga K "Lane") (.ref (He.ga K "Lane"))),
  (fun K => PySem.W.notFirst K (He.ga K "Lane") (.ref (He.ga K "Avenue"))),
  (fun K => PySem.W.notFirst K (He.ga K "Lane") (.ref (He.ga K "Road"))),
  (fun K => PySem.W.notFirst K (He.ga K "Avenue") (.ref (He.ga K "Lane"))),
  (fun K => PySem.W.notFirst K (He.ga K "Avenue") (.ref (He.ga K "Avenue"))),
  (fun K => PySem.W.notFirst K (He.ga K "Avenue") (.ref (He.ga K "Road"))),
  (fun K => PySem.W.notFirst K (He.ga K "Road") (.ref (He.ga K "Lane"))),
  (fun K => PySem.W.notFirst K (He.ga K "Road") (.ref (He.ga K "Avenue"))),
  (fun K => PySem.W.notFirst K (He.ga K "Road") (.ref (He.ga K "Road"))),
  (fun K => PySem.W.notFirst K (He.ga K "Lane") (.type "NoneType")),
  (fun K => PySem.W.notFirst K (He.ga K "Lane") (.type "bool")),
  (fun K => PySem.W.notFirst K (He.ga K "Lane") (.type "int")),
  (fun K => PySem.W.notFirst K (He.ga K "Lane") (.type "str")),
  (fun K => PySem.W.notFirst K (He.ga K "Lane") (.type "list")),
  (fun K => PySem.W.notFirst K (He.ga K "Lane") (.type "tuple")),
  (fun K => PySem.W.notFirst K (He.ga K "Lane") (.type "dict")),
  (fun K => PySem.W.notFirst K (He.ga K "Avenue") (.type "NoneType")),
  (fun K => PySem.W.notFirst K (He.ga K "Avenue") (.type "bool")),
  (fun K => PySem.W.notFirst K (He.ga K "Avenue") (.type "int")),
  (fun K => PySem.W.notFirst K (He.ga K "Avenue") (.type "str")),
  (fun K => PySem.W.notFirst K (He.ga K "Avenue") (.type "list")),
  (fun K => PySem.W.notFirst K (He.ga K "Avenue") (.type "tuple")),
  (fun K => PySem.W.notFirst K (He.ga K "Avenue") (.type "dict")),
  (fun K => PySem.W.notFirst K (He.ga K "Road") (.type "NoneType")),
  (fun K => PySem.W.notFirst K (He.ga K "Road") (.type "bool")),
  (fun K => PySem.W.notFirst K (He.ga K "Road") (.type "int")),
  (fun K => PySem.W.notFirst K (He.ga K "Road") (.type "str")),
  (fun K => PySem.W.notFirst K (He.ga K "Road") (.type "list")),
  (fun K => PySem.W.notFirst K (He.ga K "Road") (.type "tuple")),
  (fun K => PySem.W.notFirst K (He.ga K "Road") (.type "dict")),
  (fun K => Hx.erB K (He.ga K "NoCorner")),
  (He.Fa.noat "NoCorner" "name").ok,
  (fun K => decide (PySem.W.exmOne K (.ref (He.ga K "NoCorner")) (.ref (He.ga K "TownError")) = some true)),
  (fun K => Hx.iniB K (He.ga K "NoCorner")),
  (fun K => decide (PySem.W.kitOne K (.ref (He.ga K "NoCorner")) (.ref (He.ga K "NoCorner")) = some true)),
  (fun K => decide (PySem.W.kitOne K (.ref (He.ga K "NoCorner")) (.ref (He.ga K "Refused")) = some true)),
  (fun K => He.dictB K sysModules)]
abbrev R : PySem.W.OpenRow := PySem.W.OpenLaw.row PySem.Challenge.rw_signtown_k05_avenues_and_roads_made
def tfs : List He.Defn := [("_law_odd_right", none)]
abbrev hk : PySem.W.Hook := hookT 7 fas dxs tfs
def ob (s : PySem.W.SharedT) : LookT := lookT 7 fas dxs tfs (HandSHeadRun.getT s)
theorem ob_eq (s : PySem.W.SharedT) : ob s = hk.obs s.abs := by
  have e : HandSHeadRun.getT s = s.abs.heap.get? := funext (HandSHeadRun.getT_eq s)
  unfold ob
  rw [e]
  rfl
def loose : List Str := (["_wall", "__name__", "TownError", "BadInput", "Refused", "BadPrice", "BadStreet", "BadText", "NoCorner", "LETTERS", "NAME_LENGTH", "GREATEST_PRICE", "is_name", "is_integer", "is_price", "DIGITS", "PRICE_DIGITS", "ROAD_WORDS", "SETTLED_WORDS", "check_street", "check_prices", "check_end", "far_end", "is_price_word", "can_stand", "first_wrong", "read_street", "Street", "Settled", "Even"] : List Str) ++ (["Lane", "Avenue", "Road", "_law_pen", "_law_draw", "_law_pick", "_law_word", "_law_two", "_law_price", "_law_heard", "_law_kinds", "_law_ends_right", "_law_odd_right", "_law_avenue_right", "_law_road_right"] : List Str)
end K05
namespace K05
open PySem PySem.Spec PyProof.Rows L2 Hx
/-- what stands behind the top -/
def Tx (K : PySem.W.Frag) (mg : Str → Option Value) : Prop := ∃ h : Heap, K.In h ∧ h.Ns mainGlobals mg ∧ looks fas dxs K = good dxs
section
variable {K : PySem.W.Frag} {mg : Str → Option Value}
theorem g_is_name (T : Tx K mg) : mg "is_name" = some (.ref (He.ga K "is_name")) := by obtain ⟨h, X, G, c⟩ := T; exact He.glo_ok X G (fact c 0)
theorem g_is_integer (T : Tx K mg) : mg "is_integer" = some (.ref (He.ga K "is_integer")) := by obtain ⟨h, X, G, c⟩ := T; exact He.glo_ok X G (fact c 1)
theorem g_is_price (T : Tx K mg) : mg "is_price" = some (.ref (He.ga K "is_price")) := by obtain ⟨h, X, G, c⟩ := T; exact He.glo_ok X G (fact c 2)
theorem g_check_street (T : Tx K mg) : mg "check_street" = some (.ref (He.ga K "check_street")) := by obtain ⟨h, X, G, c⟩ := T; exact He.glo_ok X G (fact c 3)
theorem g_check_prices (T : Tx K mg) : mg "check_prices" = some (.ref (He.ga K "check_prices")) := by obtain ⟨h, X, G, c⟩ := T; exact He.glo_ok X G (fact c 4)
theorem g_check_end (T : Tx K mg) : mg "check_end" = some (.ref (He.ga K "check_end")) := by obtain ⟨h, X, G, c⟩ := T; exact He.glo_ok X G (fact c 5)
theorem g_far_end (T : Tx K mg) : mg "far_end" = some (.ref (He.ga K "far_end")) := by obtain ⟨h, X, G, c⟩ := T; exact He.glo_ok X G (fact c 6)
theorem g__law_pen (T : Tx K mg) : mg "_law_pen" = some (.ref (He.ga K "_law_pen")) := by obtain ⟨h, X, G, c⟩ := T; exact He.glo_ok X G (fact c 7)
theorem g__law_draw (T : Tx K mg) : mg "_law_draw" = some (.ref (He.ga K "_law_draw")) := by obtain ⟨h, X, G, c⟩ := T; exact He.glo_ok X G (fact c 8)
theorem g__law_pick (T : Tx K mg) : mg "_law_pick" = some (.ref (He.ga K "_law_pick")) := by obtain ⟨h, X, G, c⟩ := T; exact He.glo_ok X G (fact c 9)
theorem g__law_word (T : Tx K mg) : mg "_law_word" = some (.ref (He.ga K "_law_word")) := by obtain ⟨h, X, G, c⟩ := T; exact He.glo_ok X G (fact c 10)
theorem g__law_two (T : Tx K mg) : mg "_law_two" = some (.ref (He.ga K "_law_two")) := by obtain ⟨h, X, G, c⟩ := T; exact He.glo_ok X G (fact c 11)
theorem g__law_price (T : Tx K mg) : mg "_law_price" = some (.ref (He.ga K "_law_price")) := by obtain ⟨h, X, G, c⟩ := T; exact He.glo_ok X G (fact c 12)
theorem g__law_heard (T : Tx K mg) : mg "_law_heard" = some (.ref (He.ga K "_law_heard")) := by obtain ⟨h, X, G, c⟩ := T; exact He.glo_ok X G (fact c 13)
theorem g__law_kinds (T : Tx K mg) : mg "_law_kinds" = some (.ref (He.ga K "_law_kinds")) := by obtain ⟨h, X, G, c⟩ := T; exact He.glo_ok X G (fact c 14)
theorem g__law_ends_right (T : Tx K mg) : mg "_law_ends_right" = some (.ref (He.ga K "_law_ends_right")) := by obtain ⟨h, X, G, c⟩ := T; exact He.glo_ok X G (fact c 15)
theorem g__law_odd_right (T : Tx K mg) : mg "_law_odd_right" = some (.ref (He.ga K "_law_odd_right")) := by obtain ⟨h, X, G, c⟩ := T; exact He.glo_ok X G (fact c 16)
theorem g__law_avenue_right (T : Tx K mg) : mg "_law_avenue_right" = some (.ref (He.ga K "_law_avenue_right")) := by obtain ⟨h, X, G, c⟩ := T; exact He.glo_ok X G (fact c 17)
theorem g__law_road_right (T : Tx K mg) : mg "_law_road_right" = some (.ref (He.ga K "_law_road_right")) := by obtain ⟨h, X, G, c⟩ := T; exact He.glo_ok X G (fact c 18)
theorem g_law (T : Tx K mg) : mg "law" = some (.ref (He.ga K "law")) := by obtain ⟨h, X, G, c⟩ := T; exact He.glo_ok X G (fact c 19)
theorem g_Lane (T : Tx K mg) : mg "Lane" = some (.ref (He.ga K "Lane")) := by obtain ⟨h, X, G, c⟩ := T; exact He.glo_ok X G (fact c 20)
theorem g_Avenue (T : Tx K mg) : mg "Avenue" = some (.ref (He.ga K "Avenue")) := by obtain ⟨h, X, G, c⟩ := T; exact He.glo_ok X G (fact c 21)
theorem g_Road (T : Tx K mg) : mg "Road" = some (.ref (He.ga K "Road")) := by obtain ⟨h, X, G, c⟩ := T; exact He.glo_ok X G (fact c 22)
theorem g_Street (T : Tx K mg) : mg "Street" = some (.ref (He.ga K "Street")) := by obtain ⟨h, X, G, c⟩ := T; exact He.glo_ok X G (fact c 23)
theorem g_Settled (T : Tx K mg) : mg "Settled" = some (.ref (He.ga K "Settled")) := by obtain ⟨h, X, G, c⟩ := T; exact He.glo_ok X G (fact c 24)
theorem g_Even (T : Tx K mg) : mg "Even" = some (.ref (He.ga K "Even")) := by obtain ⟨h, X, G, c⟩ := T; exact He.glo_ok X G (fact c 25)
theorem g_BadStreet (T : Tx K mg) : mg "BadStreet" = some (.ref (He.ga K "BadStreet")) := by obtain ⟨h, X, G, c⟩ := T; exact He.glo_ok X G (fact c 26)
theorem g_BadPrice (T : Tx K mg) : mg "BadPrice" = some (.ref (He.ga K "BadPrice")) := by obtain ⟨h, X, G, c⟩ := T; exact He.glo_ok X G (fact c 27)
theorem g_NoCorner (T : Tx K mg) : mg "NoCorner" = some (.ref (He.ga K "NoCorner")) := by obtain ⟨h, X, G, c⟩ := T; exact He.glo_ok X G (fact c 28)
theorem g_Refused (T : Tx K mg) : mg "Refused" = some (.ref (He.ga K "Refused")) := by obtain ⟨h, X, G, c⟩ := T; exact He.glo_ok X G (fact c 29)
theorem g_TownError (T : Tx K mg) : mg "TownError" = some (.ref (He.ga K "TownError")) := by obtain ⟨h, X, G, c⟩ := T; exact He.glo_ok X G (fact c 30)
theorem n_sorted (T : Tx K mg) : mg "sorted" = none := by obtain ⟨h, X, G, c⟩ := T; exact He.free_ok X G (fact c 31)
theorem n_isinstance (T : Tx K mg) : mg "isinstance" = none := by obtain ⟨h, X, G, c⟩ := T; exact He.free_ok X G (fact c 32)
theorem n_str (T : Tx K mg) : mg "str" = none := by obtain ⟨h, X, G, c⟩ := T; exact He.free_ok X G (fact c 33)
theorem n_int (T : Tx K mg) : mg "int" = none := by obtain ⟨h, X, G, c⟩ := T; exact He.free_ok X G (fact c 34)
theorem n_bool (T : Tx K mg) : mg "bool" = none := by obtain ⟨h, X, G, c⟩ := T; exact He.free_ok X G (fact c 35)
theorem n_len (T : Tx K mg) : mg "len" = none := by obtain ⟨h, X, G, c⟩ := T; exact He.free_ok X G (fact c 36)
theorem n_all (T : Tx K mg) : mg "all" = none := by obtain ⟨h, X, G, c⟩ := T; exact He.free_ok X G (fact c 37)
theorem n_list (T : Tx K mg) : mg "list" = none := by obtain ⟨h, X, G, c⟩ := T; exact He.free_ok X G (fact c 38)
theorem n_tuple (T : Tx K mg) : mg "tuple" = none := by obtain ⟨h, X, G, c⟩ := T; exact He.free_ok X G (fact c 39)
theorem n_range (T : Tx K mg) : mg "range" = none := by obtain ⟨h, X, G, c⟩ := T; exact He.free_ok X G (fact c 40)
theorem n_repr (T : Tx K mg) : mg "repr" = none := by obtain ⟨h, X, G, c⟩ := T; exact He.free_ok X G (fact c 41)
theorem n_abs (T : Tx K mg) : mg "abs" = none := by obtain ⟨h, X, G, c⟩ := T; exact He.free_ok X G (fact c 42)
theorem i_NAME_LENGTH (T : Tx K mg) {v : Int} (e : (He.Fa.int "NAME_LENGTH" v) = (He.Fa.int "NAME_LENGTH" v)) : fas[43]? = some (He.Fa.int "NAME_LENGTH" v).ok → ∃ t, mg "NAME_LENGTH" = some (.int v t) := by intro q; obtain ⟨h, X, G, c⟩ := T; exact He.int_ok X G (fact c 43 q)
theorem i_GREATEST_PRICE (T : Tx K mg) {v : Int} (e : (He.Fa.int "GREATEST_PRICE" v) = (He.Fa.int "GREATEST_PRICE" v)) : fas[44]? = some (He.Fa.int "GREATEST_PRICE" v).ok → ∃ t, mg "GREATEST_PRICE" = some (.int v t) := by intro q; obtain ⟨h, X, G, c⟩ := T; exact He.int_ok X G (fact c 44 q)
theorem t_LETTERS (T : Tx K mg) {v : Str} : fas[45]? = some (He.Fa.str "LETTERS" v).ok → ∃ t, mg "LETTERS" = some (.str v t) := by intro q; obtain ⟨h, X, G, c⟩ := T; exact He.str_ok X G (fact c 45 q)
theorem c_Lane (T : Tx K mg) : Cls K (He.ga K "Lane") := by obtain ⟨h, X, G, c⟩ := T; exact He.cls_ok (fact c 46)
theorem c_Avenue (T : Tx K mg) : Cls K (He.ga K "Avenue") := by obtain ⟨h, X, G, c⟩ := T; exact He.cls_ok (fact c 47)
theorem c_Road (T : Tx K mg) : Cls K (He.ga K "Road") := by obtain ⟨h, X, G, c⟩ := T; exact He.cls_ok (fact c 48)
theorem na_Lane_name (T : Tx K mg) : NoAttr K (He.ga K "Lane") "name" := by obtain ⟨h, X, G, c⟩ := T; exact He.noat_ok (fact c 49)
theorem na_Lane_start (T : Tx K mg) : NoAttr K (He.ga K "Lane") "start" := by obtain ⟨h, X, G, c⟩ := T; exact He.noat_ok (fact c 50)
theorem na_Lane_goal (T : Tx K mg) : NoAttr K (He.ga K "Lane") "goal" := by obtain ⟨h, X, G, c⟩ := T; exact He.noat_ok (fact c 51)
theorem na_Avenue_name (T : Tx K mg) : NoAttr K (He.ga K "Avenue") "name" := by obtain ⟨h, X, G, c⟩ := T; exact He.noat_ok (fact c 52)
theorem na_Avenue_one (T : Tx K mg) : NoAttr K (He.ga K "Avenue") "one" := by obtain ⟨h, X, G, c⟩ := T; exact He.noat_ok (fact c 53)
theorem na_Avenue_other (T : Tx K mg) : NoAttr K (He.ga K "Avenue") "other" := by obtain ⟨h, X, G, c⟩ := T; exact He.noat_ok (fact c 54)
theorem na_Road_name (T : Tx K mg) : NoAttr K (He.ga K "Road") "name" := by obtain ⟨h, X, G, c⟩ := T; exact He.noat_ok (fact c 55)
theorem na_Road_one (T : Tx K mg) : NoAttr K (He.ga K "Road") "one" := by obtain ⟨h, X, G, c⟩ := T; exact He.noat_ok (fact c 56)
theorem na_Road_other (T : Tx K mg) : NoAttr K (He.ga K "Road") "other" := by obtain ⟨h, X, G, c⟩ := T; exact He.noat_ok (fact c 57)
theorem na_Road_there (T : Tx K mg) : NoAttr K (He.ga K "Road") "there" := by obtain ⟨h, X, G, c⟩ := T; exact He.noat_ok (fact c 58)
theorem na_Road_back (T : Tx K mg) : NoAttr K (He.ga K "Road") "back" := by obtain ⟨h, X, G, c⟩ := T; exact He.noat_ok (fact c 59)
theorem m_Lane_eq (T : Tx K mg) : Meth K (He.ga K "Lane") "__eq__" (He.ma K (He.ga K "Lane") "__eq__") := by obtain ⟨h, X, G, c⟩ := T; exact He.meth_ok (fact c 60)
theorem m_Lane_str (T : Tx K mg) : Meth K (He.ga K "Lane") "__str__" (He.ma K (He.ga K "Lane") "__str__") := by obtain ⟨h, X, G, c⟩ := T; exact He.meth_ok (fact c 61)
theorem m_Lane_far (T : Tx K mg) : Meth K (He.ga K "Lane") "far" (He.ma K (He.ga K "Lane") "far") := by obtain ⟨h, X, G, c⟩ := T; exact He.meth_ok (fact c 62)
theorem m_Lane_leads (T : Tx K mg) : Meth K (He.ga K "Lane") "leads" (He.ma K (He.ga K "Lane") "leads") := by obtain ⟨h, X, G, c⟩ := T; exact He.meth_ok (fact c 63)
theorem m_Lane_contains (T : Tx K mg) : Meth K (He.ga K "Lane") "__contains__" (He.ma K (He.ga K "Lane") "__contains__") := by obtain ⟨h, X, G, c⟩ := T; exact He.meth_ok (fact c 64)
theorem m_Avenue_eq (T : Tx K mg) : Meth K (He.ga K "Avenue") "__eq__" (He.ma K (He.ga K "Avenue") "__eq__") := by obtain ⟨h, X, G, c⟩ := T; exact He.meth_ok (fact c 65)
theorem m_Avenue_str (T : Tx K mg) : Meth K (He.ga K "Avenue") "__str__" (He.ma K (He.ga K "Avenue") "__str__") := by obtain ⟨h, X, G, c⟩ := T; exact He.meth_ok (fact c 66)
theorem m_Avenue_far (T : Tx K mg) : Meth K (He.ga K "Avenue") "far" (He.ma K (He.ga K "Avenue") "far") := by obtain ⟨h, X, G, c⟩ := T; exact He.meth_ok (fact c 67)
theorem m_Avenue_leads (T : Tx K mg) : Meth K (He.ga K "Avenue") "leads" (He.ma K (He.ga K "Avenue") "leads") := by obtain ⟨h, X, G, c⟩ := T; exact He.meth_ok (fact c 68)
theorem m_Avenue_contains (T : Tx K mg) : Meth K (He.ga K "Avenue") "__contains__" (He.ma K (He.ga K "Avenue") "__contains__") := by obtain ⟨h, X, G, c⟩ := T; exact He.meth_ok (fact c 69)
theorem m_Road_eq (T : Tx K mg) : Meth K (He.ga K "Road") "__eq__" (He.ma K (He.ga K "Road") "__eq__") := by obtain ⟨h, X, G, c⟩ := T; exact He.meth_ok (fact c 70)
theorem m_Road_str (T : Tx K mg) : Meth K (He.ga K "Road") "__str__" (He.ma K (He.ga K "Road") "__str__") := by obtain ⟨h, X, G, c⟩ := T; exact He.meth_ok (fact c 71)
theorem m_Road_far (T : Tx K mg) : Meth K (He.ga K "Road") "far" (He.ma K (He.ga K "Road") "far") := by obtain ⟨h, X, G, c⟩ := T; exact He.meth_ok (fact c 72)
theorem m_Road_leads (T : Tx K mg) : Meth K (He.ga K "Road") "leads" (He.ma K (He.ga K "Road") "leads") := by obtain ⟨h, X, G, c⟩ := T; exact He.meth_ok (fact c 73)
theorem m_Road_contains (T : Tx K mg) : Meth K (He.ga K "Road") "__contains__" (He.ma K (He.ga K "Road") "__contains__") := by obtain ⟨h, X, G, c⟩ := T; exact He.meth_ok (fact c 74)
theorem m_Road_price (T : Tx K mg) : Meth K (He.ga K "Road") "price" (He.ma K (He.ga K "Road") "price") := by obtain ⟨h, X, G, c⟩ := T; exact He.meth_ok (fact c 75)
theorem m_Road_signed (T : Tx K mg) : Meth K (He.ga K "Road") "signed" (He.ma K (He.ga K "Road") "signed") := by obtain ⟨h, X, G, c⟩ := T; exact He.meth_ok (fact c 76)
theorem mk_Lane (T : Tx K mg) : Mk K (He.ga K "Lane") (He.ma K (He.ga K "Lane") "__init__") := by obtain ⟨h, X, G, c⟩ := T; exact He.mkr_ok (fact c 77)
theorem mk_Avenue (T : Tx K mg) : Mk K (He.ga K "Avenue") (He.ma K (He.ga K "Avenue") "__init__") := by obtain ⟨h, X, G, c⟩ := T; exact He.mkr_ok (fact c 78)
theorem mk_Road (T : Tx K mg) : Mk K (He.ga K "Road") (He.ma K (He.ga K "Road") "__init__") := by obtain ⟨h, X, G, c⟩ := T; exact He.mkr_ok (fact c 79)
theorem pr_Lane_ends (T : Tx K mg) : PropOf K (He.ga K "Lane") "ends" (He.ma K (He.ga K "Lane") "ends") (getA K (He.ga K "Lane") "ends") := by obtain ⟨h, X, G, c⟩ := T; exact propB_ok (fact c 80)
theorem pr_Avenue_ends (T : Tx K mg) : PropOf K (He.ga K "Avenue") "ends" (He.ma K (He.ga K "Avenue") "ends") (getA K (He.ga K "Avenue") "ends") := by obtain ⟨h, X, G, c⟩ := T; exact propB_ok (fact c 81)
theorem pr_Road_ends (T : Tx K mg) : PropOf K (He.ga K "Road") "ends" (He.ma K (He.ga K "Road") "ends") (getA K (He.ga K "Road") "ends") := by obtain ⟨h, X, G, c⟩ := T; exact propB_ok (fact c 82)
theorem ci_Lane (T : Tx K mg) : ClsI K (He.ga K "Lane") := by obtain ⟨h, X, G, c⟩ := T; exact clsB_ok (fact c 83)
theorem ci_Avenue (T : Tx K mg) : ClsI K (He.ga K "Avenue") := by obtain ⟨h, X, G, c⟩ := T; exact clsB_ok (fact c 84)
theorem ci_Road (T : Tx K mg) : ClsI K (He.ga K "Road") := by obtain ⟨h, X, G, c⟩ := T; exact clsB_ok (fact c 85)
theorem k_Lane_Lane (T : Tx K mg) : PySem.W.kitOne K (.ref (He.ga K "Lane")) (.ref (He.ga K "Lane")) = some true := by obtain ⟨h, X, G, c⟩ := T; exact of_decide_eq_true (fact c 86)
theorem k_Lane_Avenue (T : Tx K mg) : PySem.W.kitOne K (.ref (He.ga K "Lane")) (.ref (He.ga K "Avenue")) = some false := by obtain ⟨h, X, G, c⟩ := T; exact of_decide_eq_true (fact c 87)
theorem k_Lane_Road (T : Tx K mg) : PySem.W.kitOne K (.ref (He.ga K "Lane")) (.ref (He.ga K "Road")) = some false := by obtain ⟨h, X, G, c⟩ := T; exact of_decide_eq_true (fact c 88)
theorem k_Lane_Street (T : Tx K mg) : PySem.W.kitOne K (.ref (He.ga K "Lane")) (.ref (He.ga K "Street")) = some true := by obtain ⟨h, X, G, c⟩ := T; exact of_decide_eq_true (fact c 89)
theorem k_Lane_Settled (T : Tx K mg) : PySem.W.kitOne K (.ref (He.ga K "Lane")) (.ref (He.ga K "Settled")) = some true := by obtain ⟨h, X, G, c⟩ := T; exact of_decide_eq_true (fact c 90)
theorem k_Lane_Even (T : Tx K mg) : PySem.W.kitOne K (.ref (He.ga K "Lane")) (.ref (He.ga K "Even")) = some false := by obtain ⟨h, X, G, c⟩ := T; exact of_decide_eq_true (fact c 91)
theorem k_Avenue_Lane (T : Tx K mg) : PySem.W.kitOne K (.ref (He.ga K "Avenue")) (.ref (He.ga K "Lane")) = some false := by obtain ⟨h, X, G, c⟩ := T; exact of_decide_eq_true (fact c 92)
theorem k_Avenue_Avenue (T : Tx K mg) : PySem.W.kitOne K (.ref (He.ga K "Avenue")) (.ref (He.ga K "Avenue")) = some true := by obtain ⟨h, X, G, c⟩ := T; exact of_decide_eq_true (fact c 93)
theorem k_Avenue_Road (T : Tx K mg) : PySem.W.kitOne K (.ref (He.ga K "Avenue")) (.ref (He.ga K "Road")) = some false := by obtain ⟨h, X, G, c⟩ := T; exact of_decide_eq_true (fact c 94)
theorem k_Avenue_Street (T : Tx K mg) : PySem.W.kitOne K (.ref (He.ga K "Avenue")) (.ref (He.ga K "Street")) = some true := by obtain ⟨h, X, G, c⟩ := T; exact of_decide_eq_true (fact c 95)
theorem k_Avenue_Settled (T : Tx K mg) : PySem.W.kitOne K (.ref (He.ga K "Avenue")) (.ref (He.ga K "Settled")) = some true := by obtain ⟨h, X, G, c⟩ := T; exact of_decide_eq_true (fact c 96)
theorem k_Avenue_Even (T : Tx K mg) : PySem.W.kitOne K (.ref (He.ga K "Avenue")) (.ref (He.ga K "Even")) = some true := by obtain ⟨h, X, G, c⟩ := T; exact of_decide_eq_true (fact c 97)
theorem k_Road_Lane (T : Tx K mg) : PySem.W.kitOne K (.ref (He.ga K "Road")) (.ref (He.ga K "Lane")) = some false := by obtain ⟨h, X, G, c⟩ := T; exact of_decide_eq_true (fact c 98)
theorem k_Road_Avenue (T : Tx K mg) : PySem.W.kitOne K (.ref (He.ga K "Road")) (.ref (He.ga K "Avenue")) = some false := by obtain ⟨h, X, G, c⟩ := T; exact of_decide_eq_true (fact c 99)
theorem k_Road_Road (T : Tx K mg) : PySem.W.kitOne K (.ref (He.ga K "Road")) (.ref (He.ga K "Road")) = some true := by obtain ⟨h, X, G, c⟩ := T; exact of_decide_eq_true (fact c 100)
theorem k_Road_Street (T : Tx K mg) : PySem.W.kitOne K (.ref (He.ga K "Road")) (.ref (He.ga K "Street")) = some true := by obtain ⟨h, X, G, c⟩ := T; exact of_decide_eq_true (fact c 101)
theorem k_Road_Settled (T : Tx K mg) : PySem.W.kitOne K (.ref (He.ga K "Road")) (.ref (He.ga K "Settled")) = some false := by obtain ⟨h, X, G, c⟩ := T; exact of_decide_eq_true (fact c 102)
theorem k_Road_Even (T : Tx K mg) : PySem.W.kitOne K (.ref (He.ga K "Road")) (.ref (He.ga K "Even")) = some true := by obtain ⟨h, X, G, c⟩ := T; exact of_decide_eq_true (fact c 103)
theorem k_NoneType_Lane (T : Tx K mg) : PySem.W.kitOne K (.type "NoneType") (.ref (He.ga K "Lane")) = some false := by obtain ⟨h, X, G, c⟩ := T; exact of_decide_eq_true (fact c 104)
theorem k_NoneType_Avenue (T : Tx K mg) : PySem.W.kitOne K (.type "NoneType") (.ref (He.ga K "Avenue")) = some false := by obtain ⟨h, X, G, c⟩ := T; exact of_decide_eq_true (fact c 105)
theorem k_NoneType_Road (T : Tx K mg) : PySem.W.kitOne K (.type "NoneType") (.ref (He.ga K "Road")) = some false := by obtain ⟨h, X, G, c⟩ := T; exact of_decide_eq_true (fact c 106)
theorem k_bool_Lane (T : Tx K mg) : PySem.W.kitOne K (.type "bool") (.ref (He.ga K "Lane")) = some false := by obtain ⟨h, X, G, c⟩ := T; exact of_decide_eq_true (fact c 107)
theorem k_bool_Avenue (T : Tx K mg) : PySem.W.kitOne K (.type "bool") (.ref (He.ga K "Avenue")) = some false := by obtain ⟨h, X, G, c⟩ := T; exact of_decide_eq_true (fact c 108)
theorem k_bool_Road (T : Tx K mg) : PySem.W.kitOne K (.type "bool") (.ref (He.ga K "Road")) = some false := by obtain ⟨h, X, G, c⟩ := T; exact of_decide_eq_true (fact c 109)
theorem k_int_Lane (T : Tx K mg) : PySem.W.kitOne K (.type "int") (.ref (He.ga K "Lane")) = some false := by obtain ⟨h, X, G, c⟩ := T; exact of_decide_eq_true (fact c 110)
theorem k_int_Avenue (T : Tx K mg) : PySem.W.kitOne K (.type "int") (.ref (He.ga K "Avenue")) = some false := by obtain ⟨h, X, G, c⟩ := T; exact of_decide_eq_true (fact c 111)
theorem k_int_Road (T : Tx K mg) : PySem.W.kitOne K (.type "int") (.ref (He.ga K "Road")) = some false := by obtain ⟨h, X, G, c⟩ := T; exact of_decide_eq_true (fact c 112)
theorem k_str_Lane (T : Tx K mg) : PySem.W.kitOne K (.type "str") (.ref (He.ga K "Lane")) = some false := by obtain ⟨h, X, G, c⟩ := T; exact of_decide_eq_true (fact c 113)
theorem k_str_Avenue (T : Tx K mg) : PySem.W.kitOne K (.type "str") (.ref (He.ga K "Avenue")) = some false := by obtain ⟨h, X, G, c⟩ := T; exact of_decide_eq_true (fact c 114)
theorem k_str_Road (T : Tx K mg) : PySem.W.kitOne K (.type "str") (.ref (He.ga K "Road")) = some false := by obtain ⟨h, X, G, c⟩ := T; exact of_decide_eq_true (fact c 115)
theorem k_list_Lane (T : Tx K mg) : PySem.W.kitOne K (.type "list") (.ref (He.ga K "Lane")) = some false := by obtain ⟨h, X, G, c⟩ := T; exact of_decide_eq_true (fact c 116)
theorem k_list_Avenue (T : Tx K mg) : PySem.W.kitOne K (.type "list") (.ref (He.ga K "Avenue")) = some false := by obtain ⟨h, X, G, c⟩ := T; exact of_decide_eq_true (fact c 117)
theorem k_list_Road (T : Tx K mg) : PySem.W.kitOne K (.type "list") (.ref (He.ga K "Road")) = some false := by obtain ⟨h, X, G, c⟩ := T; exact of_decide_eq_true (fact c 118)
theorem k_tuple_Lane (T : Tx K mg) : PySem.W.kitOne K (.type "tuple") (.ref (He.ga K "Lane")) = some false := by obtain ⟨h, X, G, c⟩ := T; exact of_decide_eq_true (fact c 119)
theorem k_tuple_Avenue (T : Tx K mg) : PySem.W.kitOne K (.type "tuple") (.ref (He.ga K "Avenue")) = some false := by obtain ⟨h, X, G, c⟩ := T; exact of_decide_eq_true (fact c 120)
theorem k_tuple_Road (T : Tx K mg) : PySem.W.kitOne K (.type "tuple") (.ref (He.ga K "Road")) = some false := by obtain ⟨h, X, G, c⟩ := T; exact of_decide_eq_true (fact c 121)
theorem k_dict_Lane (T : Tx K mg) : PySem.W.kitOne K (.type "dict") (.ref (He.ga K "Lane")) = some false := by obtain ⟨h, X, G, c⟩ := T; exact of_decide_eq_true (fact c 122)
theorem k_dict_Avenue (T : Tx K mg) : PySem.W.kitOne K (.type "dict") (.ref (He.ga K "Avenue")) = some false := by obtain ⟨h, X, G, c⟩ := T; exact of_decide_eq_true (fact c 123)
theorem k_dict_Road (T : Tx K mg) : PySem.W.kitOne K (.type "dict") (.ref (He.ga K "Road")) = some false := by obtain ⟨h, X, G, c⟩ := T; exact of_decide_eq_true (fact c 124)
theorem nf_Lane_Lane (T : Tx K mg) : PySem.W.notFirst K (He.ga K "Lane") (.ref (He.ga K "Lane")) = true := by obtain ⟨h, X, G, c⟩ := T; exact fact c 125
theorem nf_Lane_Avenue (T : Tx K mg) : PySem.W.notFirst K (He.ga K "Lane") (.ref (He.ga K "Avenue")) = true := by obtain ⟨h, X, G, c⟩ := T; exact fact c 126
theorem nf_Lane_Road (T : Tx K mg) : PySem.W.notFirst K (He.ga K "Lane") (.ref (He.ga K "Road")) = true := by obtain ⟨h, X, G, c⟩ := T; exact fact c 127
theorem nf_Avenue_Lane (T : Tx K mg) : PySem.W.notFirst K (He.ga K "Avenue") (.ref (He.ga K "Lane")) = true := by obtain ⟨h, X, G, c⟩ := T; exact fact c 128
theorem nf_Avenue_Avenue (T : Tx K mg) : PySem.W.notFirst K (He.ga K "Avenue") (.ref (He.ga K "Avenue")) = true := by obtain ⟨h, X, G, c⟩ := T; exact fact c 129
theorem nf_Avenue_Road (T : Tx K mg) : PySem.W.notFirst K (He.ga K "Avenue") (.ref (He.ga K "Road")) = true := by obtain ⟨h, X, G, c⟩ := T; exact fact c 130
theorem nf_Road_Lane (T : Tx K mg) : PySem.W.notFirst K (He.ga K "Road") (.ref (He.ga K "Lane")) = true := by obtain ⟨h, X, G, c⟩ := T; exact fact c 131
theorem nf_Road_Avenue (T : Tx K mg) : PySem.W.notFirst K (He.ga K "Road") (.ref (He.ga K "Avenue")) = true := by obtain ⟨h, X, G, c⟩ := T; exact fact c 132
theorem nf_Road_Road (T : Tx K mg) : PySem.W.notFirst K (He.ga K "Road") (.ref (He.ga K "Road")) = true := by obtain ⟨h, X, G, c⟩ := T; exact fact c 133
theorem nf_Lane_NoneType (T : Tx K mg) : PySem.W.notFirst K (He.ga K "Lane") (.type "NoneType") = true := by obtain ⟨h, X, G, c⟩ := T; exact fact c 134
theorem nf_Lane_bool (T : Tx K mg) : PySem.W.notFirst K (He.ga K "Lane") (.type "bool") = true := by obtain ⟨h, X, G, c⟩ := T; exact fact c 135
theorem nf_Lane_int (T : Tx K mg) : PySem.W.notFirst K (He.ga K "Lane") (.type "int") = true := by obtain ⟨h, X, G, c⟩ := T; exact fact c 136
theorem nf_Lane_str (T : Tx K mg) : PySem.W.notFirst K (He.ga K "Lane") (.type "str") = true := by obtain ⟨h, X, G, c⟩ := T; exact fact c 137
theorem nf_Lane_list (T : Tx K mg) : PySem.W.notFirst K (He.ga K "Lane") (.type "list") = true := by obtain ⟨h, X, G, c⟩ := T; exact fact c 138
theorem nf_Lane_tuple (T : Tx K mg) : PySem.W.notFirst K (He.ga K "Lane") (.type "tuple") = true := by obtain ⟨h, X, G, c⟩ := T; exact fact c 139
theorem nf_Lane_dict (T : Tx K mg) : PySem.W.notFirst K (He.ga K "Lane") (.type "dict") = true := by obtain ⟨h, X, G, c⟩ := T; exact fact c 140
theorem nf_Avenue_NoneType (T : Tx K mg) : PySem.W.notFirst K (He.ga K "Avenue") (.type "NoneType") = true := by obtain ⟨h, X, G, c⟩ := T; exact fact c 141
theorem nf_Avenue_bool (T : Tx K mg) : PySem.W.notFirst K (He.ga K "Avenue") (.type "bool") = true := by obtain ⟨h, X, G, c⟩ := T; exact fact c 142
theorem nf_Avenue_int (T : Tx K mg) : PySem.W.notFirst K (He.ga K "Avenue") (.type "int") = true := by obtain ⟨h, X, G, c⟩ := T; exact fact c 143
theorem nf_Avenue_str (T : Tx K mg) : PySem.W.notFirst K (He.ga K "Avenue") (.type "str") = true := by obtain ⟨h, X, G, c⟩ := T; exact fact c 144
theorem nf_Avenue_list (T : Tx K mg) : PySem.W.notFirst K (He.ga K "Avenue") (.type "list") = true := by obtain ⟨h, X, G, c⟩ := T; exact fact c 145
theorem nf_Avenue_tuple (T : Tx K mg) : PySem.W.notFirst K (He.ga K "Avenue") (.type "tuple") = true := by obtain ⟨h, X, G, c⟩ := T; exact fact c 146
theorem nf_Avenue_dict (T : Tx K mg) : PySem.W.notFirst K (He.ga K "Avenue") (.type "dict") = true := by obtain ⟨h, X, G, c⟩ := T; exact fact c 147
theorem nf_Road_NoneType (T : Tx K mg) : PySem.W.notFirst K (He.ga K "Road") (.type "NoneType") = true := by obtain ⟨h, X, G, c⟩ := T; exact fact c 148
theorem nf_Road_bool (T : Tx K mg) : PySem.W.notFirst K (He.ga K "Road") (.type "bool") = true := by obtain ⟨h, X, G, c⟩ := T; exact fact c 149
theorem nf_Road_int (T : Tx K mg) : PySem.W.notFirst K (He.ga K "Road") (.type "int") = true := by obtain ⟨h, X, G, c⟩ := T; exact fact c 150
theorem nf_Road_str (T : Tx K mg) : PySem.W.notFirst K (He.ga K "Road") (.type "str") = true := by obtain ⟨h, X, G, c⟩ := T; exact fact c 151
theorem nf_Road_list (T : Tx K mg) : PySem.W.notFirst K (He.ga K "Road") (.type "list") = true := by obtain ⟨h, X, G, c⟩ := T; exact fact c 152
theorem nf_Road_tuple (T : Tx K mg) : PySem.W.notFirst K (He.ga K "Road") (.type "tuple") = true := by obtain ⟨h, X, G, c⟩ := T; exact fact c 153
theorem nf_Road_dict (T : Tx K mg) : PySem.W.notFirst K (He.ga K "Road") (.type "dict") = true := by obtain ⟨h, X, G, c⟩ := T; exact fact c 154
abbrev d_is_name : Hx.Dx := ⟨fun K => He.ga K "is_name", "is_name", "is_name", s_is_name, [], []⟩
theorem f_is_name (T : Tx K mg) : ∃ fd, Fd K d_is_name fd := by obtain ⟨h, X, G, c⟩ := T; exact defn c 0
abbrev d_is_integer : Hx.Dx := ⟨fun K => He.ga K "is_integer", "is_integer", "is_integer", s_is_integer, [], []⟩
theorem f_is_integer (T : Tx K mg) : ∃ fd, Fd K d_is_integer fd := by obtain ⟨h, X, G, c⟩ := T; exact defn c 1
abbrev d_is_price : Hx.Dx := ⟨fun K => He.ga K "is_price", "is_price", "is_price", s_is_price, [], []⟩
theorem f_is_price (T : Tx K mg) : ∃ fd, Fd K d_is_price fd := by obtain ⟨h, X, G, c⟩ := T; exact defn c 2
abbrev d_check_street : Hx.Dx := ⟨fun K => He.ga K "check_street", "check_street", "check_street", s_check_street, [], []⟩
theorem f_check_street (T : Tx K mg) : ∃ fd, Fd K d_check_street fd := by obtain ⟨h, X, G, c⟩ := T; exact defn c 3
abbrev d_check_prices : Hx.Dx := ⟨fun K => He.ga K "check_prices", "check_prices", "check_prices", s_check_prices, [], []⟩
theorem f_check_prices (T : Tx K mg) : ∃ fd, Fd K d_check_prices fd := by obtain ⟨h, X, G, c⟩ := T; exact defn c 4
abbrev d_check_end : Hx.Dx := ⟨fun K => He.ga K "check_end", "check_end", "check_end", s_check_end, [], []⟩
theorem f_check_end (T : Tx K mg) : ∃ fd, Fd K d_check_end fd := by obtain ⟨h, X, G, c⟩ := T; exact defn c 5
abbrev d_far_end : Hx.Dx := ⟨fun K => He.ga K "far_end", "far_end", "far_end", s_far_end, [], []⟩
theorem f_far_end (T : Tx K mg) : ∃ fd, Fd K d_far_end fd := by obtain ⟨h, X, G, c⟩ := T; exact defn c 6
abbrev d__law_pen : Hx.Dx := ⟨fun K => He.ga K "_law_pen", "_law_pen", "_law_pen", s__law_pen, [], []⟩
theorem f__law_pen (T : Tx K mg) : ∃ fd, Fd K d__law_pen fd := by obtain ⟨h, X, G, c⟩ := T; exact defn c 7
abbrev d__law_draw : Hx.Dx := ⟨fun K => He.ga K "_law_draw", "_law_draw", "_law_draw", s__law_draw, [], []⟩
theorem f__law_draw (T : Tx K mg) : ∃ fd, Fd K d__law_draw fd := by obtain ⟨h, X, G, c⟩ := T; exact defn c 8
abbrev d__law_pick : Hx.Dx := ⟨fun K => He.ga K "_law_pick", "_law_pick", "_law_pick", s__law_pick, [], []⟩
theorem f__law_pick (T : Tx K mg) : ∃ fd, Fd K d__law_pick fd := by obtain ⟨h, X, G, c⟩ := T; exact defn c 9
abbrev d__law_word : Hx.Dx := ⟨fun K => He.ga K "_law_word", "_law_word", "_law_word", s__law_word, [], []⟩
theorem f__law_word (T : Tx K mg) : ∃ fd, Fd K d__law_word fd := by obtain ⟨h, X, G, c⟩ := T; exact defn c 10
abbrev d__law_two : Hx.Dx := ⟨fun K => He.ga K "_law_two", "_law_two", "_law_two", s__law_two, [], []⟩
theorem f__law_two (T : Tx K mg) : ∃ fd, Fd K d__law_two fd := by obtain ⟨h, X, G, c⟩ := T; exact defn c 11
abbrev d__law_price : Hx.Dx := ⟨fun K => He.ga K "_law_price", "_law_price", "_law_price", s__law_price, [], []⟩
theorem f__law_price (T : Tx K mg) : ∃ fd, Fd K d__law_price fd := by obtain ⟨h, X, G, c⟩ := T; exact defn c 12
abbrev d__law_heard : Hx.Dx := ⟨fun K => He.ga K "_law_heard", "_law_heard", "_law_heard", s__law_heard, [], []⟩
theorem f__law_heard (T : Tx K mg) : ∃ fd, Fd K d__law_heard fd := by obtain ⟨h, X, G, c⟩ := T; exact defn c 13
abbrev d__law_kinds : Hx.Dx := ⟨fun K => He.ga K "_law_kinds", "_law_kinds", "_law_kinds", s__law_kinds, [], []⟩
theorem f__law_kinds (T : Tx K mg) : ∃ fd, Fd K d__law_kinds fd := by obtain ⟨h, X, G, c⟩ := T; exact defn c 14
abbrev d__law_ends_right : Hx.Dx := ⟨fun K => He.ga K "_law_ends_right", "_law_ends_right", "_law_ends_right", s__law_ends_right, [], []⟩
theorem f__law_ends_right (T : Tx K mg) : ∃ fd, Fd K d__law_ends_right fd := by obtain ⟨h, X, G, c⟩ := T; exact defn c 15
abbrev d__law_odd_right : Hx.Dx := ⟨fun K => He.ga K "_law_odd_right", "_law_odd_right", "_law_odd_right", s__law_odd_right, [], []⟩
theorem f__law_odd_right (T : Tx K mg) : ∃ fd, Fd K d__law_odd_right fd := by obtain ⟨h, X, G, c⟩ := T; exact defn c 16
abbrev d__law_avenue_right : Hx.Dx := ⟨fun K => He.ga K "_law_avenue_right", "_law_avenue_right", "_law_avenue_right", s__law_avenue_right, [], []⟩
theorem f__law_avenue_right (T : Tx K mg) : ∃ fd, Fd K d__law_avenue_right fd := by obtain ⟨h, X, G, c⟩ := T; exact defn c 17
abbrev d__law_road_right : Hx.Dx := ⟨fun K => He.ga K "_law_road_right", "_law_road_right", "_law_road_right", s__law_road_right, [], []⟩
theorem f__law_road_right (T : Tx K mg) : ∃ fd, Fd K d__law_road_right fd := by obtain ⟨h, X, G, c⟩ := T; exact defn c 18
abbrev d_law : Hx.Dx := ⟨fun K => He.ga K "law", "law", "law", s_law, [], []⟩
theorem f_law (T : Tx K mg) : ∃ fd, Fd K d_law fd := by obtain ⟨h, X, G, c⟩ := T; exact defn c 19
abbrev d_Lane_init : Hx.Dx := ⟨fun K => He.ma K (He.ga K "Lane") "__init__", "__init__", "Lane.__init__", s_Lane_init, [], []⟩
theorem f_Lane_init (T : Tx K mg) : ∃ fd, Fd K d_Lane_init fd := by obtain ⟨h, X, G, c⟩ := T; exact defn c 20
abbrev d_Lane_eq : Hx.Dx := ⟨fun K => He.ma K (He.ga K "Lane") "__eq__", "__eq__", "Lane.__eq__", s_Lane_eq, [], []⟩
theorem f_Lane_eq (T : Tx K mg) : ∃ fd, Fd K d_Lane_eq fd := by obtain ⟨h, X, G, c⟩ := T; exact defn c 21
abbrev d_Lane_str : Hx.Dx := ⟨fun K => He.ma K (He.ga K "Lane") "__str__", "__str__", "Lane.__str__", s_Lane_str, [], []⟩
theorem f_Lane_str (T : Tx K mg) : ∃ fd, Fd K d_Lane_str fd := by obtain ⟨h, X, G, c⟩ := T; exact defn c 22
abbrev d_Lane_far : Hx.Dx := ⟨fun K => He.ma K (He.ga K "Lane") "far", "far", "Lane.far", s_Lane_far, [], []⟩
theorem f_Lane_far (T : Tx K mg) : ∃ fd, Fd K d_Lane_far fd := by obtain ⟨h, X, G, c⟩ := T; exact defn c 23
abbrev d_Lane_leads : Hx.Dx := ⟨fun K => He.ma K (He.ga K "Lane") "leads", "leads", "Lane.leads", s_Lane_leads, [], []⟩
theorem f_Lane_leads (T : Tx K mg) : ∃ fd, Fd K d_Lane_leads fd := by obtain ⟨h, X, G, c⟩ := T; exact defn c 24
abbrev d_Lane_contains : Hx.Dx := ⟨fun K => He.ma K (He.ga K "Lane") "__contains__", "__contains__", "Lane.__contains__", s_Lane_contains, [], []⟩
theorem f_Lane_contains (T : Tx K mg) : ∃ fd, Fd K d_Lane_contains fd := by obtain ⟨h, X, G, c⟩ := T; exact defn c 25
abbrev d_Avenue_init : Hx.Dx := ⟨fun K => He.ma K (He.ga K "Avenue") "__init__", "__init__", "Avenue.__init__", s_Avenue_init, [], []⟩
theorem f_Avenue_init (T : Tx K mg) : ∃ fd, Fd K d_Avenue_init fd := by obtain ⟨h, X, G, c⟩ := T; exact defn c 26
abbrev d_Avenue_eq : Hx.Dx := ⟨fun K => He.ma K (He.ga K "Avenue") "__eq__", "__eq__", "Avenue.__eq__", s_Avenue_eq, [], []⟩
theorem f_Avenue_eq (T : Tx K mg) : ∃ fd, Fd K d_Avenue_eq fd := by obtain ⟨h, X, G, c⟩ := T; exact defn c 27
abbrev d_Avenue_str : Hx.Dx := ⟨fun K => He.ma K (He.ga K "Avenue") "__str__", "__str__", "Avenue.__str__", s_Avenue_str, [], []⟩
theorem f_Avenue_str (T : Tx K mg) : ∃ fd, Fd K d_Avenue_str fd := by obtain ⟨h, X, G, c⟩ := T; exact defn c 28
abbrev d_Avenue_far : Hx.Dx := ⟨fun K => He.ma K (He.ga K "Avenue") "far", "far", "Avenue.far", s_Avenue_far, [], []⟩
theorem f_Avenue_far (T : Tx K mg) : ∃ fd, Fd K d_Avenue_far fd := by obtain ⟨h, X, G, c⟩ := T; exact defn c 29
abbrev d_Avenue_leads : Hx.Dx := ⟨fun K => He.ma K (He.ga K "Avenue") "leads", "leads", "Avenue.leads", s_Avenue_leads, [], []⟩
theorem f_Avenue_leads (T : Tx K mg) : ∃ fd, Fd K d_Avenue_leads fd := by obtain ⟨h, X, G, c⟩ := T; exact defn c 30
abbrev d_Avenue_contains : Hx.Dx := ⟨fun K => He.ma K (He.ga K "Avenue") "__contains__", "__contains__", "Avenue.__contains__", s_Avenue_contains, [], []⟩
theorem f_Avenue_contains (T : Tx K mg) : ∃ fd, Fd K d_Avenue_contains fd := by obtain ⟨h, X, G, c⟩ := T; exact defn c 31
abbrev d_Road_init : Hx.Dx := ⟨fun K => He.ma K (He.ga K "Road") "__init__", "__init__", "Road.__init__", s_Road_init, [.int (0), .int (0)], []⟩
theorem f_Road_init (T : Tx K mg) : ∃ fd, Fd K d_Road_init fd := by obtain ⟨h, X, G, c⟩ := T; exact defn c 32
abbrev d_Road_eq : Hx.Dx := ⟨fun K => He.ma K (He.ga K "Road") "__eq__", "__eq__", "Road.__eq__", s_Road_eq, [], []⟩
theorem f_Road_eq (T : Tx K mg) : ∃ fd, Fd K d_Road_eq fd := by obtain ⟨h, X, G, c⟩ := T; exact defn c 33
abbrev d_Road_str : Hx.Dx := ⟨fun K => He.ma K (He.ga K "Road") "__str__", "__str__", "Road.__str__", s_Road_str, [], []⟩
theorem f_Road_str (T : Tx K mg) : ∃ fd, Fd K d_Road_str fd := by obtain ⟨h, X, G, c⟩ := T; exact defn c 34
abbrev d_Road_far : Hx.Dx := ⟨fun K => He.ma K (He.ga K "Road") "far", "far", "Road.far", s_Road_far, [], []⟩
theorem f_Road_far (T : Tx K mg) : ∃ fd, Fd K d_Road_far fd := by obtain ⟨h, X, G, c⟩ := T; exact defn c 35
abbrev d_Road_leads : Hx.Dx := ⟨fun K => He.ma K (He.ga K "Road") "leads", "leads", "Road.leads", s_Road_leads, [], []⟩
theorem f_Road_leads (T : Tx K mg) : ∃ fd, Fd K d_Road_leads fd := by obtain ⟨h, X, G, c⟩ := T; exact defn c 36
abbrev d_Road_contains : Hx.Dx := ⟨fun K => He.ma K (He.ga K "Road") "__contains__", "__contains__", "Road.__contains__", s_Road_contains, [], []⟩
theorem f_Road_contains (T : Tx K mg) : ∃ fd, Fd K d_Road_contains fd := by obtain ⟨h, X, G, c⟩ := T; exact defn c 37
abbrev d_Road_price : Hx.Dx := ⟨fun K => He.ma K (He.ga K "Road") "price", "price", "Road.price", s_Road_price, [], []⟩
theorem f_Road_price (T : Tx K mg) : ∃ fd, Fd K d_Road_price fd := by obtain ⟨h, X, G, c⟩ := T; exact defn c 38
abbrev d_Road_signed : Hx.Dx := ⟨fun K => He.ma K (He.ga K "Road") "signed", "signed", "Road.signed", s_Road_signed, [], []⟩
theorem f_Road_signed (T : Tx K mg) : ∃ fd, Fd K d_Road_signed fd := by obtain ⟨h, X, G, c⟩ := T; exact defn c 39
abbrev d_Lane_ends : Hx.Dx := ⟨fun K => getA K (He.ga K "Lane") "ends", "ends", "Lane.ends", s_Lane_ends, [], []⟩
theorem f_Lane_ends (T : Tx K mg) : ∃ fd, Fd K d_Lane_ends fd := by obtain ⟨h, X, G, c⟩ := T; exact defn c 40
abbrev d_Avenue_ends : Hx.Dx := ⟨fun K => getA K (He.ga K "Avenue") "ends", "ends", "Avenue.ends", s_Avenue_ends, [], []⟩
theorem f_Avenue_ends (T : Tx K mg) : ∃ fd, Fd K d_Avenue_ends fd := by obtain ⟨h, X, G, c⟩ := T; exact defn c 41
abbrev d_Road_ends : Hx.Dx := ⟨fun K => getA K (He.ga K "Road") "ends", "ends", "Road.ends", s_Road_ends, [], []⟩
theorem f_Road_ends (T : Tx K mg) : ∃ fd, Fd K d_Road_ends fd := by obtain ⟨h, X, G, c⟩ := T; exact defn c 42
abbrev d_NoCorner_init : Hx.Dx := ⟨fun K => He.ma K (He.ga K "NoCorner") "__init__", "__init__", "NoCorner.__init__", s_NoCorner_init, [], []⟩
theorem f_NoCorner_init (T : Tx K mg) : ∃ fd, Fd K d_NoCorner_init fd := by obtain ⟨h, X, G, c⟩ := T; exact defn c 43
theorem er_NoCorner (T : Tx K mg) : Er K (He.ga K "NoCorner") := by obtain ⟨h, X, G, c⟩ := T; exact erB_ok (fact c 155)
theorem xn_NoCorner_name (T : Tx K mg) : PySem.W.findIn K (.ref (He.ga K "NoCorner")) "name" = some none := by obtain ⟨h, X, G, c⟩ := T; exact He.eqO_ok (fact c 156)
theorem ex_NoCorner_TownError (T : Tx K mg) : PySem.W.exmOne K (.ref (He.ga K "NoCorner")) (.ref (He.ga K "TownError")) = some true := by obtain ⟨h, X, G, c⟩ := T; exact of_decide_eq_true (fact c 157)
theorem in_NoCorner (T : Tx K mg) : PySem.W.findIn K (.ref (He.ga K "NoCorner")) "__init__" = some (some (.ref (He.ma K (He.ga K "NoCorner") "__init__"))) ∧ PySem.W.typeIn K (.ref (He.ma K (He.ga K "NoCorner") "__init__")) = some (.type "function") := by obtain ⟨h, X, G, c⟩ := T; exact iniB_ok (fact c 158)
theorem k_NoCorner_NoCorner (T : Tx K mg) : PySem.W.kitOne K (.ref (He.ga K "NoCorner")) (.ref (He.ga K "NoCorner")) = some true := by obtain ⟨h, X, G, c⟩ := T; exact of_decide_eq_true (fact c 159)
theorem k_NoCorner_Refused (T : Tx K mg) : PySem.W.kitOne K (.ref (He.ga K "NoCorner")) (.ref (He.ga K "Refused")) = some true := by obtain ⟨h, X, G, c⟩ := T; exact of_decide_eq_true (fact c 160)
theorem sm_ok (T : Tx K mg) : ∃ (es : Array DictEntry) (n : Nat) (sl : Array (Option Value)), K.lookup sysModules = some { cls := .type "dict", dict := none, data := .dict es n, slots := sl } := by obtain ⟨h, X, G, c⟩ := T; exact He.dictB_ok (fact c 161)
end
end K05
namespace K05
open PySem PySem.Spec PyProof.Rows L2 Hx Gx
/-- a def's promise, with how it is called -/
def Prom (P : Program) (w : World) (K : PySem.W.Frag) (mg : Str → Option Value) (base : Heap) (k : Nat) (d : Dx) (ps : List Str) (sp : Sp) : Prop :=
  ∃ fd, Fd K d fd ∧ FnOk P w K mg base CX0 k (d.adr K) fd ps sp ∧ Binds K fd ps []
/-- all that was tracked is as it was, but for p -/
def But (p : Addr) (H H' : Hp) : Prop := ∀ b o, b ≠ p → H b = some o → H' b = some o
/-- a pen: its cells, the next one's place (at most n), the rest of a great one -/
def PenAt (H : Hp) (p : Addr) (n : Nat) : Prop :=
  ∃ (c : Addr) (ns : List Int) (a r : Int), H p = some (.lst [.ref c, .int a, .int r]) ∧ c ≠ p ∧ H c = some (.lst (ns.map V.int)) ∧ ns.length ≤ 63 ∧ 0 ≤ a ∧ a ≤ (n : Int) ∧ 0 ≤ r
theorem int_list {xs : List V} {ns : List Int} (h : xs = ns.map V.int) (n : Nat) : xs.take n = (ns.take n).map V.int := by rw [h, List.map_take]
theorem cut_ints (ns : List Int) (hl : ns.length ≤ 63) (lo hi : Option Int) : ∃ ms : List Int, cutV (ns.map V.int) lo hi = ms.map V.int ∧ ms.length ≤ 63 := by
  unfold cutV
  refine ⟨_, by rw [← List.map_drop, ← List.map_take], ?_⟩
  rw [List.length_take, List.length_drop]
  omega
theorem dp_ints (K : PySem.W.Frag) (H : Hp) : ∀ ns : List Int, DpAll K H (ns.map V.int) (ns.map PyData.int)
  | [] => .nil
  | n :: ns => .cons (.int n) (dp_ints K H ns)
theorem shaped_ints : ∀ ns : List Int, SeqAt.shaped (.list (ns.map PyData.int)) = true := by
  intro ns
  have h1 : ∀ ns : List Int, PyData.canLayAll0 (ns.map PyData.int) = true := fun ns => by
    induction ns with
    | nil => rfl
    | cons n ns ih =>
      rw [List.map_cons]
      unfold PyData.canLayAll0
      rw [ih]
      rfl
  have h2 : ∀ ns : List Int, PyData.depthAll (ns.map PyData.int) = 0 := fun ns => by
    induction ns with
    | nil => rfl
    | cons n ns ih =>
      rw [List.map_cons]
      unfold PyData.depthAll
      rw [ih]
      rfl
  unfold SeqAt.shaped
  have h3 : PyData.depth (.list (ns.map PyData.int)) = 1 := by
    show PyData.depthAll (ns.map PyData.int) + 1 = 1
    rw [h2]
  have h4 : PyData.canLay0 (.list (ns.map PyData.int)) = true := h1 ns
  rw [h3, h4]
  rfl
theorem eqv_ints : ∀ ns : List Int, PyData.eqv (.list (ns.map PyData.int)) (.list []) = decide (ns = []) := by
  intro ns
  cases ns with
  | nil => rfl
  | cons n ns => rfl
/-- an item of a list of ints -/
theorem at_int {ns : List Int} {j : Int} (h0 : 0 ≤ j) (h1 : j < (ns.map V.int).length) : ∃ x, atI (ns.map V.int) j = some (.int x) := by
  obtain ⟨i, rfl⟩ : ∃ i : Nat, j = i := ⟨j.toNat, by omega⟩
  have hi : i < ns.length := by
    rw [List.length_map] at h1
    omega
  exact ⟨ns[i], atI_nat (by rw [List.getElem?_map, List.getElem?_eq_getElem hi]; rfl)⟩
theorem great_nn {cell : Int} (h : 10 ^ Int.toNat 18 ≤ if cell < 0 then -cell else cell) : 0 ≤ 2 * ((if cell < 0 then -cell else cell) - 10 ^ Int.toNat 18) + (if decide (cell < 0) = true then 1 else 0 : Int) := by
  have h2 : (0 : Int) ≤ (if decide (cell < 0) = true then 1 else 0 : Int) := by split <;> decide
  omega
theorem mix_ok {z a c1 c2 c3 : Int} (h1 : 0 ≤ z) (h2 : z < 2147483629) (h3 : 0 ≤ a) (h4 : a ≤ 100000) (h5 : 0 ≤ c1) (h6 : c1 ≤ 100000) (h7 : 0 ≤ c2) (h8 : c2 ≤ 100000) (h9 : 0 ≤ c3) (h10 : c3 ≤ 100000) :
    (z * (2 * a + c1) + c2 * a * a + c3).natAbs < 2 ^ 64 := by
  have q1 : z * (2 * a + c1) ≤ 2147483629 * 300000 := Int.mul_le_mul (by omega) (by omega) (by omega) (by decide)
  have q0 : 0 ≤ z * (2 * a + c1) := Int.mul_nonneg h1 (by omega)
  have p1 : c2 * a ≤ 100000 * 100000 := Int.mul_le_mul h8 h4 h3 (by decide)
  have p0 : 0 ≤ c2 * a := Int.mul_nonneg h7 h3
  have r1 : c2 * a * a ≤ (100000 * 100000) * 100000 := Int.mul_le_mul p1 h4 h3 (by decide)
  have r0 : 0 ≤ c2 * a * a := Int.mul_nonneg p0 h3
  omega
theorem lt200 {m : Int} (h0 : 0 < m) (h : m < 10 ^ 60) : m.natAbs < 2 ^ 200 := by
  have e : (10 : Int) ^ 60 < 2 ^ 200 := by decide
  omega
section
variable {P : Program} {w : World} {K : PySem.W.Frag} {mg : Str → Option Value} {base : Heap}
def spPen (K : PySem.W.Frag) : Sp := fun vs H Q _ => ∃ (a : Addr) (ns : List Int), vs = [.ref a] ∧ SqL K H a (ns.map V.int) ∧ ns.length ≤ 63 ∧ ∀ (H' : Hp) (p : Addr), Same H H' → H p = none → PenAt H' p 0 → Q (.ref p) H'
theorem sc_pen : FnScope ["_law_script"] ["_law_script"] (defScope s__law_pen) := ⟨rfl, rfl, rfl, by decide +kernel, rfl, by decide +kernel, by decide +kernel⟩
theorem p_pen (T : Tx K mg) : Prom P w K mg base 1 d__law_pen ["_law_script"] (spPen K) := by
  obtain ⟨fd, F⟩ := f__law_pen T
  refine ⟨fd, F, F.ok sc_pen (fun vs H Q E h => ?_) (fun cdv A outer s H vs Q E hr h => ?_), F.bindsN fun _ _ _ _ _ _ us hl => match us, hl with | [_], _ => rfl⟩
  · obtain ⟨a, ns, rfl, _⟩ := h
    rfl
  · obtain ⟨a, ns, rfl, hs, hl, k⟩ := h
    refine ⟨_, pss_one (ps_ret (pe_lst (pa_cons (pe_callTy call_list_of (by rfl) (n_list T) (by decide +kernel) (pa_cons (pe_slice sl_list (pv 0) po_none (po_some pe_int)) pa_nil)) (pa_cons pe_int (pa_cons pe_int pa_nil))))), ?_⟩
    refine ⟨_, rfl, ?_⟩
    refine ⟨63, rfl, a, _, rfl, hs, fun c hc => ⟨c, _, rfl, .inl (SqL.of upd_same), fun l hl2 => ⟨(by show 3 ≤ sizeLine; decide), fun p hp => ?_⟩⟩⟩
    have hcl : c ≠ l := ne_of_none upd_same hl2
    have hcp : c ≠ p := ne_of_none (by rw [upd_ne hcl]; exact upd_same) hp
    have hlp : l ≠ p := ne_of_none upd_same hp
    have h1 : H p = none := by
      rw [upd_ne hlp.symm, upd_ne hcp.symm] at hp
      exact hp
    obtain ⟨ms, em, hm⟩ := cut_ints ns hl none (some 63)
    refine k _ p (fun b o e => ?_) h1 ⟨l, ms, 0, 0, upd_same, hlp, by rw [upd_ne hlp, upd_same, ← em], hm, Int.le_refl 0, Int.le_refl 0, Int.le_refl 0⟩
    have b1 := ne_of_none e hc
    have b2 : b ≠ l := ne_of_none (by rw [upd_ne b1]; exact e) hl2
    have b3 : b ≠ p := ne_of_none e h1
    rw [upd_ne b3, upd_ne b2, upd_ne b1]
    exact e
theorem hu64 {k : Nat} {A : Around} (hr : Room k A) : A.units + 64 < cLine := by have := hr.un; omega
/-- what a draw promises: a number below many; the pen has gone on by one -/
def spDraw : Sp := fun vs H Q _ => ∃ (p : Addr) (n : Nat) (m : Int), vs = [.ref p, .int m] ∧ PenAt H p n ∧ n ≤ 100000 ∧ 0 < m ∧ m < 10 ^ 60 ∧
  ∀ (H' : Hp) (d : Int), But p H H' → PenAt H' p (n + 1) → 0 ≤ d → d < m → Q (.int d) H'
theorem sc_draw : FnScope ["_law_pen_here", "_law_many", "_law_digit", "_law_at", "_law_cell", "_law_great", "_law_mixed"] ["_law_pen_here", "_law_many"] (defScope s__law_draw) := ⟨rfl, rfl, rfl, by decide +kernel, rfl, by decide +kernel, by decide +kernel⟩
theorem p_draw (T : Tx K mg) : Prom P w K mg base 1 d__law_draw ["_law_pen_here", "_law_many"] spDraw := by
  obtain ⟨fd, F⟩ := f__law_draw T
  refine ⟨fd, F, F.ok sc_draw (fun vs H Q E h => ?_) (fun cdv A outer s H vs Q E hr h => ?_), F.bindsN fun _ _ _ _ _ _ us hl => match us, hl with | [_, _], _ => rfl⟩
  · obtain ⟨p, n, m, rfl, _⟩ := h
    rfl
  · obtain ⟨p, n, m, rfl, ⟨c, ns, a, r, hp, hcp, hc, hns, ha0, han, hr0⟩, hn, hm, hm2, k⟩ := h
    refine ⟨_, (pss_cons (ps_if (pt_cmpR op_gt (pe_ix ix_list (pv 0) pe_int (fun _ _ => rfl)) pe_int (nomark _)) (pss_cons (ps_set (i := 2) sc_draw.nd rfl (Or.inl rfl) (pe_op op_mod (pe_callTy call_int1 (by rfl) (n_int T) (by decide +kernel) (pa_cons (pe_ix ix_list (pv 0) pe_int (fun _ _ => rfl)) pa_nil)) (pv 1)))
      (pss_cons (ps_asg (pe_op op_fdivW (pe_callTy call_int1 (by rfl) (n_int T) (by decide +kernel) (pa_cons (pe_ix ix_list (pv 0) pe_int (fun _ _ => rfl)) pa_nil)) (pv 1)) (pg_sub (pv 0) pe_int set_list))
      (pss_one (ps_ret (pv 2))))) pss_nil)
      (pss_cons (ps_set (i := 3) sc_draw.nd rfl (Or.inl rfl) (pe_ix ix_list (pv 0) pe_int (fun _ _ => rfl)))
      (pss_cons (ps_asg (pe_op op_add (pv 3) pe_int) (pg_sub (pv 0) pe_int set_list))
      (pss_cons (ps_set (i := 4) sc_draw.nd rfl (Or.inl rfl) (pe_op op_add (pe_op op_mul pe_int (pv 3)) pe_int))
      (pss_cons (ps_if (pt_cmpR (op_neD (hu64 hr)) (pe_ix ix_list (pv 0) pe_int (fun _ _ => rfl)) (pe_lst pa_nil) (nomark _)) (pss_one (ps_set (i := 4) sc_draw.nd rfl (Or.inl rfl) (pe_ix ix_list (pe_ix ix_list (pv 0) pe_int (fun _ _ => rfl)) (pe_op op_mod (pe_callTy call_int1 (by rfl) (n_int T) (by decide +kernel) (pa_cons (pv 3) pa_nil)) (pe_callB call_len_seq (by rfl) (n_len T) (by decide +kernel) (pa_cons (pe_ix ix_list (pv 0) pe_int (fun _ _ => rfl)) pa_nil))) (fun _ _ => rfl)))) pss_nil)
      (pss_cons (ps_if (PW.pt (pw_and (pt_cmpR op_lt (pv 3) (pe_callB call_len_seq (by rfl) (n_len T) (by decide +kernel) (pa_cons (pe_ix ix_list (pv 0) pe_int (fun _ _ => rfl)) pa_nil)) (nomark _)) (pw_and1 (pt_cmpR op_ge (pe_callB call_abs (by rfl) (n_abs T) (by decide +kernel) (pa_cons (pv 4) pa_nil)) (pe_op op_pow pe_int pe_int) (nomark _))))) (pss_cons (ps_set (i := 5) sc_draw.nd rfl (Or.inl rfl) (pe_op op_add (pe_op op_mul pe_int (pe_op op_sub (pe_callB call_abs (by rfl) (n_abs T) (by decide +kernel) (pa_cons (pv 4) pa_nil)) (pe_op op_pow pe_int pe_int))) (pe_callTy call_int1 (by rfl) (n_int T) (by decide +kernel) (pa_cons (pe_cmpR op_lt (pv 4) pe_int (nomark _)) pa_nil))))
      (pss_cons (ps_asg (pe_op op_fdivW (pe_callTy call_int1 (by rfl) (n_int T) (by decide +kernel) (pa_cons (pv 5) pa_nil)) (pv 1)) (pg_sub (pv 0) pe_int set_list))
      (pss_one (ps_ret (pe_op op_mod (pe_callTy call_int1 (by rfl) (n_int T) (by decide +kernel) (pa_cons (pv 5) pa_nil)) (pv 1)))))) pss_nil)
      (pss_cons (ps_set (i := 6) sc_draw.nd rfl (Or.inl rfl) (pe_op op_mod (pe_callTy call_int1 (by rfl) (n_int T) (by decide +kernel) (pa_cons (pe_op op_pow (pe_op op_add (pe_op op_add (pe_op op_mod (pe_callTy call_int1 (by rfl) (n_int T) (by decide +kernel) (pa_cons (pv 4) pa_nil)) pe_int) (pe_op op_mul pe_int (pv 3))) pe_int) pe_int) pa_nil)) pe_int))
      (pss_cons (ps_set (i := 6) sc_draw.nd rfl (Or.inl rfl) (pe_op op_mod (pe_callTy call_int1 (by rfl) (n_int T) (by decide +kernel) (pa_cons (pe_op op_pow (pe_op op_add (pe_op op_add (pe_op op_mul (pv 6) (pe_op op_add (pe_op op_mul pe_int (pv 3)) pe_int)) (pe_op op_mul (pe_op op_mul pe_int (pv 3)) (pv 3))) pe_int) pe_int) pa_nil)) pe_int))
      (pss_one (ps_ret (pe_op op_mod (pe_callTy call_int1 (by rfl) (n_int T) (by decide +kernel) (pa_cons (pe_op op_fdivW (pv 6) pe_int) pa_nil)) (pv 1)))))))))))), ?_⟩
    -- pen[2] > 0
    refine ⟨_, rfl, p, _, 2, _, rfl, rfl, SqL.of hp, atI_nat (j := 2) rfl, _, _, rfl, rfl, _, rfl, ?_⟩
    refine ite2 (fun h => ?_) (fun h => ?_)
    · have hr : 0 < r := of_decide_eq_true h
      have b1 := Int.emod_nonneg r (by omega : m ≠ 0)
      have b2 := Int.emod_lt_of_pos r hm
      refine ⟨_, rfl, p, _, 2, _, rfl, rfl, SqL.of hp, atI_nat (j := 2) rfl, .inl ⟨_, rfl, _, rfl, _, _, rfl, rfl, hm, ?_⟩⟩
      refine ⟨_, rfl, p, _, 2, _, rfl, rfl, SqL.of hp, atI_nat (j := 2) rfl, .inl ⟨_, rfl, _, rfl, _, _, rfl, rfl, wide_div hm (lt200 hm hm2) (by decide) (by decide), ?_⟩⟩
      refine ⟨_, rfl, p, _, 2, 2, rfl, rfl, hp, rfl, ?_⟩
      refine ⟨_, rfl, ?_⟩
      refine k _ _ (fun b o e1 e2 => by rw [upd_ne e1]; exact e2) ⟨c, ns, a, r / m, upd_same, hcp, by rw [upd_ne hcp]; exact hc, hns, ha0, by omega, Int.ediv_nonneg hr0 (by omega)⟩ b1 b2
    · -- at = pen[1]; pen[1] = at + 1; cell = ..
      refine ⟨_, rfl, p, _, 1, _, rfl, rfl, SqL.of hp, atI_nat (j := 1) rfl, ?_⟩
      refine ⟨_, rfl, _, _, rfl, rfl, _, rfl, p, _, 1, 1, rfl, rfl, hp, rfl, ?_⟩
      refine ⟨_, rfl, _, _, rfl, rfl, .inl ⟨by decide, by decide⟩, _, _, rfl, rfl, ?_⟩
      have hp1 : (upd H p (.lst ([V.ref c, .int a, .int r].set 1 (.int (a + 1))))) p = some (.lst [.ref c, .int (a + 1), .int r]) := upd_same
      have hc1 : (upd H p (.lst ([V.ref c, .int a, .int r].set 1 (.int (a + 1))))) c = some (.lst (ns.map V.int)) := by rw [upd_ne hcp]; exact hc
      have but1 : But p H (upd H p (.lst ([V.ref c, .int a, .int r].set 1 (.int (a + 1))))) := fun b o e1 e2 => by rw [upd_ne e1]; exact e2
      generalize upd H p (.lst ([V.ref c, .int a, .int r].set 1 (.int (a + 1)))) = H1 at hp1 hc1 but1
      -- pen[0] != []
      refine ⟨_, rfl, p, _, 0, _, rfl, rfl, SqL.of hp1, atI_nat (j := 0) rfl, ⟨by decide, fun l hl => ?_⟩⟩
      have hpl : p ≠ l := ne_of_none hp1 hl
      have hcl : c ≠ l := ne_of_none hc1 hl
      have hp2 : (upd H1 l (.lst [])) p = some (.lst [.ref c, .int (a + 1), .int r]) := by rw [upd_ne hpl]; exact hp1
      have hc2 : (upd H1 l (.lst [])) c = some (.lst (ns.map V.int)) := by rw [upd_ne hcl]; exact hc1
      have but2 : But p H (upd H1 l (.lst [])) := fun b o e1 e2 => by rw [upd_ne (ne_of_none (but1 b o e1 e2) hl)]; exact but1 b o e1 e2
      have hl2 : (upd H1 l (.lst [])) l = some (.lst []) := upd_same
      refine ⟨.list (ns.map .int), .list [], .lst (SqL.of hc2) (dp_ints K _ ns), .lst (SqL.of hl2) .nil, shaped_ints ns, by decide, _, rfl, ?_⟩
      generalize upd H1 l (.lst []) = H2 at hp2 hc2 but2 hl2
      rw [eqv_ints]
      refine ite2 (fun hne => ?_) (fun hne => ?_)
      · have hn0 : 0 < (ns.map V.int).length := by
          cases ns with
          | nil => cases hne
          | cons x xs => exact Nat.succ_pos _
        have c1 := Int.emod_nonneg a (by omega : ((ns.map V.int).length : Int) ≠ 0)
        have c2 := Int.emod_lt_of_pos a (by omega : 0 < ((ns.map V.int).length : Int))
        obtain ⟨x, hx⟩ := at_int c1 c2
        refine ⟨_, rfl, p, _, 0, _, rfl, rfl, SqL.of hp2, atI_nat (j := 0) rfl, _, rfl, .inl ⟨_, rfl, _, rfl, p, _, 0, _, rfl, rfl, SqL.of hp2, atI_nat (j := 0) rfl, c, _, rfl, .inl (SqL.of hc2), ?_⟩⟩
        refine ⟨_, _, rfl, rfl, (by omega), c, _, _, _, rfl, rfl, SqL.of hc2, hx, ?_⟩
        generalize x = cell
        refine ⟨_, rfl, _, rfl, p, _, 0, _, rfl, rfl, SqL.of hp2, atI_nat (j := 0) rfl, c, _, rfl, .inl (SqL.of hc2), _, _, rfl, rfl, _, rfl, ?_⟩
        refine ite2 (fun hA => ?_) (fun hA => ?_)
        · refine ⟨_, rfl, _, rfl, _, _, rfl, rfl, ⟨by decide, by decide, by decide⟩, _, _, rfl, rfl, _, rfl, ?_⟩
          refine ite2 (fun hB => ?_) (fun hB => ?_)
          · have hB2 := of_decide_eq_true hB
            refine ⟨_, rfl, _, rfl, _, _, rfl, rfl, ⟨by decide, by decide, by decide⟩, _, _, rfl, rfl, _, _, rfl, rfl, .inl ⟨by decide, by decide⟩, _, rfl, _, _, rfl, rfl, .inr ⟨_, rfl, _, _, rfl, rfl, ?_⟩⟩
            refine ⟨_, rfl, .inl ⟨_, rfl, _, rfl, _, _, rfl, rfl, wide_div hm (lt200 hm hm2) (by decide) (by decide), _, rfl, p, _, 2, 2, rfl, rfl, hp2, rfl, ?_⟩⟩
            refine ⟨_, rfl, .inl ⟨_, rfl, _, rfl, _, _, rfl, rfl, hm, ?_⟩⟩
            exact k _ _ (fun b o e1 e2 => by rw [upd_ne e1]; exact but2 b o e1 e2) ⟨c, ns, a + 1, _, upd_same, hcp, by rw [upd_ne hcp]; exact hc2, hns, by omega, by omega, Int.ediv_nonneg (great_nn hB2) (by omega)⟩ (Int.emod_nonneg _ (by omega)) (Int.emod_lt_of_pos _ hm)
          · have e1 := Int.emod_nonneg cell (by decide : (2147483549 : Int) ≠ 0)
            have e2 := Int.emod_lt_of_pos cell (by decide : (0 : Int) < 2147483549)
            refine ⟨_, rfl, .inl ⟨_, rfl, _, _, rfl, rfl, (by show (0 : Int) < 2147483549; decide), _, rfl, _, _, rfl, rfl, .inl ⟨by decide, by decide⟩, _, _, rfl, rfl, _, _, rfl, rfl, _, _, rfl, rfl, ⟨by decide, by decide, by omega⟩, .inl ⟨_, rfl, _, _, rfl, rfl, (by show (0 : Int) < 2147483629; decide), ?_⟩⟩⟩
            have e3 := Int.emod_nonneg ((cell % 2147483549 + 53069 * a + 233) ^ Int.toNat 5) (by decide : (2147483629 : Int) ≠ 0)
            have e4 := Int.emod_lt_of_pos ((cell % 2147483549 + 53069 * a + 233) ^ Int.toNat 5) (by decide : (0 : Int) < 2147483629)
            dsimp only
            generalize (cell % 2147483549 + 53069 * a + 233) ^ Int.toNat 5 % 2147483629 = z at e3 e4
            refine ⟨_, rfl, _, rfl, _, _, rfl, rfl, .inl ⟨by decide, by decide⟩, _, _, rfl, rfl, _, _, rfl, rfl, .inl ⟨by omega, by omega⟩, _, rfl, _, _, rfl, rfl, .inl ⟨by decide, by decide⟩, _, rfl, _, _, rfl, rfl, .inl ⟨by omega, by omega⟩, _, _, rfl, rfl, _, _, rfl, rfl, _, _, rfl, rfl, ⟨by decide, by decide, mix_ok e3 e4 ha0 (by omega) (by decide) (by decide) (by decide) (by decide) (by decide) (by decide)⟩, .inl ⟨_, rfl, _, _, rfl, rfl, (by show (0 : Int) < 2147483587; decide), ?_⟩⟩
            refine ⟨_, rfl, _, _, rfl, rfl, wide_div (by decide) (by decide : (32 : Int).natAbs < 2 ^ 10) (by decide) (by decide), .inl ⟨_, rfl, _, rfl, _, _, rfl, rfl, hm, ?_⟩⟩
            exact k _ _ but2 ⟨c, ns, a + 1, r, hp2, hcp, hc2, hns, by omega, by omega, hr0⟩ (Int.emod_nonneg _ (by omega)) (Int.emod_lt_of_pos _ hm)
        · have e1 := Int.emod_nonneg cell (by decide : (2147483549 : Int) ≠ 0)
          have e2 := Int.emod_lt_of_pos cell (by decide : (0 : Int) < 2147483549)
          refine ⟨_, rfl, .inl ⟨_, rfl, _, _, rfl, rfl, (by show (0 : Int) < 2147483549; decide), _, rfl, _, _, rfl, rfl, .inl ⟨by decide, by decide⟩, _, _, rfl, rfl, _, _, rfl, rfl, _, _, rfl, rfl, ⟨by decide, by decide, by omega⟩, .inl ⟨_, rfl, _, _, rfl, rfl, (by show (0 : Int) < 2147483629; decide), ?_⟩⟩⟩
          have e3 := Int.emod_nonneg ((cell % 2147483549 + 53069 * a + 233) ^ Int.toNat 5) (by decide : (2147483629 : Int) ≠ 0)
          have e4 := Int.emod_lt_of_pos ((cell % 2147483549 + 53069 * a + 233) ^ Int.toNat 5) (by decide : (0 : Int) < 2147483629)
          dsimp only
          generalize (cell % 2147483549 + 53069 * a + 233) ^ Int.toNat 5 % 2147483629 = z at e3 e4
          refine ⟨_, rfl, _, rfl, _, _, rfl, rfl, .inl ⟨by decide, by decide⟩, _, _, rfl, rfl, _, _, rfl, rfl, .inl ⟨by omega, by omega⟩, _, rfl, _, _, rfl, rfl, .inl ⟨by decide, by decide⟩, _, rfl, _, _, rfl, rfl, .inl ⟨by omega, by omega⟩, _, _, rfl, rfl, _, _, rfl, rfl, _, _, rfl, rfl, ⟨by decide, by decide, mix_ok e3 e4 ha0 (by omega) (by decide) (by decide) (by decide) (by decide) (by decide) (by decide)⟩, .inl ⟨_, rfl, _, _, rfl, rfl, (by show (0 : Int) < 2147483587; decide), ?_⟩⟩
          refine ⟨_, rfl, _, _, rfl, rfl, wide_div (by decide) (by decide : (32 : Int).natAbs < 2 ^ 10) (by decide) (by decide), .inl ⟨_, rfl, _, rfl, _, _, rfl, rfl, hm, ?_⟩⟩
          exact k _ _ but2 ⟨c, ns, a + 1, r, hp2, hcp, hc2, hns, by omega, by omega, hr0⟩ (Int.emod_nonneg _ (by omega)) (Int.emod_lt_of_pos _ hm)

      · dsimp only
        generalize 41443 * a + 331 = cell
        refine ⟨_, rfl, _, rfl, p, _, 0, _, rfl, rfl, SqL.of hp2, atI_nat (j := 0) rfl, c, _, rfl, .inl (SqL.of hc2), _, _, rfl, rfl, _, rfl, ?_⟩
        refine ite2 (fun hA => ?_) (fun hA => ?_)
        · refine ⟨_, rfl, _, rfl, _, _, rfl, rfl, ⟨by decide, by decide, by decide⟩, _, _, rfl, rfl, _, rfl, ?_⟩
          refine ite2 (fun hB => ?_) (fun hB => ?_)
          · have hB2 := of_decide_eq_true hB
            refine ⟨_, rfl, _, rfl, _, _, rfl, rfl, ⟨by decide, by decide, by decide⟩, _, _, rfl, rfl, _, _, rfl, rfl, .inl ⟨by decide, by decide⟩, _, rfl, _, _, rfl, rfl, .inr ⟨_, rfl, _, _, rfl, rfl, ?_⟩⟩
            refine ⟨_, rfl, .inl ⟨_, rfl, _, rfl, _, _, rfl, rfl, wide_div hm (lt200 hm hm2) (by decide) (by decide), _, rfl, p, _, 2, 2, rfl, rfl, hp2, rfl, ?_⟩⟩
            refine ⟨_, rfl, .inl ⟨_, rfl, _, rfl, _, _, rfl, rfl, hm, ?_⟩⟩
            exact k _ _ (fun b o e1 e2 => by rw [upd_ne e1]; exact but2 b o e1 e2) ⟨c, ns, a + 1, _, upd_same, hcp, by rw [upd_ne hcp]; exact hc2, hns, by omega, by omega, Int.ediv_nonneg (great_nn hB2) (by omega)⟩ (Int.emod_nonneg _ (by omega)) (Int.emod_lt_of_pos _ hm)
          · have e1 := Int.emod_nonneg cell (by decide : (2147483549 : Int) ≠ 0)
            have e2 := Int.emod_lt_of_pos cell (by decide : (0 : Int) < 2147483549)
            refine ⟨_, rfl, .inl ⟨_, rfl, _, _, rfl, rfl, (by show (0 : Int) < 2147483549; decide), _, rfl, _, _, rfl, rfl, .inl ⟨by decide, by decide⟩, _, _, rfl, rfl, _, _, rfl, rfl, _, _, rfl, rfl, ⟨by decide, by decide, by omega⟩, .inl ⟨_, rfl, _, _, rfl, rfl, (by show (0 : Int) < 2147483629; decide), ?_⟩⟩⟩
            have e3 := Int.emod_nonneg ((cell % 2147483549 + 53069 * a + 233) ^ Int.toNat 5) (by decide : (2147483629 : Int) ≠ 0)
            have e4 := Int.emod_lt_of_pos ((cell % 2147483549 + 53069 * a + 233) ^ Int.toNat 5) (by decide : (0 : Int) < 2147483629)
            dsimp only
            generalize (cell % 2147483549 + 53069 * a + 233) ^ Int.toNat 5 % 2147483629 = z at e3 e4
            refine ⟨_, rfl, _, rfl, _, _, rfl, rfl, .inl ⟨by decide, by decide⟩, _, _, rfl, rfl, _, _, rfl, rfl, .inl ⟨by omega, by omega⟩, _, rfl, _, _, rfl, rfl, .inl ⟨by decide, by decide⟩, _, rfl, _, _, rfl, rfl, .inl ⟨by omega, by omega⟩, _, _, rfl, rfl, _, _, rfl, rfl, _, _, rfl, rfl, ⟨by decide, by decide, mix_ok e3 e4 ha0 (by omega) (by decide) (by decide) (by decide) (by decide) (by decide) (by decide)⟩, .inl ⟨_, rfl, _, _, rfl, rfl, (by show (0 : Int) < 2147483587; decide), ?_⟩⟩
            refine ⟨_, rfl, _, _, rfl, rfl, wide_div (by decide) (by decide : (32 : Int).natAbs < 2 ^ 10) (by decide) (by decide), .inl ⟨_, rfl, _, rfl, _, _, rfl, rfl, hm, ?_⟩⟩
            exact k _ _ but2 ⟨c, ns, a + 1, r, hp2, hcp, hc2, hns, by omega, by omega, hr0⟩ (Int.emod_nonneg _ (by omega)) (Int.emod_lt_of_pos _ hm)
        · have e1 := Int.emod_nonneg cell (by decide : (2147483549 : Int) ≠ 0)
          have e2 := Int.emod_lt_of_pos cell (by decide : (0 : Int) < 2147483549)
          refine ⟨_, rfl, .inl ⟨_, rfl, _, _, rfl, rfl, (by show (0 : Int) < 2147483549; decide), _, rfl, _, _, rfl, rfl, .inl ⟨by decide, by decide⟩, _, _, rfl, rfl, _, _, rfl, rfl, _, _, rfl, rfl, ⟨by decide, by decide, by omega⟩, .inl ⟨_, rfl, _, _, rfl, rfl, (by show (0 : Int) < 2147483629; decide), ?_⟩⟩⟩
          have e3 := Int.emod_nonneg ((cell % 2147483549 + 53069 * a + 233) ^ Int.toNat 5) (by decide : (2147483629 : Int) ≠ 0)
          have e4 := Int.emod_lt_of_pos ((cell % 2147483549 + 53069 * a + 233) ^ Int.toNat 5) (by decide : (0 : Int) < 2147483629)
          dsimp only
          generalize (cell % 2147483549 + 53069 * a + 233) ^ Int.toNat 5 % 2147483629 = z at e3 e4
          refine ⟨_, rfl, _, rfl, _, _, rfl, rfl, .inl ⟨by decide, by decide⟩, _, _, rfl, rfl, _, _, rfl, rfl, .inl ⟨by omega, by omega⟩, _, rfl, _, _, rfl, rfl, .inl ⟨by decide, by decide⟩, _, rfl, _, _, rfl, rfl, .inl ⟨by omega, by omega⟩, _, _, rfl, rfl, _, _, rfl, rfl, _, _, rfl, rfl, ⟨by decide, by decide, mix_ok e3 e4 ha0 (by omega) (by decide) (by decide) (by decide) (by decide) (by decide) (by decide)⟩, .inl ⟨_, rfl, _, _, rfl, rfl, (by show (0 : Int) < 2147483587; decide), ?_⟩⟩
          refine ⟨_, rfl, _, _, rfl, rfl, wide_div (by decide) (by decide : (32 : Int).natAbs < 2 ^ 10) (by decide) (by decide), .inl ⟨_, rfl, _, rfl, _, _, rfl, rfl, hm, ?_⟩⟩
          exact k _ _ but2 ⟨c, ns, a + 1, r, hp2, hcp, hc2, hns, by omega, by omega, hr0⟩ (Int.emod_nonneg _ (by omega)) (Int.emod_lt_of_pos _ hm)

end
end K05
namespace K05
open PySem PySem.Spec PyProof.Rows L2 Hx Gx
section
variable {P : Program} {w : World} {K : PySem.W.Frag} {mg : Str → Option Value} {base : Heap}
theorem But.refl (p : Addr) (H : Hp) : But p H H := fun _ _ _ h => h
theorem But.trans {p : Addr} {H H1 H2 : Hp} (a : But p H H1) (b : But p H1 H2) : But p H H2 := fun c o n h => b c o n (a c o n h)
theorem But.of {p : Addr} {H H1 : Hp} (a : Same H H1) : But p H H1 := fun c o _ h => a c o h
theorem But.new {p l : Addr} {H H1 : Hp} {o : HO} (a : But p H H1) (h : H1 l = none) : But p H (upd H1 l o) := fun b u n e => by rw [upd_ne (ne_of_none (a b u n e) h)]; exact a b u n e
theorem But.seq {p a : Addr} {H H' : Hp} {xs : List V} (e : But p H H') (n : a ≠ p) (h : SqL K H a xs) : SqL K H' a xs := by
  rcases h with (h | ⟨o, h⟩) | h
  · exact .inl (.inl (e _ _ n h))
  · exact .inl (.inr ⟨o, e _ _ n h⟩)
  · exact .inr h
theorem PenAt.new {H : Hp} {p l : Addr} {n : Nat} {o : HO} (h : PenAt H p n) (f : H l = none) : PenAt (upd H l o) p n := by
  obtain ⟨c, ns, a, r, h1, h2, h3, h4⟩ := h
  exact ⟨c, ns, a, r, by rw [upd_ne (ne_of_none h1 f)]; exact h1, h2, by rw [upd_ne (ne_of_none h3 f)]; exact h3, h4⟩
theorem PenAt.ne {H : Hp} {p l : Addr} {n : Nat} (h : PenAt H p n) (f : H l = none) : p ≠ l := by
  obtain ⟨c, ns, a, r, h1, _⟩ := h
  exact ne_of_none h1 f
theorem PenAt.mono {H : Hp} {p : Addr} {n m : Nat} (h : PenAt H p n) (f : n ≤ m) : PenAt H p m := by
  obtain ⟨c, ns, a, r, h1, h2, h3, h4, h5, h6, h7⟩ := h
  exact ⟨c, ns, a, r, h1, h2, h3, h4, h5, by omega, h7⟩
/-- a pick: one of the items -/
def spPick (K : PySem.W.Frag) : Sp := fun vs H Q _ => ∃ (p a : Addr) (n : Nat) (xs : List V), vs = [.ref p, .ref a] ∧ PenAt H p n ∧ n ≤ 100000 ∧ SqL K H a xs ∧ a ≠ p ∧ 0 < xs.length ∧ xs.length ≤ 1000 ∧
  ∀ (H' : Hp) (v : V), But p H H' → PenAt H' p (n + 1) → v ∈ xs → Q v H'
theorem sc_pick : FnScope ["_law_pen_here", "_law_some"] ["_law_pen_here", "_law_some"] (defScope s__law_pick) := ⟨rfl, rfl, rfl, by decide +kernel, rfl, by decide +kernel, by decide +kernel⟩
theorem p_pick (T : Tx K mg) : Prom P w K mg base 2 d__law_pick ["_law_pen_here", "_law_some"] (spPick K) := by
  obtain ⟨fd, F⟩ := f__law_pick T
  obtain ⟨fdD, FD, GD, BD⟩ := p_draw (P := P) (w := w) (base := base) T
  refine ⟨fd, F, F.ok sc_pick (fun vs H Q E h => ?_) (fun cdv A outer s H vs Q E hr h => ?_), F.bindsN fun _ _ _ _ _ _ us hl => match us, hl with | [_, _], _ => rfl⟩
  · obtain ⟨p, a, n, xs, rfl, _⟩ := h
    rfl
  · obtain ⟨p, a, n, xs, rfl, hp, hn, hx, hap, h0, h1, k⟩ := h
    refine ⟨_, pss_one (ps_ret (pe_ix ix_list (pv 1) (pe_call GD hr rfl (g__law_draw T) FD.kp BD .nil pass0 (pa_cons (pv 0) (pa_cons (pe_callB call_len_seq (by rfl) (n_len T) (by decide +kernel) (pa_cons (pv 1) pa_nil)) pa_nil))) (fun _ _ => rfl))), ?_⟩
    refine ⟨_, rfl, _, rfl, _, rfl, a, _, rfl, .inl hx, p, n, _, rfl, hp, hn, by omega, by have : (10 : Int) ^ 60 = 10 ^ 60 := rfl; omega, ?_⟩
    intro H' d but hp' d0 d1
    obtain ⟨i, rfl⟩ : ∃ i : Nat, d = i := ⟨d.toNat, by omega⟩
    have hi : i < xs.length := by omega
    refine ⟨a, _, _, _, rfl, rfl, but.seq hap hx, atI_nat (List.getElem?_eq_getElem hi), ?_⟩
    exact k _ _ but hp' (List.getElem_mem hi)
end
end K05
namespace K05
open PySem PySem.Spec PyProof.Rows L2 Hx Gx
section
variable {P : Program} {w : World} {K : PySem.W.Frag} {mg : Str → Option Value} {base : Heap}

/-- the letters' codes -/
def isLow (c : Nat) : Bool := decide (97 ≤ c) && decide (c ≤ 122)
/-- a text of one to eight letters -/
def nameB (x : Str) : Bool := decide (1 ≤ x.length) && decide (x.length ≤ 8) && x.cps.toList.all isLow
theorem low_in (c : Nat) : decide (c ∈ ("abcdefghijklmnopqrstuvwxyz" : Str).cps.toList) = isLow c := by
  have e : ("abcdefghijklmnopqrstuvwxyz" : Str).cps.toList = [97, 98, 99, 100, 101, 102, 103, 104, 105, 106, 107, 108, 109, 110, 111, 112, 113, 114, 115, 116, 117, 118, 119, 120, 121, 122] := by decide +kernel
  rw [e]
  unfold isLow
  by_cases h : 97 ≤ c ∧ c ≤ 122
  · rw [decide_eq_true h.1, decide_eq_true h.2]
    refine decide_eq_true ?_
    simp only [List.mem_cons, List.not_mem_nil, or_false]
    omega
  · have h2 : (decide (97 ≤ c) && decide (c ≤ 122)) = false := by
      rw [Bool.and_eq_false_iff]
      by_cases h1 : 97 ≤ c
      · exact .inr (decide_eq_false fun h3 => h ⟨h1, h3⟩)
      · exact .inl (decide_eq_false h1)
    rw [h2]
    refine decide_eq_false fun q => h ?_
    simp only [List.mem_cons, List.not_mem_nil, or_false] at q
    omega
def spIsName : Sp := fun vs H Q _ => ∃ x : Str, vs = [.str x] ∧ x.length ≤ sizeLine ∧ ∀ H', Same H H' → Q (.bl (nameB x)) H'
theorem sc_is_name : FnScope ["value", "letter"] ["value"] (defScope s_is_name) := ⟨rfl, rfl, rfl, by decide +kernel, rfl, by decide +kernel, by decide +kernel⟩
theorem p_is_name (T : Tx K mg) : Prom P w K mg base 1 d_is_name ["value"] spIsName := by
  obtain ⟨fd, F⟩ := f_is_name T
  obtain ⟨tNL, hNL⟩ := i_NAME_LENGTH T (v := 8) rfl rfl
  obtain ⟨tLT, hLT⟩ := t_LETTERS T (v := "abcdefghijklmnopqrstuvwxyz") rfl
  refine ⟨fd, F, F.ok sc_is_name (fun vs H Q E h => ?_) (fun cdv A outer s H vs Q E hr h => ?_), F.bindsN fun _ _ _ _ _ _ us hl => match us, hl with | [_], _ => rfl⟩
  · obtain ⟨x, rfl, _⟩ := h
    rfl
  · obtain ⟨x, rfl, hx, k⟩ := h
    refine ⟨_, (pss_cons (ps_if (PW.pt (pw_or (pt_not (pt_val (pe_callB call_isi (by rfl) (n_isinstance T) (by decide +kernel) (pa_cons (pv 0) (pa_cons (pe_bltn (v := .ty "str") (by rfl) (n_str T) (by decide +kernel) rfl) pa_nil))))) (pw_or1 (pt_not (pt_chain op_le op_le pe_int (pe_callB call_len_str (by rfl) (n_len T) (by decide +kernel) (pa_cons (pv 0) pa_nil)) (pe_glob (v := .int 8) rfl hNL ⟨_, rfl⟩)))))) (pss_one (ps_ret pe_bl)) pss_nil)
      (pss_one (ps_ret (pe_callB (cr_all rfl) (by rfl) (n_all T) (by decide +kernel) (pa_cons (pe_lc (own := [("letter", 1)]) (g := gName 1) (tt := tYes) (by rfl) sc_is_name.nd (pi_str (pv 0)) (blkOk_by (own := [("letter", 1)]) (N := ["value", "letter"]) (sc := defScope s_is_name) (by decide +kernel)) (fun _ _ _ _ _ => pg_name (i := 1) sc_is_name.nd rfl (Or.inl rfl)) (fun _ _ _ _ _ => pts_nil) (fun _ _ _ _ _ => (pe_cmpR op_in_sign (pv 1) (pe_glob (v := .str "abcdefghijklmnopqrstuvwxyz") rfl hLT ⟨_, rfl⟩) rfl))) pa_nil))))), ?_⟩
    refine ⟨_, rfl, _, _, _, _, true, rfl, .ty "str", .base (.str x), kit_ty (by decide +kernel), _, rfl, ?_⟩
    refine iteF ?_
    refine ⟨_, rfl, _, rfl, hx, _, _, rfl, rfl, _, rfl, ?_⟩
    have fin : nameB x = false → Q (.bl false) H := fun e => by
      have q := k H (Same.refl H)
      rw [e] at q
      exact q
    refine ite2 (fun h1 => ?_) (fun h1 => ?_)
    · have h1' : 1 ≤ x.length := by
        have z := of_decide_eq_true h1
        omega
      refine ⟨_, _, rfl, rfl, _, rfl, ?_⟩
      by_cases h2 : x.length ≤ 8
      · have e2 : decide (((x.length : Nat) : Int) ≤ 8) = true := decide_eq_true (by omega)
        rw [e2]
        refine iteF ?_
        refine ⟨_, rfl, x, rfl, fun D hD => ?_⟩
        refine lc_it walk_str (fun i H' => Same H H' ∧ H' D = some (.lst ((x.cps.toList.take i).map fun c => V.bl (isLow c)))) ⟨fun b o e => by rw [upd_ne (ne_of_none e hD)]; exact e, upd_same⟩ (fun _ _ _ _ => trivial) ?_ ?_
        · rintro i v H1 H2 hi ⟨s1, d1⟩ ⟨rfl, c, hc, rfl⟩
          refine ⟨rfl, ⟨_, rfl, c, _, rfl, rfl, _, d1, ?_, fun b o e => by rw [upd_ne (ne_of_none e hD)]; exact s1 b o e, ?_⟩⟩
          · rw [List.length_map, List.length_take]
            have z : (8 : Nat) < sizeLine := by decide
            have z2 : x.cps.toList.length = x.length := rfl
            omega
          · rw [upd_same, low_in, List.take_succ, List.map_append]
            have e : x.cps.toList[i]? = some c := by simpa using hc
            rw [e]
            rfl
        · rintro H1 ⟨s1, d1⟩
          refine ⟨D, x.cps.toList.map isLow, rfl, SqL.of ?_, ?_⟩
          · have e : x.cps.toList.take x.cps.size = x.cps.toList := List.take_of_length_le (Nat.le_of_eq (by simp))
            rw [d1, e, List.map_map]
            rfl
          · have e : nameB x = ((x.cps.toList.map isLow).all id) := by
              unfold nameB
              rw [decide_eq_true h1', decide_eq_true h2]
              simp
            rw [← e]
            exact k _ s1
      · have e2 : decide (((x.length : Nat) : Int) ≤ 8) = false := decide_eq_false (by omega)
        rw [e2]
        refine iteT (fin ?_)
        unfold nameB
        rw [decide_eq_false h2]
        simp
    · refine ⟨_, rfl, iteT (fin ?_)⟩
      have h0 : ¬ 1 ≤ x.length := fun z => h1 (decide_eq_true (by omega))
      unfold nameB
      rw [decide_eq_false h0]
      rfl
/-- an int is an integer -/
def spIsInt : Sp := fun vs H Q _ => ∃ i : Int, vs = [.int i] ∧ Q (.bl true) H
theorem sc_is_integer : FnScope ["value"] ["value"] (defScope s_is_integer) := ⟨rfl, rfl, rfl, by decide +kernel, rfl, by decide +kernel, by decide +kernel⟩
theorem p_is_integer (T : Tx K mg) : Prom P w K mg base 1 d_is_integer ["value"] spIsInt := by
  obtain ⟨fd, F⟩ := f_is_integer T
  refine ⟨fd, F, F.ok sc_is_integer (fun vs H Q E h => ?_) (fun cdv A outer s H vs Q E hr h => ?_), F.bindsN fun _ _ _ _ _ _ us hl => match us, hl with | [_], _ => rfl⟩
  · obtain ⟨x, rfl, _⟩ := h
    rfl
  · obtain ⟨x, rfl, k⟩ := h
    refine ⟨_, (pss_one (ps_ret (pe_and (pe_callB call_isi (by rfl) (n_isinstance T) (by decide +kernel) (pa_cons (pv 0) (pa_cons (pe_bltn (v := .ty "int") (by rfl) (n_int T) (by decide +kernel) rfl) pa_nil))) (pe_one (pe_not (pe_callB call_isi (by rfl) (n_isinstance T) (by decide +kernel) (pa_cons (pv 0) (pa_cons (pe_bltn (v := .ty "bool") (by rfl) (n_bool T) (by decide +kernel) rfl) pa_nil)))))))), ?_⟩
    refine ⟨_, rfl, _, _, _, _, true, rfl, .ty "int", .base (.int x), kit_ty (by decide +kernel), _, rfl, ?_⟩
    refine ⟨_, rfl, _, _, _, _, false, rfl, .ty "bool", .base (.int x), kit_ty (by decide +kernel), _, rfl, ?_⟩
    exact k
def priceOk (i : Int) : Prop := -999999999999 ≤ i ∧ i ≤ 999999999999
def spIsPrice : Sp := fun vs H Q _ => ∃ i : Int, vs = [.int i] ∧ priceOk i ∧ Q (.bl true) H
theorem sc_is_price : FnScope ["value"] ["value"] (defScope s_is_price) := ⟨rfl, rfl, rfl, by decide +kernel, rfl, by decide +kernel, by decide +kernel⟩
theorem p_is_price (T : Tx K mg) : Prom P w K mg base 2 d_is_price ["value"] spIsPrice := by
  obtain ⟨fd, F⟩ := f_is_price T
  obtain ⟨fdI, FI, GI, BI⟩ := p_is_integer (P := P) (w := w) (base := base) T
  obtain ⟨tGP, hGP⟩ := i_GREATEST_PRICE T (v := 999999999999) rfl rfl
  refine ⟨fd, F, F.ok sc_is_price (fun vs H Q E h => ?_) (fun cdv A outer s H vs Q E hr h => ?_), F.bindsN fun _ _ _ _ _ _ us hl => match us, hl with | [_], _ => rfl⟩
  · obtain ⟨x, rfl, _⟩ := h
    rfl
  · obtain ⟨x, rfl, ⟨h1, h2⟩, k⟩ := h
    refine ⟨_, (pss_one (ps_ret (pe_and (pe_call GI hr rfl (g_is_integer T) FI.kp BI .nil pass0 (pa_cons (pv 0) pa_nil)) (pe_one (pe_chain op_le op_le (pe_un un_neg (pe_glob (v := .int 999999999999) rfl hGP ⟨_, rfl⟩)) (pv 0) (pe_glob (v := .int 999999999999) rfl hGP ⟨_, rfl⟩)))))), ?_⟩
    refine ⟨_, rfl, x, rfl, _, rfl, ?_⟩
    refine iteT ⟨_, rfl, _, rfl, _, _, rfl, rfl, _, rfl, ?_⟩
    have e1 : decide ((-999999999999 : Int) ≤ x) = true := decide_eq_true h1
    have e2 : decide (x ≤ (999999999999 : Int)) = true := decide_eq_true h2
    rw [e1]
    refine iteT ⟨_, _, rfl, rfl, ?_⟩
    show Q (.bl (decide (x ≤ (999999999999 : Int)))) H
    rw [e2]
    exact k
/-- a street's name and ends are right -/
def spChS : Sp := fun vs H Q _ => ∃ x a b : Str, vs = [.str x, .str a, .str b] ∧ nameB x = true ∧ nameB a = true ∧ nameB b = true ∧ a ≠ b ∧ ∀ H', Same H H' → Q .non H'
theorem nameB_len {x : Str} (h : nameB x = true) : x.length ≤ sizeLine := by
  unfold nameB at h
  rw [Bool.and_eq_true, Bool.and_eq_true] at h
  have z := of_decide_eq_true h.1.2
  exact Nat.le_trans z (by decide)
theorem sc_check_street : FnScope ["name", "one", "other"] ["name", "one", "other"] (defScope s_check_street) := ⟨rfl, rfl, rfl, by decide +kernel, rfl, by decide +kernel, by decide +kernel⟩
theorem p_check_street (T : Tx K mg) : Prom P w K mg base 2 d_check_street ["name", "one", "other"] spChS := by
  obtain ⟨fd, F⟩ := f_check_street T
  obtain ⟨fdN, FN, GN, BN⟩ := p_is_name (P := P) (w := w) (base := base) T
  refine ⟨fd, F, F.ok sc_check_street (fun vs H Q E h => ?_) (fun cdv A outer s H vs Q E hr h => ?_), F.bindsN fun _ _ _ _ _ _ us hl => match us, hl with | [_, _, _], _ => rfl⟩
  · obtain ⟨x, a, b, rfl, _⟩ := h
    rfl
  · obtain ⟨x, a, b, rfl, hx, ha, hb, hab, k⟩ := h
    refine ⟨_, (pss_cons (ps_if (pt_not (pt_val (pe_call GN hr rfl (g_is_name T) FN.kp BN .nil pass0 (pa_cons (pv 0) pa_nil)))) (pss_one ps_never) pss_nil)
      (pss_cons (ps_if (PW.pt (pw_or (pt_not (pt_val (pe_call GN hr rfl (g_is_name T) FN.kp BN .nil pass0 (pa_cons (pv 1) pa_nil)))) (pw_or1 (pt_not (pt_val (pe_call GN hr rfl (g_is_name T) FN.kp BN .nil pass0 (pa_cons (pv 2) pa_nil))))))) (pss_one ps_never) pss_nil)
      (pss_one (ps_if (pt_cmpR op_eq (pv 1) (pv 2) (nomark _)) (pss_one ps_never) pss_nil)))), ?_⟩
    refine ⟨_, rfl, x, rfl, nameB_len hx, fun H1 s1 => ?_⟩
    refine ⟨_, rfl, ?_⟩
    rw [hx]
    refine iteF ⟨_, rfl, a, rfl, nameB_len ha, fun H2 s2 => ⟨_, rfl, ?_⟩⟩
    rw [ha]
    refine iteF ⟨_, rfl, b, rfl, nameB_len hb, fun H3 s3 => ⟨_, rfl, ?_⟩⟩
    rw [hb]
    refine iteF ⟨_, rfl, _, rfl, rfl, _, rfl, ?_⟩
    have e : decide (V.str a = V.str b) = false := decide_eq_false fun z => hab (V.str.inj z)
    rw [e]
    exact iteF (k _ ((s1.trans s2).trans s3))
/-- both prices are prices -/
def spChP : Sp := fun vs H Q _ => ∃ i j : Int, vs = [.int i, .int j] ∧ priceOk i ∧ priceOk j ∧ ∀ H', Same H H' → Q .non H'
theorem sc_check_prices : FnScope ["there", "back", "price"] ["there", "back"] (defScope s_check_prices) := ⟨rfl, rfl, rfl, by decide +kernel, rfl, by decide +kernel, by decide +kernel⟩
theorem p_check_prices (T : Tx K mg) : Prom P w K mg base 3 d_check_prices ["there", "back"] spChP := by
  obtain ⟨fd, F⟩ := f_check_prices T
  obtain ⟨fdP, FP, GP, BP⟩ := p_is_price (P := P) (w := w) (base := base) T
  refine ⟨fd, F, F.ok sc_check_prices (fun vs H Q E h => ?_) (fun cdv A outer s H vs Q E hr h => ?_), F.bindsN fun _ _ _ _ _ _ us hl => match us, hl with | [_, _], _ => rfl⟩
  · obtain ⟨i, j, rfl, _⟩ := h
    rfl
  · obtain ⟨i, j, rfl, hi, hj, k⟩ := h
    refine ⟨_, PSs.nox (pss_one (ps_for PassesOwn.never rfl (pi_tup (pe_tup (pa_cons (pv 0) (pa_cons (pv 1) pa_nil)))) (pg_name (i := 2) sc_check_prices.nd rfl (Or.inl rfl)) (pss_one (ps_if (pt_not (pt_val (pe_call GP hr rfl (g_is_price T) FP.kp BP .nil pass0 (pa_cons (pv 2) pa_nil)))) (pss_one ps_never) pss_nil)))), ?_⟩
    refine ⟨_, rfl, _, rfl, (by show 2 ≤ sizeLine; decide), fun t ht => ⟨t, rfl, ⟨[.int i, .int j], SqT.of upd_same⟩, ?_⟩⟩
    refine for_tup (K := K) (a := t) (xs := [.int i, .int j]) (fun n σ H' => Same H H' ∧ H' t = some (.tup [.int i, .int j]) ∧ ∃ v, σ = [some (.int i), some (.int j), v]) ⟨fun b o e => by rw [upd_ne (ne_of_none e ht)]; exact e, upd_same, none, rfl⟩ (fun n σ H' _ z => SqT.of z.2.1) ?_ ?_
    · rintro n x σ H' hn ⟨s1, h1, v, rfl⟩
      have hx : ∃ y, x = .int y ∧ priceOk y := by
        match n, hn with
        | 0, hn => exact ⟨i, (Option.some.inj hn).symm, hi⟩
        | 1, hn => exact ⟨j, (Option.some.inj hn).symm, hj⟩
        | n + 2, hn => cases hn
      obtain ⟨y, rfl, hy⟩ := hx
      refine ⟨_, rfl, y, rfl, hy, _, rfl, iteF ?_⟩
      exact ⟨s1, h1, _, rfl⟩
    · rintro σ H' ⟨s1, _⟩
      exact k _ s1
end
end K05
namespace K05
open PySem PySem.Spec PyProof.Rows L2 Hx Gx Nx
section
variable {P : Program} {w : World} {K : PySem.W.Frag} {mg : Str → Option Value} {base : Heap}

/-- a street -/
inductive Sv where
  | lane (t a b : Str)
  | avenue (t lo hi : Str)
  | road (t lo hi : Str) (i j : Int)
  deriving DecidableEq
def lf (t a b : Str) : List (Str × V) := putF "goal" (.str b) (putF "start" (.str a) (putF "name" (.str t) []))
def af (t a b : Str) : List (Str × V) := putF "other" (.str b) (putF "one" (.str a) (putF "name" (.str t) []))
def rf (t a b : Str) (i j : Int) : List (Str × V) := putF "back" (.int j) (putF "there" (.int i) (putF "other" (.str b) (putF "one" (.str a) (putF "name" (.str t) []))))
theorem lf_name (t a b : Str) : (lf t a b).lookup ("name" : Str) = some (V.str t) := by unfold lf; rw [lookup_putF, if_neg (by decide +kernel), lookup_putF, if_neg (by decide +kernel), lookup_putF, if_pos rfl]
theorem lf_start (t a b : Str) : (lf t a b).lookup ("start" : Str) = some (V.str a) := by unfold lf; rw [lookup_putF, if_neg (by decide +kernel), lookup_putF, if_pos rfl]
theorem lf_goal (t a b : Str) : (lf t a b).lookup ("goal" : Str) = some (V.str b) := by unfold lf; rw [lookup_putF, if_pos rfl]
theorem af_name (t a b : Str) : (af t a b).lookup ("name" : Str) = some (V.str t) := by unfold af; rw [lookup_putF, if_neg (by decide +kernel), lookup_putF, if_neg (by decide +kernel), lookup_putF, if_pos rfl]
theorem af_one (t a b : Str) : (af t a b).lookup ("one" : Str) = some (V.str a) := by unfold af; rw [lookup_putF, if_neg (by decide +kernel), lookup_putF, if_pos rfl]
theorem af_other (t a b : Str) : (af t a b).lookup ("other" : Str) = some (V.str b) := by unfold af; rw [lookup_putF, if_pos rfl]
theorem rf_name (t a b : Str) (i j : Int) : (rf t a b i j).lookup ("name" : Str) = some (V.str t) := by unfold rf; rw [lookup_putF, if_neg (by decide +kernel), lookup_putF, if_neg (by decide +kernel), lookup_putF, if_neg (by decide +kernel), lookup_putF, if_neg (by decide +kernel), lookup_putF, if_pos rfl]
theorem rf_one (t a b : Str) (i j : Int) : (rf t a b i j).lookup ("one" : Str) = some (V.str a) := by unfold rf; rw [lookup_putF, if_neg (by decide +kernel), lookup_putF, if_neg (by decide +kernel), lookup_putF, if_neg (by decide +kernel), lookup_putF, if_pos rfl]
theorem rf_other (t a b : Str) (i j : Int) : (rf t a b i j).lookup ("other" : Str) = some (V.str b) := by unfold rf; rw [lookup_putF, if_neg (by decide +kernel), lookup_putF, if_neg (by decide +kernel), lookup_putF, if_pos rfl]
theorem rf_there (t a b : Str) (i j : Int) : (rf t a b i j).lookup ("there" : Str) = some (V.int i) := by unfold rf; rw [lookup_putF, if_neg (by decide +kernel), lookup_putF, if_pos rfl]
theorem rf_back (t a b : Str) (i j : Int) : (rf t a b i j).lookup ("back" : Str) = some (V.int j) := by unfold rf; rw [lookup_putF, if_pos rfl]
theorem putF_len (f : Str) (v : V) : ∀ l : List (Str × V), (putF f v l).length ≤ l.length + 1
  | [] => Nat.le_refl _
  | (g, x) :: r => by
    show (if g = f then (g, v) :: r else (g, x) :: putF f v r).length ≤ _
    split
    · rw [List.length_cons, List.length_cons]
      omega
    · have := putF_len f v r
      rw [List.length_cons, List.length_cons]
      omega
theorem putF_lt2 (f g : Str) (v u : V) : (putF f v (putF g u [])).length < 1000 := by
  have h1 := putF_len f v (putF g u [])
  have h2 := putF_len g u []
  have h3 : ([] : List (Str × V)).length = 0 := rfl
  omega
theorem putF_lt1 (f : Str) (v : V) : (putF f v []).length < 1000 := by
  have h1 := putF_len f v []
  have h3 : ([] : List (Str × V)).length = 0 := rfl
  omega
theorem putF_lt3 (f g k : Str) (v u x : V) : (putF f v (putF g u (putF k x []))).length < 1000 := by
  have h0 := putF_len f v (putF g u (putF k x []))
  have h1 := putF_len g u (putF k x [])
  have h2 := putF_len k x []
  have h3 : ([] : List (Str × V)).length = 0 := rfl
  omega
theorem putF_lt4 (f g k l : Str) (v u x y : V) : (putF f v (putF g u (putF k x (putF l y [])))).length < 1000 := by
  have h0 := putF_len f v (putF g u (putF k x (putF l y [])))
  have h1 := putF_len g u (putF k x (putF l y []))
  have h2 := putF_len k x (putF l y [])
  have h4 := putF_len l y []
  have h3 : ([] : List (Str × V)).length = 0 := rfl
  omega
def Sv.cls : Sv → Str
  | .lane .. => "Lane"
  | .avenue .. => "Avenue"
  | .road .. => "Road"
def Sv.fs : Sv → List (Str × V)
  | .lane t a b => lf t a b
  | .avenue t a b => af t a b
  | .road t a b i j => rf t a b i j
/-- the street v stands at x -/
def StAt (K : PySem.W.Frag) (H : Hp) (x : Addr) (v : Sv) : Prop := ∃ dx, H x = some (.ins (He.ga K v.cls) dx v.fs)
def strLt (a b : Str) : Prop := a.cps.toList < b.cps.toList
instance (a b : Str) : Decidable (strLt a b) := inferInstanceAs (Decidable (a.cps.toList < b.cps.toList))
/-- the street of a kind with these ends, as they are passed -/
def mkAv (t a b : Str) : Sv := if strLt a b then .avenue t a b else .avenue t b a
def mkRd (t a b : Str) (i j : Int) : Sv := if strLt a b then .road t a b i j else .road t b a j i
def spInit (K : PySem.W.Frag) (cls : Str) (ps : List V → Option Sv) : Sp := fun vs H Q _ => ∃ (x dx : Addr) (r : List V) (v : Sv), vs = .ref x :: r ∧ r.length = (if cls = "Road" then 5 else 3) ∧ ps r = some v ∧ H x = some (.ins (He.ga K cls) dx []) ∧
  ∀ H' : Hp, But x H H' → H' x = some (.ins (He.ga K cls) dx v.fs) → Q .non H'
def okEnds (t a b : Str) : Bool := nameB t && (nameB a && (nameB b && !decide (a = b)))
theorem okEnds_iff {t a b : Str} (h : okEnds t a b = true) : nameB t = true ∧ nameB a = true ∧ nameB b = true ∧ a ≠ b := by
  unfold okEnds at h
  simp only [Bool.and_eq_true, Bool.not_eq_true', decide_eq_false_iff_not] at h
  exact ⟨h.1, h.2.1, h.2.2.1, h.2.2.2⟩
def pLane : List V → Option Sv
  | [.str t, .str a, .str b] => if okEnds t a b = true then some (.lane t a b) else none
  | _ => none
def spInitL (K : PySem.W.Frag) : Sp := fun vs H Q _ => ∃ (x dx : Addr) (t a b : Str), vs = [.ref x, .str t, .str a, .str b] ∧ okEnds t a b = true ∧ H x = some (.ins (He.ga K "Lane") dx []) ∧
  ∀ H' : Hp, But x H H' → H' x = some (.ins (He.ga K "Lane") dx (lf t a b)) → Q .non H'
theorem sc_Lane_init : FnScope ["self", "name", "start", "goal"] ["self", "name", "start", "goal"] (defScope s_Lane_init) := ⟨rfl, rfl, rfl, by decide +kernel, rfl, by decide +kernel, by decide +kernel⟩

theorem p_Lane_init (T : Tx K mg) : Prom P w K mg base 3 d_Lane_init ["self", "name", "start", "goal"] (spInitL K) := by
  obtain ⟨fd, F⟩ := f_Lane_init T
  obtain ⟨fdC, FC, GC, BC⟩ := p_check_street (P := P) (w := w) (base := base) T
  refine ⟨fd, F, F.ok sc_Lane_init (fun vs H Q E h => ?_) (fun cdv A outer s H vs Q E hr h => ?_), F.bindsN fun _ _ _ _ _ _ us hl => match us, hl with | [_, _, _, _], _ => rfl⟩
  · obtain ⟨x, dx, t, a, b, rfl, _⟩ := h
    rfl
  · obtain ⟨x, dx, t, a, b, rfl, ok, hx, k⟩ := h
    obtain ⟨o1, o2, o3, o4⟩ := okEnds_iff ok
    refine ⟨_, PSs.nox (pss_cons (ps_expr (pe_call GC (hr.mono (by decide)) rfl (g_check_street T) FC.kp BC .nil pass0 (pa_cons (pv 1) (pa_cons (pv 2) (pa_cons (pv 3) pa_nil)))))
      (pss_cons (ps_fld (pv 0) (pv 1) rfl)
      (pss_cons (ps_fld (pv 0) (pv 2) rfl)
      (pss_one (ps_fld (pv 0) (pv 3) rfl))))), ?_⟩
    refine ⟨_, rfl, _, rfl, _, rfl, t, a, b, rfl, o1, o2, o3, o4, fun H1 s1 => ?_⟩
    refine ⟨_, rfl, _, rfl, x, _, dx, _, rfl, s1 _ _ hx, c_Lane T, na_Lane_name T, (by show 0 < 1000; decide), ?_⟩
    refine ⟨_, rfl, _, rfl, x, _, dx, _, rfl, upd_same, c_Lane T, na_Lane_start T, (by show 1 < 1000; decide), ?_⟩
    rw [upd_upd]
    refine ⟨_, rfl, _, rfl, x, _, dx, _, rfl, upd_same, c_Lane T, na_Lane_goal T, (by show _ < 1000; exact putF_lt2 _ _ _ _), ?_⟩
    rw [upd_upd]
    exact k _ (fun c o n e => by rw [upd_ne n]; exact s1 _ _ e) upd_same
def spInitA (K : PySem.W.Frag) : Sp := fun vs H Q _ => ∃ (x dx : Addr) (t a b : Str), vs = [.ref x, .str t, .str a, .str b] ∧ okEnds t a b = true ∧ H x = some (.ins (He.ga K "Avenue") dx []) ∧
  ∀ H' : Hp, But x H H' → H' x = some (.ins (He.ga K "Avenue") dx (mkAv t a b).fs) → Q .non H'
theorem sc_Avenue_init : FnScope ["self", "name", "one", "other"] ["self", "name", "one", "other"] (defScope s_Avenue_init) := ⟨rfl, rfl, rfl, by decide +kernel, rfl, by decide +kernel, by decide +kernel⟩

theorem p_Avenue_init (T : Tx K mg) : Prom P w K mg base 3 d_Avenue_init ["self", "name", "one", "other"] (spInitA K) := by
  obtain ⟨fd, F⟩ := f_Avenue_init T
  obtain ⟨fdC, FC, GC, BC⟩ := p_check_street (P := P) (w := w) (base := base) T
  refine ⟨fd, F, F.ok sc_Avenue_init (fun vs H Q E h => ?_) (fun cdv A outer s H vs Q E hr h => ?_), F.bindsN fun _ _ _ _ _ _ us hl => match us, hl with | [_, _, _, _], _ => rfl⟩
  · obtain ⟨x, dx, t, a, b, rfl, _⟩ := h
    rfl
  · obtain ⟨x, dx, t, a, b, rfl, ok, hx, k⟩ := h
    obtain ⟨o1, o2, o3, o4⟩ := okEnds_iff ok
    refine ⟨_, PSs.nox (pss_cons (ps_expr (pe_call GC (hr.mono (by decide)) rfl (g_check_street T) FC.kp BC .nil pass0 (pa_cons (pv 1) (pa_cons (pv 2) (pa_cons (pv 3) pa_nil)))))
      (pss_cons (ps_fld (pv 0) (pv 1) rfl)
      (pss_cons (ps_fld (pv 0) (pe_ifExp (pt_cmpR op_lt_str (pv 2) (pv 3) (nomark _)) (pv 2) (pv 3)) rfl)
      (pss_one (ps_fld (pv 0) (pe_ifExp (pt_cmpR op_lt_str (pv 2) (pv 3) (nomark _)) (pv 3) (pv 2)) rfl))))), ?_⟩
    refine ⟨_, rfl, _, rfl, _, rfl, t, a, b, rfl, o1, o2, o3, o4, fun H1 s1 => ?_⟩
    refine ⟨_, rfl, _, rfl, x, _, dx, _, rfl, s1 _ _ hx, c_Avenue T, na_Avenue_name T, (by show 0 < 1000; decide), ?_⟩
    unfold mkAv at k
    by_cases h : strLt a b
    · rw [if_pos h] at k
      have e : decide (a.cps.toList < b.cps.toList) = true := decide_eq_true h
      refine ⟨_, rfl, _, rfl, _, _, rfl, rfl, _, rfl, ?_⟩
      rw [e]
      refine iteT ⟨_, rfl, _, rfl, x, _, dx, _, rfl, upd_same, c_Avenue T, na_Avenue_one T, (by show 1 < 1000; decide), ?_⟩
      rw [upd_upd]
      refine ⟨_, rfl, _, rfl, _, _, rfl, rfl, _, rfl, ?_⟩
      rw [e]
      refine iteT ⟨_, rfl, _, rfl, x, _, dx, _, rfl, upd_same, c_Avenue T, na_Avenue_other T, (by show _ < 1000; exact putF_lt2 _ _ _ _), ?_⟩
      rw [upd_upd]
      exact k _ (fun c o n e => by rw [upd_ne n]; exact s1 _ _ e) upd_same
    · rw [if_neg h] at k
      have e : decide (a.cps.toList < b.cps.toList) = false := decide_eq_false h
      refine ⟨_, rfl, _, rfl, _, _, rfl, rfl, _, rfl, ?_⟩
      rw [e]
      refine iteF ⟨_, rfl, _, rfl, x, _, dx, _, rfl, upd_same, c_Avenue T, na_Avenue_one T, (by show 1 < 1000; decide), ?_⟩
      rw [upd_upd]
      refine ⟨_, rfl, _, rfl, _, _, rfl, rfl, _, rfl, ?_⟩
      rw [e]
      refine iteF ⟨_, rfl, _, rfl, x, _, dx, _, rfl, upd_same, c_Avenue T, na_Avenue_other T, (by show _ < 1000; exact putF_lt2 _ _ _ _), ?_⟩
      rw [upd_upd]
      exact k _ (fun c o n e => by rw [upd_ne n]; exact s1 _ _ e) upd_same
def spInitR (K : PySem.W.Frag) : Sp := fun vs H Q _ => ∃ (x dx : Addr) (t a b : Str) (i j : Int), vs = [.ref x, .str t, .str a, .str b, .int i, .int j] ∧ okEnds t a b = true ∧ priceOk i ∧ priceOk j ∧ H x = some (.ins (He.ga K "Road") dx []) ∧
  ∀ H' : Hp, But x H H' → H' x = some (.ins (He.ga K "Road") dx (mkRd t a b i j).fs) → Q .non H'
theorem sc_Road_init : FnScope ["self", "name", "one", "other", "there", "back"] ["self", "name", "one", "other", "there", "back"] (defScope s_Road_init) := ⟨rfl, rfl, rfl, by decide +kernel, rfl, by decide +kernel, by decide +kernel⟩

theorem p_Road_init (T : Tx K mg) : ∃ fd, Fd K d_Road_init fd ∧ FnOk P w K mg base CX0 4 (d_Road_init.adr K) fd ["self", "name", "one", "other", "there", "back"] (spInitR K) := by
  obtain ⟨fd, F⟩ := f_Road_init T
  obtain ⟨fdC, FC, GC, BC⟩ := p_check_street (P := P) (w := w) (base := base) T
  obtain ⟨fdQ, FQ, GQ, BQ⟩ := p_check_prices (P := P) (w := w) (base := base) T
  refine ⟨fd, F, F.ok sc_Road_init (fun vs H Q E h => ?_) (fun cdv A outer s H vs Q E hr h => ?_)⟩
  · obtain ⟨x, dx, t, a, b, i, j, rfl, _⟩ := h
    rfl
  · obtain ⟨x, dx, t, a, b, i, j, rfl, ok, hi, hj, hx, k⟩ := h
    obtain ⟨o1, o2, o3, o4⟩ := okEnds_iff ok
    refine ⟨_, PSs.nox (pss_cons (ps_expr (pe_call GC (hr.mono (by decide)) rfl (g_check_street T) FC.kp BC .nil pass0 (pa_cons (pv 1) (pa_cons (pv 2) (pa_cons (pv 3) pa_nil)))))
      (pss_cons (ps_expr (pe_call GQ (hr.mono (by decide)) rfl (g_check_prices T) FQ.kp BQ .nil pass0 (pa_cons (pv 4) (pa_cons (pv 5) pa_nil))))
      (pss_cons (ps_fld (pv 0) (pv 1) rfl)
      (pss_cons (ps_fld (pv 0) (pe_ifExp (pt_cmpR op_lt_str (pv 2) (pv 3) (nomark _)) (pv 2) (pv 3)) rfl)
      (pss_cons (ps_fld (pv 0) (pe_ifExp (pt_cmpR op_lt_str (pv 2) (pv 3) (nomark _)) (pv 3) (pv 2)) rfl)
      (pss_cons (ps_fld (pv 0) (pe_ifExp (pt_cmpR op_lt_str (pv 2) (pv 3) (nomark _)) (pv 4) (pv 5)) rfl)
      (pss_one (ps_fld (pv 0) (pe_ifExp (pt_cmpR op_lt_str (pv 2) (pv 3) (nomark _)) (pv 5) (pv 4)) rfl)))))))), ?_⟩
    refine ⟨_, rfl, _, rfl, _, rfl, t, a, b, rfl, o1, o2, o3, o4, fun H1 s1 => ?_⟩
    refine ⟨_, rfl, _, rfl, i, j, rfl, hi, hj, fun H2 s2 => ?_⟩
    have s12 := s1.trans s2
    refine ⟨_, rfl, _, rfl, x, _, dx, _, rfl, s12 _ _ hx, c_Road T, na_Road_name T, (by show 0 < 1000; decide), ?_⟩
    unfold mkRd at k
    by_cases h : strLt a b
    · rw [if_pos h] at k
      have e : decide (a.cps.toList < b.cps.toList) = true := decide_eq_true h
      refine ⟨_, rfl, _, rfl, _, _, rfl, rfl, _, rfl, ?_⟩
      rw [e]
      refine iteT ⟨_, rfl, _, rfl, x, _, dx, _, rfl, upd_same, c_Road T, na_Road_one T, (by show _ < 1000; exact putF_lt1 _ _), ?_⟩
      rw [upd_upd]
      refine ⟨_, rfl, _, rfl, _, _, rfl, rfl, _, rfl, ?_⟩
      rw [e]
      refine iteT ⟨_, rfl, _, rfl, x, _, dx, _, rfl, upd_same, c_Road T, na_Road_other T, (by show _ < 1000; exact putF_lt2 _ _ _ _), ?_⟩
      rw [upd_upd]
      refine ⟨_, rfl, _, rfl, _, _, rfl, rfl, _, rfl, ?_⟩
      rw [e]
      refine iteT ⟨_, rfl, _, rfl, x, _, dx, _, rfl, upd_same, c_Road T, na_Road_there T, (by show _ < 1000; exact putF_lt3 _ _ _ _ _ _), ?_⟩
      rw [upd_upd]
      refine ⟨_, rfl, _, rfl, _, _, rfl, rfl, _, rfl, ?_⟩
      rw [e]
      refine iteT ⟨_, rfl, _, rfl, x, _, dx, _, rfl, upd_same, c_Road T, na_Road_back T, (by show _ < 1000; exact putF_lt4 _ _ _ _ _ _ _ _), ?_⟩
      rw [upd_upd]
      exact k _ (fun c o n e => by rw [upd_ne n]; exact s12 _ _ e) upd_same
    · rw [if_neg h] at k
      have e : decide (a.cps.toList < b.cps.toList) = false := decide_eq_false h
      refine ⟨_, rfl, _, rfl, _, _, rfl, rfl, _, rfl, ?_⟩
      rw [e]
      refine iteF ⟨_, rfl, _, rfl, x, _, dx, _, rfl, upd_same, c_Road T, na_Road_one T, (by show _ < 1000; exact putF_lt1 _ _), ?_⟩
      rw [upd_upd]
      refine ⟨_, rfl, _, rfl, _, _, rfl, rfl, _, rfl, ?_⟩
      rw [e]
      refine iteF ⟨_, rfl, _, rfl, x, _, dx, _, rfl, upd_same, c_Road T, na_Road_other T, (by show _ < 1000; exact putF_lt2 _ _ _ _), ?_⟩
      rw [upd_upd]
      refine ⟨_, rfl, _, rfl, _, _, rfl, rfl, _, rfl, ?_⟩
      rw [e]
      refine iteF ⟨_, rfl, _, rfl, x, _, dx, _, rfl, upd_same, c_Road T, na_Road_there T, (by show _ < 1000; exact putF_lt3 _ _ _ _ _ _), ?_⟩
      rw [upd_upd]
      refine ⟨_, rfl, _, rfl, _, _, rfl, rfl, _, rfl, ?_⟩
      rw [e]
      refine iteF ⟨_, rfl, _, rfl, x, _, dx, _, rfl, upd_same, c_Road T, na_Road_back T, (by show _ < 1000; exact putF_lt4 _ _ _ _ _ _ _ _), ?_⟩
      rw [upd_upd]
      exact k _ (fun c o n e => by rw [upd_ne n]; exact s12 _ _ e) upd_same
end
end K05
namespace K05
open PySem PySem.Spec PyProof.Rows L2 Hx Gx Nx
section
variable {P : Program} {w : World} {K : PySem.W.Frag} {mg : Str → Option Value} {base : Heap}

def tyNames : List String := ["NoneType", "bool", "int", "str", "list", "tuple", "dict"]
/-- what stands on the right: a street, or a thing of a built-in kind -/
def YSt (K : PySem.W.Frag) (H : Hp) (y : V) : Option Sv → Prop
  | some v => ∃ a, y = .ref a ∧ StAt K H a v
  | none => ∃ t : String, TyX K H y (.type t) ∧ t ∈ tyNames
theorem kit_Lane (T : Tx K mg) {t : String} (h : t ∈ tyNames) : PySem.W.kitOne K (.type t) (.ref (He.ga K "Lane")) = some false := by
  unfold tyNames at h
  simp only [List.mem_cons, List.not_mem_nil, or_false] at h
  rcases h with rfl | rfl | rfl | rfl | rfl | rfl | rfl
  · exact k_NoneType_Lane T
  · exact k_bool_Lane T
  · exact k_int_Lane T
  · exact k_str_Lane T
  · exact k_list_Lane T
  · exact k_tuple_Lane T
  · exact k_dict_Lane T
theorem nfs_Lane (T : Tx K mg) {t : String} (h : t ∈ tyNames) : PySem.W.notFirst K (He.ga K "Lane") (.type t) = true := by
  unfold tyNames at h
  simp only [List.mem_cons, List.not_mem_nil, or_false] at h
  rcases h with rfl | rfl | rfl | rfl | rfl | rfl | rfl
  · exact nf_Lane_NoneType T
  · exact nf_Lane_bool T
  · exact nf_Lane_int T
  · exact nf_Lane_str T
  · exact nf_Lane_list T
  · exact nf_Lane_tuple T
  · exact nf_Lane_dict T
theorem kit_Avenue (T : Tx K mg) {t : String} (h : t ∈ tyNames) : PySem.W.kitOne K (.type t) (.ref (He.ga K "Avenue")) = some false := by
  unfold tyNames at h
  simp only [List.mem_cons, List.not_mem_nil, or_false] at h
  rcases h with rfl | rfl | rfl | rfl | rfl | rfl | rfl
  · exact k_NoneType_Avenue T
  · exact k_bool_Avenue T
  · exact k_int_Avenue T
  · exact k_str_Avenue T
  · exact k_list_Avenue T
  · exact k_tuple_Avenue T
  · exact k_dict_Avenue T
theorem nfs_Avenue (T : Tx K mg) {t : String} (h : t ∈ tyNames) : PySem.W.notFirst K (He.ga K "Avenue") (.type t) = true := by
  unfold tyNames at h
  simp only [List.mem_cons, List.not_mem_nil, or_false] at h
  rcases h with rfl | rfl | rfl | rfl | rfl | rfl | rfl
  · exact nf_Avenue_NoneType T
  · exact nf_Avenue_bool T
  · exact nf_Avenue_int T
  · exact nf_Avenue_str T
  · exact nf_Avenue_list T
  · exact nf_Avenue_tuple T
  · exact nf_Avenue_dict T
theorem kit_Road (T : Tx K mg) {t : String} (h : t ∈ tyNames) : PySem.W.kitOne K (.type t) (.ref (He.ga K "Road")) = some false := by
  unfold tyNames at h
  simp only [List.mem_cons, List.not_mem_nil, or_false] at h
  rcases h with rfl | rfl | rfl | rfl | rfl | rfl | rfl
  · exact k_NoneType_Road T
  · exact k_bool_Road T
  · exact k_int_Road T
  · exact k_str_Road T
  · exact k_list_Road T
  · exact k_tuple_Road T
  · exact k_dict_Road T
theorem nfs_Road (T : Tx K mg) {t : String} (h : t ∈ tyNames) : PySem.W.notFirst K (He.ga K "Road") (.type t) = true := by
  unfold tyNames at h
  simp only [List.mem_cons, List.not_mem_nil, or_false] at h
  rcases h with rfl | rfl | rfl | rfl | rfl | rfl | rfl
  · exact nf_Road_NoneType T
  · exact nf_Road_bool T
  · exact nf_Road_int T
  · exact nf_Road_str T
  · exact nf_Road_list T
  · exact nf_Road_tuple T
  · exact nf_Road_dict T

theorem tyx_st (T : Tx K mg) {H : Hp} {a : Addr} {v : Sv} (h : StAt K H a v) : TyX K H (.ref a) (.ref (He.ga K v.cls)) := by
  obtain ⟨dx, h⟩ := h
  cases v with
  | lane => exact .base (.ins h (c_Lane T) (ci_Lane T).ca (ci_Lane T).cn (ci_Lane T).ct (ci_Lane T).cm)
  | avenue => exact .base (.ins h (c_Avenue T) (ci_Avenue T).ca (ci_Avenue T).cn (ci_Avenue T).ct (ci_Avenue T).cm)
  | road => exact .base (.ins h (c_Road T) (ci_Road T).ca (ci_Road T).cn (ci_Road T).ct (ci_Road T).cm)
def spEq (K : PySem.W.Frag) (c : Str) : Sp := fun vs H Q _ => ∃ (x : Addr) (y : V) (v : Sv) (o : Option Sv), vs = [.ref x, y] ∧ v.cls = c ∧ StAt K H x v ∧ YSt K H y o ∧ Q (.bl (decide (o = some v))) H
theorem sc_Lane_eq : FnScope ["self", "other"] ["self", "other"] (defScope s_Lane_eq) := ⟨rfl, rfl, rfl, by decide +kernel, rfl, by decide +kernel, by decide +kernel⟩
theorem p_Lane_eq (T : Tx K mg) : Prom P w K mg base 1 d_Lane_eq ["self", "other"] (spEq K "Lane") := by
  obtain ⟨fd, F⟩ := f_Lane_eq T
  refine ⟨fd, F, F.ok sc_Lane_eq (fun vs H Q E h => ?_) (fun cdv A outer s H vs Q E hr h => ?_), F.bindsN fun _ _ _ _ _ _ us hl => match us, hl with | [_, _], _ => rfl⟩
  · obtain ⟨x, y, v, o, rfl, _⟩ := h
    rfl
  · obtain ⟨x, y, v, o, rfl, hv, hx, hy, k⟩ := h
    refine ⟨_, PSs.nox (pss_one (ps_ret (pe_and (pe_callB call_isi (by rfl) (n_isinstance T) (by decide +kernel) (pa_cons (pv 1) (pa_cons (pe_glob (v := .ref (He.ga K "Lane")) rfl (g_Lane T) rfl) pa_nil))) (pe_and (pe_cmpR op_eq (pe_fld (pv 0) rfl) (pe_fld (pv 1) rfl) (nomark _)) (pe_and (pe_cmpR op_eq (pe_fld (pv 0) rfl) (pe_fld (pv 1) rfl) (nomark _)) (pe_one (pe_cmpR op_eq (pe_fld (pv 0) rfl) (pe_fld (pv 1) rfl) (nomark _)))))))), ?_⟩
    cases v with
    | avenue => exact absurd (show ("Avenue" : Str) = "Lane" from hv) (by decide +kernel)
    | road => exact absurd (show ("Road" : Str) = "Lane" from hv) (by decide +kernel)
    | lane t a b =>
      obtain ⟨dx, hx⟩ := hx
      cases o with
      | none =>
        obtain ⟨ty, hT, hm⟩ := hy
        exact ⟨_, rfl, _, _, _, _, false, rfl, .own _, hT, kit_Lane T hm, _, rfl, k⟩
      | some v2 =>
        obtain ⟨y, rfl, hy⟩ := hy
        cases v2 with
        | lane t2 a2 b2 =>
          have ht := tyx_st T hy
          obtain ⟨dy, hy⟩ := hy
          refine ⟨_, rfl, _, _, _, _, true, rfl, .own _, ht, k_Lane_Lane T, _, rfl, ?_⟩
          have e0 : decide (V.str t = V.str t2) = decide (t = t2) := by simp
          refine ⟨_, rfl, x, _, dx, _, _, rfl, hx, c_Lane T, na_Lane_name T, lf_name _ _ _, _, rfl, y, _, dy, _, _, rfl, hy, c_Lane T, na_Lane_name T, lf_name _ _ _, rfl, _, rfl, ?_⟩
          rw [e0]
          by_cases h0 : t = t2
          rotate_left
          · rw [decide_eq_false h0]
            refine iteF ?_
            have z : decide (some (Sv.lane t2 a2 b2) = some (Sv.lane t a b)) = false := decide_eq_false fun u => h0 (by cases u; rfl)
            rw [z] at k
            exact k
          rw [decide_eq_true h0]
          refine iteT ?_
          have e1 : decide (V.str a = V.str a2) = decide (a = a2) := by simp
          refine ⟨_, rfl, x, _, dx, _, _, rfl, hx, c_Lane T, na_Lane_start T, lf_start _ _ _, _, rfl, y, _, dy, _, _, rfl, hy, c_Lane T, na_Lane_start T, lf_start _ _ _, rfl, _, rfl, ?_⟩
          rw [e1]
          by_cases h1 : a = a2
          rotate_left
          · rw [decide_eq_false h1]
            refine iteF ?_
            have z : decide (some (Sv.lane t2 a2 b2) = some (Sv.lane t a b)) = false := decide_eq_false fun u => h1 (by cases u; rfl)
            rw [z] at k
            exact k
          rw [decide_eq_true h1]
          refine iteT ?_
          have e2 : decide (V.str b = V.str b2) = decide (b = b2) := by simp
          refine ⟨_, rfl, x, _, dx, _, _, rfl, hx, c_Lane T, na_Lane_goal T, lf_goal _ _ _, _, rfl, y, _, dy, _, _, rfl, hy, c_Lane T, na_Lane_goal T, lf_goal _ _ _, rfl, ?_⟩
          show Q (.bl (decide (V.str b = V.str b2))) H
          rw [e2]
          have z : decide (some (Sv.lane t2 a2 b2) = some (Sv.lane t a b)) = decide (b = b2) := by
            subst h0 h1
            by_cases u : b = b2
            · subst u
              simp
            · rw [decide_eq_false u]
              exact decide_eq_false fun w => u (by cases w; rfl)
          rw [z] at k
          exact k
        | avenue t2 a2 b2 =>
          have ht := tyx_st T hy
          obtain ⟨dy, hy⟩ := hy
          exact ⟨_, rfl, _, _, _, _, false, rfl, .own _, ht, k_Avenue_Lane T, _, rfl, k⟩
        | road t2 a2 b2 i2 j2 =>
          have ht := tyx_st T hy
          obtain ⟨dy, hy⟩ := hy
          exact ⟨_, rfl, _, _, _, _, false, rfl, .own _, ht, k_Road_Lane T, _, rfl, k⟩
theorem sc_Avenue_eq : FnScope ["self", "other"] ["self", "other"] (defScope s_Avenue_eq) := ⟨rfl, rfl, rfl, by decide +kernel, rfl, by decide +kernel, by decide +kernel⟩
theorem p_Avenue_eq (T : Tx K mg) : Prom P w K mg base 1 d_Avenue_eq ["self", "other"] (spEq K "Avenue") := by
  obtain ⟨fd, F⟩ := f_Avenue_eq T
  refine ⟨fd, F, F.ok sc_Avenue_eq (fun vs H Q E h => ?_) (fun cdv A outer s H vs Q E hr h => ?_), F.bindsN fun _ _ _ _ _ _ us hl => match us, hl with | [_, _], _ => rfl⟩
  · obtain ⟨x, y, v, o, rfl, _⟩ := h
    rfl
  · obtain ⟨x, y, v, o, rfl, hv, hx, hy, k⟩ := h
    refine ⟨_, PSs.nox (pss_one (ps_ret (pe_and (pe_callB call_isi (by rfl) (n_isinstance T) (by decide +kernel) (pa_cons (pv 1) (pa_cons (pe_glob (v := .ref (He.ga K "Avenue")) rfl (g_Avenue T) rfl) pa_nil))) (pe_and (pe_cmpR op_eq (pe_fld (pv 0) rfl) (pe_fld (pv 1) rfl) (nomark _)) (pe_and (pe_cmpR op_eq (pe_fld (pv 0) rfl) (pe_fld (pv 1) rfl) (nomark _)) (pe_one (pe_cmpR op_eq (pe_fld (pv 0) rfl) (pe_fld (pv 1) rfl) (nomark _)))))))), ?_⟩
    cases v with
    | lane => exact absurd (show ("Lane" : Str) = "Avenue" from hv) (by decide +kernel)
    | road => exact absurd (show ("Road" : Str) = "Avenue" from hv) (by decide +kernel)
    | avenue t a b =>
      obtain ⟨dx, hx⟩ := hx
      cases o with
      | none =>
        obtain ⟨ty, hT, hm⟩ := hy
        exact ⟨_, rfl, _, _, _, _, false, rfl, .own _, hT, kit_Avenue T hm, _, rfl, k⟩
      | some v2 =>
        obtain ⟨y, rfl, hy⟩ := hy
        cases v2 with
        | lane t2 a2 b2 =>
          have ht := tyx_st T hy
          obtain ⟨dy, hy⟩ := hy
          exact ⟨_, rfl, _, _, _, _, false, rfl, .own _, ht, k_Lane_Avenue T, _, rfl, k⟩
        | avenue t2 a2 b2 =>
          have ht := tyx_st T hy
          obtain ⟨dy, hy⟩ := hy
          refine ⟨_, rfl, _, _, _, _, true, rfl, .own _, ht, k_Avenue_Avenue T, _, rfl, ?_⟩
          have e0 : decide (V.str t = V.str t2) = decide (t = t2) := by simp
          refine ⟨_, rfl, x, _, dx, _, _, rfl, hx, c_Avenue T, na_Avenue_name T, af_name _ _ _, _, rfl, y, _, dy, _, _, rfl, hy, c_Avenue T, na_Avenue_name T, af_name _ _ _, rfl, _, rfl, ?_⟩
          rw [e0]
          by_cases h0 : t = t2
          rotate_left
          · rw [decide_eq_false h0]
            refine iteF ?_
            have z : decide (some (Sv.avenue t2 a2 b2) = some (Sv.avenue t a b)) = false := decide_eq_false fun u => h0 (by cases u; rfl)
            rw [z] at k
            exact k
          rw [decide_eq_true h0]
          refine iteT ?_
          have e1 : decide (V.str a = V.str a2) = decide (a = a2) := by simp
          refine ⟨_, rfl, x, _, dx, _, _, rfl, hx, c_Avenue T, na_Avenue_one T, af_one _ _ _, _, rfl, y, _, dy, _, _, rfl, hy, c_Avenue T, na_Avenue_one T, af_one _ _ _, rfl, _, rfl, ?_⟩
          rw [e1]
          by_cases h1 : a = a2
          rotate_left
          · rw [decide_eq_false h1]
            refine iteF ?_
            have z : decide (some (Sv.avenue t2 a2 b2) = some (Sv.avenue t a b)) = false := decide_eq_false fun u => h1 (by cases u; rfl)
            rw [z] at k
            exact k
          rw [decide_eq_true h1]
          refine iteT ?_
          have e2 : decide (V.str b = V.str b2) = decide (b = b2) := by simp
          refine ⟨_, rfl, x, _, dx, _, _, rfl, hx, c_Avenue T, na_Avenue_other T, af_other _ _ _, _, rfl, y, _, dy, _, _, rfl, hy, c_Avenue T, na_Avenue_other T, af_other _ _ _, rfl, ?_⟩
          show Q (.bl (decide (V.str b = V.str b2))) H
          rw [e2]
          have z : decide (some (Sv.avenue t2 a2 b2) = some (Sv.avenue t a b)) = decide (b = b2) := by
            subst h0 h1
            by_cases u : b = b2
            · subst u
              simp
            · rw [decide_eq_false u]
              exact decide_eq_false fun w => u (by cases w; rfl)
          rw [z] at k
          exact k
        | road t2 a2 b2 i2 j2 =>
          have ht := tyx_st T hy
          obtain ⟨dy, hy⟩ := hy
          exact ⟨_, rfl, _, _, _, _, false, rfl, .own _, ht, k_Road_Avenue T, _, rfl, k⟩
theorem sc_Road_eq : FnScope ["self", "other"] ["self", "other"] (defScope s_Road_eq) := ⟨rfl, rfl, rfl, by decide +kernel, rfl, by decide +kernel, by decide +kernel⟩
theorem p_Road_eq (T : Tx K mg) : Prom P w K mg base 1 d_Road_eq ["self", "other"] (spEq K "Road") := by
  obtain ⟨fd, F⟩ := f_Road_eq T
  refine ⟨fd, F, F.ok sc_Road_eq (fun vs H Q E h => ?_) (fun cdv A outer s H vs Q E hr h => ?_), F.bindsN fun _ _ _ _ _ _ us hl => match us, hl with | [_, _], _ => rfl⟩
  · obtain ⟨x, y, v, o, rfl, _⟩ := h
    rfl
  · obtain ⟨x, y, v, o, rfl, hv, hx, hy, k⟩ := h
    refine ⟨_, PSs.nox (pss_one (ps_ret (pe_and (pe_callB call_isi (by rfl) (n_isinstance T) (by decide +kernel) (pa_cons (pv 1) (pa_cons (pe_glob (v := .ref (He.ga K "Road")) rfl (g_Road T) rfl) pa_nil))) (pe_and (pe_cmpR op_eq (pe_fld (pv 0) rfl) (pe_fld (pv 1) rfl) (nomark _)) (pe_and (pe_cmpR op_eq (pe_fld (pv 0) rfl) (pe_fld (pv 1) rfl) (nomark _)) (pe_and (pe_cmpR op_eq (pe_fld (pv 0) rfl) (pe_fld (pv 1) rfl) (nomark _)) (pe_and (pe_cmpR op_eq (pe_fld (pv 0) rfl) (pe_fld (pv 1) rfl) (nomark _)) (pe_one (pe_cmpR op_eq (pe_fld (pv 0) rfl) (pe_fld (pv 1) rfl) (nomark _)))))))))), ?_⟩
    cases v with
    | lane => exact absurd (show ("Lane" : Str) = "Road" from hv) (by decide +kernel)
    | avenue => exact absurd (show ("Avenue" : Str) = "Road" from hv) (by decide +kernel)
    | road t a b i j =>
      obtain ⟨dx, hx⟩ := hx
      cases o with
      | none =>
        obtain ⟨ty, hT, hm⟩ := hy
        exact ⟨_, rfl, _, _, _, _, false, rfl, .own _, hT, kit_Road T hm, _, rfl, k⟩
      | some v2 =>
        obtain ⟨y, rfl, hy⟩ := hy
        cases v2 with
        | lane t2 a2 b2 =>
          have ht := tyx_st T hy
          obtain ⟨dy, hy⟩ := hy
          exact ⟨_, rfl, _, _, _, _, false, rfl, .own _, ht, k_Lane_Road T, _, rfl, k⟩
        | avenue t2 a2 b2 =>
          have ht := tyx_st T hy
          obtain ⟨dy, hy⟩ := hy
          exact ⟨_, rfl, _, _, _, _, false, rfl, .own _, ht, k_Avenue_Road T, _, rfl, k⟩
        | road t2 a2 b2 i2 j2 =>
          have ht := tyx_st T hy
          obtain ⟨dy, hy⟩ := hy
          refine ⟨_, rfl, _, _, _, _, true, rfl, .own _, ht, k_Road_Road T, _, rfl, ?_⟩
          have e0 : decide (V.str t = V.str t2) = decide (t = t2) := by simp
          refine ⟨_, rfl, x, _, dx, _, _, rfl, hx, c_Road T, na_Road_name T, rf_name _ _ _ _ _, _, rfl, y, _, dy, _, _, rfl, hy, c_Road T, na_Road_name T, rf_name _ _ _ _ _, rfl, _, rfl, ?_⟩
          rw [e0]
          by_cases h0 : t = t2
          rotate_left
          · rw [decide_eq_false h0]
            refine iteF ?_
            have z : decide (some (Sv.road t2 a2 b2 i2 j2) = some (Sv.road t a b i j)) = false := decide_eq_false fun u => h0 (by cases u; rfl)
            rw [z] at k
            exact k
          rw [decide_eq_true h0]
          refine iteT ?_
          have e1 : decide (V.str a = V.str a2) = decide (a = a2) := by simp
          refine ⟨_, rfl, x, _, dx, _, _, rfl, hx, c_Road T, na_Road_one T, rf_one _ _ _ _ _, _, rfl, y, _, dy, _, _, rfl, hy, c_Road T, na_Road_one T, rf_one _ _ _ _ _, rfl, _, rfl, ?_⟩
          rw [e1]
          by_cases h1 : a = a2
          rotate_left
          · rw [decide_eq_false h1]
            refine iteF ?_
            have z : decide (some (Sv.road t2 a2 b2 i2 j2) = some (Sv.road t a b i j)) = false := decide_eq_false fun u => h1 (by cases u; rfl)
            rw [z] at k
            exact k
          rw [decide_eq_true h1]
          refine iteT ?_
          have e2 : decide (V.str b = V.str b2) = decide (b = b2) := by simp
          refine ⟨_, rfl, x, _, dx, _, _, rfl, hx, c_Road T, na_Road_other T, rf_other _ _ _ _ _, _, rfl, y, _, dy, _, _, rfl, hy, c_Road T, na_Road_other T, rf_other _ _ _ _ _, rfl, _, rfl, ?_⟩
          rw [e2]
          by_cases h2 : b = b2
          rotate_left
          · rw [decide_eq_false h2]
            refine iteF ?_
            have z : decide (some (Sv.road t2 a2 b2 i2 j2) = some (Sv.road t a b i j)) = false := decide_eq_false fun u => h2 (by cases u; rfl)
            rw [z] at k
            exact k
          rw [decide_eq_true h2]
          refine iteT ?_
          have e3 : decide (V.int i = V.int i2) = decide (i = i2) := by simp
          refine ⟨_, rfl, x, _, dx, _, _, rfl, hx, c_Road T, na_Road_there T, rf_there _ _ _ _ _, _, rfl, y, _, dy, _, _, rfl, hy, c_Road T, na_Road_there T, rf_there _ _ _ _ _, rfl, _, rfl, ?_⟩
          rw [e3]
          by_cases h3 : i = i2
          rotate_left
          · rw [decide_eq_false h3]
            refine iteF ?_
            have z : decide (some (Sv.road t2 a2 b2 i2 j2) = some (Sv.road t a b i j)) = false := decide_eq_false fun u => h3 (by cases u; rfl)
            rw [z] at k
            exact k
          rw [decide_eq_true h3]
          refine iteT ?_
          have e4 : decide (V.int j = V.int j2) = decide (j = j2) := by simp
          refine ⟨_, rfl, x, _, dx, _, _, rfl, hx, c_Road T, na_Road_back T, rf_back _ _ _ _ _, _, rfl, y, _, dy, _, _, rfl, hy, c_Road T, na_Road_back T, rf_back _ _ _ _ _, rfl, ?_⟩
          show Q (.bl (decide (V.int j = V.int j2))) H
          rw [e4]
          have z : decide (some (Sv.road t2 a2 b2 i2 j2) = some (Sv.road t a b i j)) = decide (j = j2) := by
            subst h0 h1 h2 h3
            by_cases u : j = j2
            · subst u
              simp
            · rw [decide_eq_false u]
              exact decide_eq_false fun w => u (by cases w; rfl)
          rw [z] at k
          exact k
end
end K05
namespace K05
open PySem PySem.Spec PyProof.Rows L2 Hx Gx Nx
section
variable {P : Program} {w : World} {K : PySem.W.Frag} {mg : Str → Option Value} {base : Heap}

/-- its names are names, its prices are prices -/
def WfSv : Sv → Prop
  | .lane t a b => nameB t = true ∧ nameB a = true ∧ nameB b = true
  | .avenue t a b => nameB t = true ∧ nameB a = true ∧ nameB b = true
  | .road t a b i j => nameB t = true ∧ nameB a = true ∧ nameB b = true ∧ priceOk i ∧ priceOk j
def numText (i : Int) : Str := Str.ofString (toString i)
def Sv.text : Sv → Str
  | .lane t a b => Str.empty ++ "lane " ++ t ++ " " ++ a ++ " " ++ b
  | .avenue t a b => Str.empty ++ "avenue " ++ t ++ " " ++ a ++ " " ++ b
  | .road t a b i j => Str.empty ++ "road " ++ t ++ " " ++ a ++ " " ++ b ++ " " ++ numText i ++ " " ++ numText j
theorem numText_len {i : Int} (h : priceOk i) : (numText i).length ≤ 41 ∧ i.natAbs.log2 < 1920 := by
  obtain ⟨h1, h2⟩ := h
  have z : i.natAbs < 2 ^ 40 := by omega
  have l : i.natAbs.log2 < 40 := by
    by_cases h0 : i.natAbs = 0
    · rw [h0]; decide
    · exact (Nat.log2_lt h0).mpr z
  refine ⟨?_, by omega⟩
  unfold numText
  rw [PySem.ofString_length]
  exact int_text_length_le (by decide) l
theorem name8 {x : Str} (h : nameB x = true) : x.length ≤ 8 := by
  unfold nameB at h
  rw [Bool.and_eq_true, Bool.and_eq_true] at h
  exact of_decide_eq_true h.1.2
def spStr (K : PySem.W.Frag) (c : Str) : Sp := fun vs H Q _ => ∃ (x : Addr) (v : Sv), vs = [.ref x] ∧ v.cls = c ∧ WfSv v ∧ StAt K H x v ∧ Q (.str v.text) H
theorem sc_Lane_str : FnScope ["self"] ["self"] (defScope s_Lane_str) := ⟨rfl, rfl, rfl, by decide +kernel, rfl, by decide +kernel, by decide +kernel⟩
theorem p_Lane_str (T : Tx K mg) : Prom P w K mg base 1 d_Lane_str ["self"] (spStr K "Lane") := by
  obtain ⟨fd, F⟩ := f_Lane_str T
  refine ⟨fd, F, F.ok sc_Lane_str (fun vs H Q E h => ?_) (fun cdv A outer s H vs Q E hr h => ?_), F.bindsN fun _ _ _ _ _ _ us hl => match us, hl with | [_], _ => rfl⟩
  · obtain ⟨x, v, rfl, _⟩ := h
    rfl
  · obtain ⟨x, v, rfl, hv, wf, hx, k⟩ := h
    refine ⟨_, PSs.nox (pss_one (ps_ret (pe_joined (PJ.cons pe_str (PJ.cons (pe_fmt (pe_fld (pv 0) rfl)) (PJ.cons pe_str (PJ.cons (pe_fmt (pe_fld (pv 0) rfl)) (PJ.cons pe_str (PJ.cons (pe_fmt (pe_fld (pv 0) rfl)) PJ.nil))))))))), ?_⟩
    cases v with
    | avenue => exact absurd (show ("Avenue" : Str) = "Lane" from hv) (by decide +kernel)
    | road => exact absurd (show ("Road" : Str) = "Lane" from hv) (by decide +kernel)
    | lane t a b =>
    obtain ⟨dx, hx⟩ := hx
    obtain ⟨w0, w1, w2⟩ := wf
    have l0 := name8 w0
    have l1 := name8 w1
    have l2 := name8 w2


    have sl : 1000 ≤ sizeLine := by decide
    have z0 : Str.empty.length = 0 := rfl
    have z1 : (Str.ofString "lane ").length ≤ 10 := by decide
    have z2 : (Str.ofString " ").length = 1 := by decide
    refine ⟨_, rfl, (by simp only [Str.length_append, numText] at *; omega), ?_⟩
    refine ⟨_, rfl, x, _, dx, _, _, rfl, hx, c_Lane T, na_Lane_name T, lf_name _ _ _, .inl ⟨_, rfl, nameB_len w0, _, rfl, (by simp only [Str.length_append, numText] at *; omega), ?_⟩⟩
    refine ⟨_, rfl, (by simp only [Str.length_append, numText] at *; omega), ?_⟩
    refine ⟨_, rfl, x, _, dx, _, _, rfl, hx, c_Lane T, na_Lane_start T, lf_start _ _ _, .inl ⟨_, rfl, nameB_len w1, _, rfl, (by simp only [Str.length_append, numText] at *; omega), ?_⟩⟩
    refine ⟨_, rfl, (by simp only [Str.length_append, numText] at *; omega), ?_⟩
    refine ⟨_, rfl, x, _, dx, _, _, rfl, hx, c_Lane T, na_Lane_goal T, lf_goal _ _ _, .inl ⟨_, rfl, nameB_len w2, _, rfl, (by simp only [Str.length_append, numText] at *; omega), ?_⟩⟩
    exact k
theorem sc_Avenue_str : FnScope ["self"] ["self"] (defScope s_Avenue_str) := ⟨rfl, rfl, rfl, by decide +kernel, rfl, by decide +kernel, by decide +kernel⟩
theorem p_Avenue_str (T : Tx K mg) : Prom P w K mg base 1 d_Avenue_str ["self"] (spStr K "Avenue") := by
  obtain ⟨fd, F⟩ := f_Avenue_str T
  refine ⟨fd, F, F.ok sc_Avenue_str (fun vs H Q E h => ?_) (fun cdv A outer s H vs Q E hr h => ?_), F.bindsN fun _ _ _ _ _ _ us hl => match us, hl with | [_], _ => rfl⟩
  · obtain ⟨x, v, rfl, _⟩ := h
    rfl
  · obtain ⟨x, v, rfl, hv, wf, hx, k⟩ := h
    refine ⟨_, PSs.nox (pss_one (ps_ret (pe_joined (PJ.cons pe_str (PJ.cons (pe_fmt (pe_fld (pv 0) rfl)) (PJ.cons pe_str (PJ.cons (pe_fmt (pe_fld (pv 0) rfl)) (PJ.cons pe_str (PJ.cons (pe_fmt (pe_fld (pv 0) rfl)) PJ.nil))))))))), ?_⟩
    cases v with
    | lane => exact absurd (show ("Lane" : Str) = "Avenue" from hv) (by decide +kernel)
    | road => exact absurd (show ("Road" : Str) = "Avenue" from hv) (by decide +kernel)
    | avenue t a b =>
    obtain ⟨dx, hx⟩ := hx
    obtain ⟨w0, w1, w2⟩ := wf
    have l0 := name8 w0
    have l1 := name8 w1
    have l2 := name8 w2


    have sl : 1000 ≤ sizeLine := by decide
    have z0 : Str.empty.length = 0 := rfl
    have z1 : (Str.ofString "avenue ").length ≤ 10 := by decide
    have z2 : (Str.ofString " ").length = 1 := by decide
    refine ⟨_, rfl, (by simp only [Str.length_append, numText] at *; omega), ?_⟩
    refine ⟨_, rfl, x, _, dx, _, _, rfl, hx, c_Avenue T, na_Avenue_name T, af_name _ _ _, .inl ⟨_, rfl, nameB_len w0, _, rfl, (by simp only [Str.length_append, numText] at *; omega), ?_⟩⟩
    refine ⟨_, rfl, (by simp only [Str.length_append, numText] at *; omega), ?_⟩
    refine ⟨_, rfl, x, _, dx, _, _, rfl, hx, c_Avenue T, na_Avenue_one T, af_one _ _ _, .inl ⟨_, rfl, nameB_len w1, _, rfl, (by simp only [Str.length_append, numText] at *; omega), ?_⟩⟩
    refine ⟨_, rfl, (by simp only [Str.length_append, numText] at *; omega), ?_⟩
    refine ⟨_, rfl, x, _, dx, _, _, rfl, hx, c_Avenue T, na_Avenue_other T, af_other _ _ _, .inl ⟨_, rfl, nameB_len w2, _, rfl, (by simp only [Str.length_append, numText] at *; omega), ?_⟩⟩
    exact k
theorem sc_Road_str : FnScope ["self"] ["self"] (defScope s_Road_str) := ⟨rfl, rfl, rfl, by decide +kernel, rfl, by decide +kernel, by decide +kernel⟩
theorem p_Road_str (T : Tx K mg) : Prom P w K mg base 1 d_Road_str ["self"] (spStr K "Road") := by
  obtain ⟨fd, F⟩ := f_Road_str T
  refine ⟨fd, F, F.ok sc_Road_str (fun vs H Q E h => ?_) (fun cdv A outer s H vs Q E hr h => ?_), F.bindsN fun _ _ _ _ _ _ us hl => match us, hl with | [_], _ => rfl⟩
  · obtain ⟨x, v, rfl, _⟩ := h
    rfl
  · obtain ⟨x, v, rfl, hv, wf, hx, k⟩ := h
    refine ⟨_, PSs.nox (pss_one (ps_ret (pe_joined (PJ.cons pe_str (PJ.cons (pe_fmt (pe_fld (pv 0) rfl)) (PJ.cons pe_str (PJ.cons (pe_fmt (pe_fld (pv 0) rfl)) (PJ.cons pe_str (PJ.cons (pe_fmt (pe_fld (pv 0) rfl)) (PJ.cons pe_str (PJ.cons (pe_fmt (pe_fld (pv 0) rfl)) (PJ.cons pe_str (PJ.cons (pe_fmt (pe_fld (pv 0) rfl)) PJ.nil))))))))))))), ?_⟩
    cases v with
    | lane => exact absurd (show ("Lane" : Str) = "Road" from hv) (by decide +kernel)
    | avenue => exact absurd (show ("Avenue" : Str) = "Road" from hv) (by decide +kernel)
    | road t a b i j =>
    obtain ⟨dx, hx⟩ := hx
    obtain ⟨w0, w1, w2, w3, w4⟩ := wf
    have l0 := name8 w0
    have l1 := name8 w1
    have l2 := name8 w2
    have l3 := (numText_len w3).1
    have l4 := (numText_len w4).1
    have sl : 1000 ≤ sizeLine := by decide
    have z0 : Str.empty.length = 0 := rfl
    have z1 : (Str.ofString "road ").length ≤ 10 := by decide
    have z2 : (Str.ofString " ").length = 1 := by decide
    refine ⟨_, rfl, (by simp only [Str.length_append, numText] at *; omega), ?_⟩
    refine ⟨_, rfl, x, _, dx, _, _, rfl, hx, c_Road T, na_Road_name T, rf_name _ _ _ _ _, .inl ⟨_, rfl, nameB_len w0, _, rfl, (by simp only [Str.length_append, numText] at *; omega), ?_⟩⟩
    refine ⟨_, rfl, (by simp only [Str.length_append, numText] at *; omega), ?_⟩
    refine ⟨_, rfl, x, _, dx, _, _, rfl, hx, c_Road T, na_Road_one T, rf_one _ _ _ _ _, .inl ⟨_, rfl, nameB_len w1, _, rfl, (by simp only [Str.length_append, numText] at *; omega), ?_⟩⟩
    refine ⟨_, rfl, (by simp only [Str.length_append, numText] at *; omega), ?_⟩
    refine ⟨_, rfl, x, _, dx, _, _, rfl, hx, c_Road T, na_Road_other T, rf_other _ _ _ _ _, .inl ⟨_, rfl, nameB_len w2, _, rfl, (by simp only [Str.length_append, numText] at *; omega), ?_⟩⟩
    refine ⟨_, rfl, (by simp only [Str.length_append, numText] at *; omega), ?_⟩
    refine ⟨_, rfl, x, _, dx, _, _, rfl, hx, c_Road T, na_Road_there T, rf_there _ _ _ _ _, .inr ⟨_, rfl, (numText_len w3).2, _, rfl, (by simp only [Str.length_append, numText] at *; omega), ?_⟩⟩
    refine ⟨_, rfl, (by simp only [Str.length_append, numText] at *; omega), ?_⟩
    refine ⟨_, rfl, x, _, dx, _, _, rfl, hx, c_Road T, na_Road_back T, rf_back _ _ _ _ _, .inr ⟨_, rfl, (numText_len w4).2, _, rfl, (by simp only [Str.length_append, numText] at *; omega), ?_⟩⟩
    exact k

def Sv.ends : Sv → Str × Str
  | .lane _ a b => if strLt a b then (a, b) else (b, a)
  | .avenue _ a b => (a, b)
  | .road _ a b _ _ => (a, b)
def spEnds (K : PySem.W.Frag) (c : Str) : Sp := fun vs H Q _ => ∃ (x : Addr) (v : Sv), vs = [.ref x] ∧ v.cls = c ∧ StAt K H x v ∧ ∀ t, H t = none → Q (.ref t) (upd H t (.tup [.str v.ends.1, .str v.ends.2]))
theorem sc_Lane_ends : FnScope ["self"] ["self"] (defScope s_Lane_ends) := ⟨rfl, rfl, rfl, by decide +kernel, rfl, by decide +kernel, by decide +kernel⟩
theorem p_Lane_ends (T : Tx K mg) : Prom P w K mg base 1 d_Lane_ends ["self"] (spEnds K "Lane") := by
  obtain ⟨fd, F⟩ := f_Lane_ends T
  refine ⟨fd, F, F.ok sc_Lane_ends (fun vs H Q E h => ?_) (fun cdv A outer s H vs Q E hr h => ?_), F.bindsN fun _ _ _ _ _ _ us hl => match us, hl with | [_], _ => rfl⟩
  · obtain ⟨x, v, rfl, _⟩ := h
    rfl
  · obtain ⟨x, v, rfl, hv, hx, k⟩ := h
    refine ⟨_, PSs.nox (pss_cons (ps_if (pt_cmpR op_lt_str (pe_fld (pv 0) rfl) (pe_fld (pv 0) rfl) (nomark _)) (pss_one (ps_ret (pe_tup (pa_cons (pe_fld (pv 0) rfl) (pa_cons (pe_fld (pv 0) rfl) pa_nil))))) pss_nil)
      (pss_one (ps_ret (pe_tup (pa_cons (pe_fld (pv 0) rfl) (pa_cons (pe_fld (pv 0) rfl) pa_nil)))))), ?_⟩
    cases v with
    | avenue => exact absurd (show ("Avenue" : Str) = "Lane" from hv) (by decide +kernel)
    | road => exact absurd (show ("Road" : Str) = "Lane" from hv) (by decide +kernel)
    | lane t a b =>
    obtain ⟨dx, hx⟩ := hx
    refine ⟨_, rfl, x, _, dx, _, _, rfl, hx, c_Lane T, na_Lane_start T, lf_start _ _ _, _, rfl, x, _, dx, _, _, rfl, hx, c_Lane T, na_Lane_goal T, lf_goal _ _ _, _, _, rfl, rfl, _, rfl, ?_⟩
    have e : (Sv.lane t a b).ends = if strLt a b then (a, b) else (b, a) := rfl
    rw [e] at k
    by_cases h : strLt a b
    · rw [if_pos h] at k
      have e : decide (a.cps.toList < b.cps.toList) = true := decide_eq_true h
      rw [e]
      exact iteT ⟨_, rfl, x, _, dx, _, _, rfl, hx, c_Lane T, na_Lane_start T, lf_start _ _ _, _, rfl, x, _, dx, _, _, rfl, hx, c_Lane T, na_Lane_goal T, lf_goal _ _ _, (by show 2 ≤ sizeLine; decide), k⟩
    · rw [if_neg h] at k
      have e : decide (a.cps.toList < b.cps.toList) = false := decide_eq_false h
      rw [e]
      exact iteF ⟨_, rfl, x, _, dx, _, _, rfl, hx, c_Lane T, na_Lane_goal T, lf_goal _ _ _, _, rfl, x, _, dx, _, _, rfl, hx, c_Lane T, na_Lane_start T, lf_start _ _ _, (by show 2 ≤ sizeLine; decide), k⟩
theorem sc_Avenue_ends : FnScope ["self"] ["self"] (defScope s_Avenue_ends) := ⟨rfl, rfl, rfl, by decide +kernel, rfl, by decide +kernel, by decide +kernel⟩
theorem p_Avenue_ends (T : Tx K mg) : Prom P w K mg base 1 d_Avenue_ends ["self"] (spEnds K "Avenue") := by
  obtain ⟨fd, F⟩ := f_Avenue_ends T
  refine ⟨fd, F, F.ok sc_Avenue_ends (fun vs H Q E h => ?_) (fun cdv A outer s H vs Q E hr h => ?_), F.bindsN fun _ _ _ _ _ _ us hl => match us, hl with | [_], _ => rfl⟩
  · obtain ⟨x, v, rfl, _⟩ := h
    rfl
  · obtain ⟨x, v, rfl, hv, hx, k⟩ := h
    refine ⟨_, PSs.nox (pss_one (ps_ret (pe_tup (pa_cons (pe_fld (pv 0) rfl) (pa_cons (pe_fld (pv 0) rfl) pa_nil))))), ?_⟩
    cases v with
    | lane => exact absurd (show ("Lane" : Str) = "Avenue" from hv) (by decide +kernel)
    | road => exact absurd (show ("Road" : Str) = "Avenue" from hv) (by decide +kernel)
    | avenue t a b =>
    obtain ⟨dx, hx⟩ := hx
    exact ⟨_, rfl, x, _, dx, _, _, rfl, hx, c_Avenue T, na_Avenue_one T, af_one _ _ _, _, rfl, x, _, dx, _, _, rfl, hx, c_Avenue T, na_Avenue_other T, af_other _ _ _, (by show 2 ≤ sizeLine; decide), k⟩
theorem sc_Road_ends : FnScope ["self"] ["self"] (defScope s_Road_ends) := ⟨rfl, rfl, rfl, by decide +kernel, rfl, by decide +kernel, by decide +kernel⟩
theorem p_Road_ends (T : Tx K mg) : Prom P w K mg base 1 d_Road_ends ["self"] (spEnds K "Road") := by
  obtain ⟨fd, F⟩ := f_Road_ends T
  refine ⟨fd, F, F.ok sc_Road_ends (fun vs H Q E h => ?_) (fun cdv A outer s H vs Q E hr h => ?_), F.bindsN fun _ _ _ _ _ _ us hl => match us, hl with | [_], _ => rfl⟩
  · obtain ⟨x, v, rfl, _⟩ := h
    rfl
  · obtain ⟨x, v, rfl, hv, hx, k⟩ := h
    refine ⟨_, PSs.nox (pss_one (ps_ret (pe_tup (pa_cons (pe_fld (pv 0) rfl) (pa_cons (pe_fld (pv 0) rfl) pa_nil))))), ?_⟩
    cases v with
    | lane => exact absurd (show ("Lane" : Str) = "Road" from hv) (by decide +kernel)
    | avenue => exact absurd (show ("Avenue" : Str) = "Road" from hv) (by decide +kernel)
    | road t a b i j =>
    obtain ⟨dx, hx⟩ := hx
    exact ⟨_, rfl, x, _, dx, _, _, rfl, hx, c_Road T, na_Road_one T, rf_one _ _ _ _ _, _, rfl, x, _, dx, _, _, rfl, hx, c_Road T, na_Road_other T, rf_other _ _ _ _ _, (by show 2 ≤ sizeLine; decide), k⟩
end
end K05
namespace K05
open PySem PySem.Spec PyProof.Rows L2 Hx Gx Nx
section
variable {X : Cx}
/-- street == anything -/
def rEqS (K : PySem.W.Frag) : R2 := fun x y H Q => ∃ (a : Addr) (v : Sv) (o : Option Sv), x = .ref a ∧ StAt K H a v ∧ YSt K H y o ∧ Q (.bl (decide (o = some v))) H
def rNeS (K : PySem.W.Frag) : R2 := fun x y H Q => ∃ (a : Addr) (v : Sv) (o : Option Sv), x = .ref a ∧ StAt K H a v ∧ YSt K H y o ∧ Q (.bl (!decide (o = some v))) H
theorem right_of (T : Tx X.K X.mg) {H : Hp} {y : V} {o : Option Sv} (h : YSt X.K H y o) : ∃ t, TyX X.K H y t ∧ PySem.W.notFirst X.K (He.ga X.K "Lane") t = true ∧ PySem.W.notFirst X.K (He.ga X.K "Avenue") t = true ∧ PySem.W.notFirst X.K (He.ga X.K "Road") t = true := by
  cases o with
  | none =>
    obtain ⟨t, h1, h2⟩ := h
    exact ⟨_, h1, nfs_Lane T h2, nfs_Avenue T h2, nfs_Road T h2⟩
  | some v =>
    obtain ⟨a, rfl, h⟩ := h
    refine ⟨_, tyx_st T h, ?_⟩
    cases v with
    | lane => exact ⟨nf_Lane_Lane T, nf_Avenue_Lane T, nf_Road_Lane T⟩
    | avenue => exact ⟨nf_Lane_Avenue T, nf_Avenue_Avenue T, nf_Road_Avenue T⟩
    | road => exact ⟨nf_Lane_Road T, nf_Avenue_Road T, nf_Road_Road T⟩
theorem op_eqS (T : Tx X.K X.mg) (hr : Room 1 X.A) : OpR X (compareOp .Eq) (rEqS X.K) := by
  rintro pins s σ H x y v u Q I rx ry ⟨a, sv, o, rfl, hx, hy, q⟩
  obtain ⟨t, ht, n1, n2, n3⟩ := right_of T hy
  cases sv with
  | lane =>
    obtain ⟨fd, F, G, B⟩ := p_Lane_eq (P := X.prog) (w := X.w) (base := X.base) T
    have hx' := hx
    obtain ⟨dx, hx⟩ := hx
    exact op_eqO (X := X) (C := He.ga X.K "Lane") ⟨(m_Lane_eq T).at_, (ci_Lane T).ne, (m_Lane_eq T).fn, (ci_Lane T).cm⟩ G B hr pass0 pins s σ H _ y v u Q I rx ry ⟨a, dx, _, t, rfl, hx, ht, n1, a, y, _, o, rfl, rfl, hx', hy, q⟩
  | avenue =>
    obtain ⟨fd, F, G, B⟩ := p_Avenue_eq (P := X.prog) (w := X.w) (base := X.base) T
    have hx' := hx
    obtain ⟨dx, hx⟩ := hx
    exact op_eqO (X := X) (C := He.ga X.K "Avenue") ⟨(m_Avenue_eq T).at_, (ci_Avenue T).ne, (m_Avenue_eq T).fn, (ci_Avenue T).cm⟩ G B hr pass0 pins s σ H _ y v u Q I rx ry ⟨a, dx, _, t, rfl, hx, ht, n2, a, y, _, o, rfl, rfl, hx', hy, q⟩
  | road =>
    obtain ⟨fd, F, G, B⟩ := p_Road_eq (P := X.prog) (w := X.w) (base := X.base) T
    have hx' := hx
    obtain ⟨dx, hx⟩ := hx
    exact op_eqO (X := X) (C := He.ga X.K "Road") ⟨(m_Road_eq T).at_, (ci_Road T).ne, (m_Road_eq T).fn, (ci_Road T).cm⟩ G B hr pass0 pins s σ H _ y v u Q I rx ry ⟨a, dx, _, t, rfl, hx, ht, n3, a, y, _, o, rfl, rfl, hx', hy, q⟩
theorem op_neS (T : Tx X.K X.mg) (hr : Room 2 X.A) : OpR X (compareOp .NotEq) (rNeS X.K) := by
  rintro pins s σ H x y v u Q I rx ry ⟨a, sv, o, rfl, hx, hy, q⟩
  obtain ⟨t, ht, n1, n2, n3⟩ := right_of T hy
  cases sv with
  | lane =>
    obtain ⟨fd, F, G, B⟩ := p_Lane_eq (P := X.prog) (w := X.w) (base := X.base) T
    have hx' := hx
    obtain ⟨dx, hx⟩ := hx
    exact op_neO (X := X) (C := He.ga X.K "Lane") ⟨(m_Lane_eq T).at_, (ci_Lane T).ne, (m_Lane_eq T).fn, (ci_Lane T).cm⟩ G B hr pass0 pins s σ H _ y v u Q I rx ry ⟨a, dx, _, t, rfl, hx, ht, n1, a, y, _, o, rfl, rfl, hx', hy, _, rfl, q⟩
  | avenue =>
    obtain ⟨fd, F, G, B⟩ := p_Avenue_eq (P := X.prog) (w := X.w) (base := X.base) T
    have hx' := hx
    obtain ⟨dx, hx⟩ := hx
    exact op_neO (X := X) (C := He.ga X.K "Avenue") ⟨(m_Avenue_eq T).at_, (ci_Avenue T).ne, (m_Avenue_eq T).fn, (ci_Avenue T).cm⟩ G B hr pass0 pins s σ H _ y v u Q I rx ry ⟨a, dx, _, t, rfl, hx, ht, n2, a, y, _, o, rfl, rfl, hx', hy, _, rfl, q⟩
  | road =>
    obtain ⟨fd, F, G, B⟩ := p_Road_eq (P := X.prog) (w := X.w) (base := X.base) T
    have hx' := hx
    obtain ⟨dx, hx⟩ := hx
    exact op_neO (X := X) (C := He.ga X.K "Road") ⟨(m_Road_eq T).at_, (ci_Road T).ne, (m_Road_eq T).fn, (ci_Road T).cm⟩ G B hr pass0 pins s σ H _ y v u Q I rx ry ⟨a, dx, _, t, rfl, hx, ht, n3, a, y, _, o, rfl, rfl, hx', hy, _, rfl, q⟩
/-- str(street) -/
def rStrS (K : PySem.W.Frag) : List V → Hp → VK → Prop := fun xs H Q => ∃ (a : Addr) (v : Sv), xs = [.ref a] ∧ StAt K H a v ∧ WfSv v ∧ Q (.str v.text) H
theorem call_strS (T : Tx X.K X.mg) (hr : Room 3 X.A) : CallR X (.type "str") (rStrS X.K) := by
  rintro pins s σ H xs us Q I r ⟨a, sv, rfl, hx, wf, q⟩
  cases sv with
  | lane =>
    obtain ⟨fd, F, G, B⟩ := p_Lane_str (P := X.prog) (w := X.w) (base := X.base) T
    have hx' := hx
    obtain ⟨dx, hx⟩ := hx
    exact call_strO (X := X) (C := He.ga X.K "Lane") (m_Lane_str T).at_ (m_Lane_str T).fn G B hr pass0 pins s σ H _ us Q I r ⟨a, dx, _, rfl, hx, a, _, rfl, rfl, wf, hx', _, rfl, q⟩
  | avenue =>
    obtain ⟨fd, F, G, B⟩ := p_Avenue_str (P := X.prog) (w := X.w) (base := X.base) T
    have hx' := hx
    obtain ⟨dx, hx⟩ := hx
    exact call_strO (X := X) (C := He.ga X.K "Avenue") (m_Avenue_str T).at_ (m_Avenue_str T).fn G B hr pass0 pins s σ H _ us Q I r ⟨a, dx, _, rfl, hx, a, _, rfl, rfl, wf, hx', _, rfl, q⟩
  | road =>
    obtain ⟨fd, F, G, B⟩ := p_Road_str (P := X.prog) (w := X.w) (base := X.base) T
    have hx' := hx
    obtain ⟨dx, hx⟩ := hx
    exact call_strO (X := X) (C := He.ga X.K "Road") (m_Road_str T).at_ (m_Road_str T).fn G B hr pass0 pins s σ H _ us Q I r ⟨a, dx, _, rfl, hx, a, _, rfl, rfl, wf, hx', _, rfl, q⟩
/-- street.ends, a property -/
def tEndsS (K : PySem.W.Frag) (ta : TE) : TE := fun σ H Q => ta σ H fun x H1 => ∃ (a : Addr) (v : Sv), x = .ref a ∧ StAt K H1 a v ∧ ∀ t, H1 t = none → Q (.ref t) (upd H1 t (.tup [.str v.ends.1, .str v.ends.2]))
theorem pe_endsS {e : Expr} {pos : Pos} {ta : TE} (T : Tx X.K X.mg) (hr : Room 2 X.A) (he : PE X e ta) (hab : attributeBase e "ends" X.env (eval e X.env) = eval e X.env := by rfl) : PE X (.Attribute e "ends" pos) (tEndsS X.K ta) := by
  refine ⟨fun pins s σ H Q I h => ?_⟩
  refine attr_of hab (thn (he.run pins s σ H _ I h) fun u s1 ⟨x, H1, I1, rx, a, v, ex, hx, q⟩ => ?_)
  subst ex
  obtain rfl : u = Value.ref a := rx
  cases v with
  | lane =>
    obtain ⟨fd, F, G, B⟩ := p_Lane_ends (P := X.prog) (w := X.w) (base := X.base) T
    have hx' := hx
    obtain ⟨dx, hx⟩ := hx
    exact getprop_ok I1 hx (c_Lane T) (pr_Lane_ends T) G hr B .nil pass0 ⟨a, _, rfl, rfl, hx', q⟩
  | avenue =>
    obtain ⟨fd, F, G, B⟩ := p_Avenue_ends (P := X.prog) (w := X.w) (base := X.base) T
    have hx' := hx
    obtain ⟨dx, hx⟩ := hx
    exact getprop_ok I1 hx (c_Avenue T) (pr_Avenue_ends T) G hr B .nil pass0 ⟨a, _, rfl, rfl, hx', q⟩
  | road =>
    obtain ⟨fd, F, G, B⟩ := p_Road_ends (P := X.prog) (w := X.w) (base := X.base) T
    have hx' := hx
    obtain ⟨dx, hx⟩ := hx
    exact getprop_ok I1 hx (c_Road T) (pr_Road_ends T) G hr B .nil pass0 ⟨a, _, rfl, rfl, hx', q⟩
/-- street.name -/
def tNameS (K : PySem.W.Frag) (ta : TE) : TE := fun σ H Q => ta σ H fun x H1 => ∃ (a : Addr) (v : Sv) (t : Str), x = .ref a ∧ StAt K H1 a v ∧ (v.fs.lookup ("name" : Str) = some (V.str t)) ∧ Q (.str t) H1
theorem pe_nameS {e : Expr} {pos : Pos} {ta : TE} (T : Tx X.K X.mg) (he : PE X e ta) (hab : attributeBase e "name" X.env (eval e X.env) = eval e X.env := by rfl) : PE X (.Attribute e "name" pos) (tNameS X.K ta) := by
  refine ⟨fun pins s σ H Q I h => ?_⟩
  refine attr_of hab (thn (he.run pins s σ H _ I h) fun u s1 ⟨x, H1, I1, rx, a, v, t, ex, hx, hl, q⟩ => ?_)
  subst ex
  obtain rfl : u = Value.ref a := rx
  obtain ⟨dx, hx⟩ := hx
  cases v with
  | lane => exact getattr_ok I1 hx (c_Lane T) (na_Lane_name T) hl fun u' s2 I2 ru => ⟨_, H1, I2, ru, q⟩
  | avenue => exact getattr_ok I1 hx (c_Avenue T) (na_Avenue_name T) hl fun u' s2 I2 ru => ⟨_, H1, I2, ru, q⟩
  | road => exact getattr_ok I1 hx (c_Road T) (na_Road_name T) hl fun u' s2 I2 ru => ⟨_, H1, I2, ru, q⟩
theorem op_eqT {K : PySem.W.Frag} {mg : Str → Option Value} (T : Tx K mg) (e1 : X.K = K) (e2 : X.mg = mg) (hr : Room 1 X.A) : OpR X (compareOp .Eq) (rEqS K) := by
  subst e1
  subst e2
  exact op_eqS T hr
theorem op_neT {K : PySem.W.Frag} {mg : Str → Option Value} (T : Tx K mg) (e1 : X.K = K) (e2 : X.mg = mg) (hr : Room 2 X.A) : OpR X (compareOp .NotEq) (rNeS K) := by
  subst e1
  subst e2
  exact op_neS T hr
end
end K05
namespace K05
open PySem PySem.Spec PyProof.Rows L2 Hx Gx Nx KX LamX
/-- an error that is made and raised: the heap behind it -/
theorem raised_same {H : Hp} {a dx : Addr} {o1 o2 o3 o4 : HO} (na : H a = none) (nd : H dx = none) : Same H (upd (L2.del (upd (upd (upd H a o1) dx o2) a o3) a) dx o4) := fun b o e => by
  have b1 := ne_of_none e na
  have b2 := ne_of_none e nd
  rw [upd_ne b2, L2.del_ne b1, upd_ne b1, upd_ne b2, upd_ne b1]
  exact e
section
variable {P : Program} {w : World} {K : PySem.W.Frag} {mg : Str → Option Value} {base : Heap}
theorem cls_mkAv (t a b : Str) : (mkAv t a b).cls = "Avenue" := by unfold mkAv; split <;> rfl
theorem cls_mkRd (t a b : Str) (i j : Int) : (mkRd t a b i j).cls = "Road" := by unfold mkRd; split <;> rfl
theorem made_same {H H1 : Hp} {x dx : Addr} {o u : HO} (n1 : H x = none) (n2 : H dx = none) (b : But x (upd (upd H dx u) x o) H1) : Same H H1 := fun c z e => by
  refine b c z (ne_of_none e n1) ?_
  rw [upd_ne (ne_of_none e n1), upd_ne (ne_of_none e n2)]
  exact e
theorem StAt.same {H H' : Hp} {x : Addr} {v : Sv} (h : StAt K H x v) (s : Same H H') : StAt K H' x v := by
  obtain ⟨dx, h⟩ := h
  exact ⟨dx, s _ _ h⟩
/-- a street that can be -/
def Good : Sv → Prop
  | .lane t a b => okEnds t a b = true
  | .avenue t a b => okEnds t a b = true ∧ strLt a b
  | .road t a b i j => okEnds t a b = true ∧ strLt a b ∧ priceOk i ∧ priceOk j
def Sv.isEnd (v : Sv) (g : Str) : Prop := g = v.ends.1 ∨ g = v.ends.2
def Sv.far (v : Sv) (g : Str) : Str := if g = v.ends.1 then v.ends.2 else v.ends.1
def Sv.leads : Sv → Str → Bool
  | .lane _ _ b, g => decide (g = b)
  | .avenue .., _ => true
  | .road .., _ => false
def Sv.inv : Sv → Sv
  | .lane t a b => .lane t b a
  | .avenue t a b => .avenue t a b
  | .road t a b i j => .road t a b j i
def Sv.ren (n : Str) : Sv → Sv
  | .lane _ a b => .lane n a b
  | .avenue _ a b => .avenue n a b
  | .road _ a b i j => .road n a b i j
def Sv.opened : Sv → Sv
  | .lane t a b => mkAv t a b
  | .avenue t a b => .avenue t a b
  | .road t a b _ _ => .avenue t a b
theorem okEnds_mk {t a b : Str} (h1 : nameB t = true) (h2 : nameB a = true) (h3 : nameB b = true) (h4 : a ≠ b) : okEnds t a b = true := by
  unfold okEnds
  rw [h1, h2, h3, decide_eq_false h4]
  rfl
theorem okEnds_swap {t a b : Str} (h : okEnds t a b = true) : okEnds t b a = true := by
  obtain ⟨h1, h2, h3, h4⟩ := okEnds_iff h
  exact okEnds_mk h1 h3 h2 h4.symm
theorem okEnds_ren {t a b n : Str} (h : okEnds t a b = true) (hn : nameB n = true) : okEnds n a b = true := by
  obtain ⟨h1, h2, h3, h4⟩ := okEnds_iff h
  exact okEnds_mk hn h2 h3 h4
theorem mkAv_lt {t a b : Str} (h : strLt a b) : mkAv t a b = .avenue t a b := by unfold mkAv; rw [if_pos h]
theorem mkRd_lt {t a b : Str} {i j : Int} (h : strLt a b) : mkRd t a b i j = .road t a b i j := by unfold mkRd; rw [if_pos h]
theorem fs_no (v : Sv) {m : Str} (h1 : ¬ m = "name") (h2 : ¬ m = "start") (h3 : ¬ m = "goal") (h4 : ¬ m = "one") (h5 : ¬ m = "other") (h6 : ¬ m = "there") (h7 : ¬ m = "back") : v.fs.lookup m = none := by
  cases v with
  | lane t a b =>
    show (lf t a b).lookup m = none
    unfold lf
    rw [lookup_putF, if_neg h3, lookup_putF, if_neg h2, lookup_putF, if_neg h1]
    rfl
  | avenue t a b =>
    show (af t a b).lookup m = none
    unfold af
    rw [lookup_putF, if_neg h5, lookup_putF, if_neg h4, lookup_putF, if_neg h1]
    rfl
  | road t a b i j =>
    show (rf t a b i j).lookup m = none
    unfold rf
    rw [lookup_putF, if_neg h7, lookup_putF, if_neg h6, lookup_putF, if_neg h5, lookup_putF, if_neg h4, lookup_putF, if_neg h1]
    rfl
/-- an error's __init__: its one field -/
def spErr (K : PySem.W.Frag) (C f : Str) : Sp := fun vs H Q _ => ∃ (a : Addr) (v : V), vs = [.ref a, v] ∧ H a = some (exo a (He.ga K C) none) ∧ ∀ dx, H dx = none → dx ≠ a → Q .non (upd (upd H dx (exd dx [(f, v)])) a (exo a (He.ga K C) (some dx)))
/-- an error with one field was raised -/
def Out (K : PySem.W.Frag) (C f : Str) (v : V) (H : Hp) (E : XK) : Prop := ∀ (H' : Hp) (d : Addr), Same H H' → H' d = some (.xd [(f, v)]) → E (.ref (He.ga K C)) (some d) H'
theorem Out.of {C f : Str} {v : V} {H H1 : Hp} {E : XK} (o : Out K C f v H E) (s : Same H H1) : Out K C f v H1 E := fun H' d h1 h2 => o H' d (s.trans h1) h2
/-- the reading of raise C(v), over the promise of C's __init__ -/
theorem raise_out {C f : Str} {v : V} {H : Hp} {E : XK} {σ : L2.St} (k : Out K C f v H E) : [v].length ≤ 1000 ∧ ∀ a, H a = none → spErr K C f (.ref a :: ([v] ++ [])) (upd H a (exo a (He.ga K C) none))
    (fun u H2 => u = .non ∧ ∃ (d : Addr) (fs : List (Str × V)), H2 a = some (exo a (He.ga K C) (some d)) ∧ H2 d = some (exd d fs) ∧ H d = none ∧ E (.ref (He.ga K C)) (some d) (upd (L2.del H2 a) d (.xd fs))) (fun _ _ _ => False) := by
  refine ⟨(by show 1 ≤ 1000; decide), fun a na => ⟨a, v, rfl, upd_same, fun dx nd ne => ⟨rfl, dx, [(f, v)], upd_same, ?_, ?_, ?_⟩⟩⟩
  · rw [upd_ne ne, upd_same]
  · rw [upd_ne ne] at nd
    exact nd
  · rw [upd_ne ne] at nd
    exact k _ dx (raised_same na nd) upd_same
/-- a def's promise, with how it is called; errors may leave it -/
def PromX (P : Program) (w : World) (K : PySem.W.Frag) (mg : Str → Option Value) (base : Heap) (k : Nat) (d : Dx) (ps : List Str) (sp : Sp) : Prop :=
  ∃ fd, Fd K d fd ∧ FnOk P w K mg base (L2.CX P w) k (d.adr K) fd ps sp ∧ Binds K fd ps []
theorem sc_NoCorner_init : FnScope ["self", "name"] ["self", "name"] (defScope s_NoCorner_init) := ⟨rfl, rfl, rfl, by decide +kernel, rfl, by decide +kernel, by decide +kernel⟩
theorem p_NoCorner_init (T : Tx K mg) : Prom P w K mg base 1 d_NoCorner_init ["self", "name"] (spErr K "NoCorner" "name") := by
  obtain ⟨fd, F⟩ := f_NoCorner_init T
  refine ⟨fd, F, F.ok sc_NoCorner_init (fun vs H Q E h => ?_) (fun cdv A outer s H vs Q E hr h => ?_), F.bindsN fun _ _ _ _ _ _ us hl => match us, hl with | [_, _], _ => rfl⟩
  · obtain ⟨a, v, rfl, _⟩ := h
    rfl
  · obtain ⟨a, v, rfl, ha, k⟩ := h
    refine ⟨_, pss_one (ps_ost (pv 0) (pv 1)), ?_⟩
    exact ⟨_, rfl, _, rfl, a, _, rfl, (er_NoCorner T).o, xn_NoCorner_name T, .inl ⟨ha, fun dx n ne => k dx n ne⟩⟩
def spChE (K : PySem.W.Frag) : Sp := fun vs H Q E => ∃ (t : Addr) (lo hi : Str) (x : V), vs = [.ref t, x] ∧ SqT K H t [.str lo, .str hi] ∧ Kd H x ∧ (isE lo hi x = true → Q .non H) ∧ (isE lo hi x = false → Out K "NoCorner" "name" x H E)
theorem sc_check_end : FnScope ["ends", "corner"] ["ends", "corner"] (defScope s_check_end) := ⟨rfl, rfl, rfl, by decide +kernel, rfl, by decide +kernel, by decide +kernel⟩
theorem p_check_end (T : Tx K mg) : PromX P w K mg base 3 d_check_end ["ends", "corner"] (spChE K) := by
  obtain ⟨fd, F⟩ := f_check_end T
  obtain ⟨fdE, FE, GE, BE⟩ := p_NoCorner_init (P := P) (w := w) (base := base) T
  refine ⟨fd, F, F.ok sc_check_end (fun vs H Q E h => ?_) (fun cdv A outer s H vs Q E hr h => ?_), F.bindsN fun _ _ _ _ _ _ us hl => match us, hl with | [_, _], _ => rfl⟩
  · obtain ⟨t, lo, hi, g, rfl, _⟩ := h
    rfl
  · obtain ⟨t, lo, hi, x, rfl, ht, kd, k, kE⟩ := h
    refine ⟨_, (pss_one (ps_if (pt_cmpR (op_notInK (hu64 hr)) (pv 1) (pv 0) rfl) (pss_one (ps_raise rfl (takes_of rfl rfl rfl rfl) (pmk_oex (er_NoCorner T).o (in_NoCorner T).1 (in_NoCorner T).2 GE hr BE .nil pass0 rfl (g_NoCorner T) (pa_cons (pv 1) pa_nil)))) pss_nil)), ?_⟩
    refine ⟨_, rfl, _, rfl, t, lo, hi, rfl, ht, kd, _, rfl, ?_⟩
    cases e : isE lo hi x with
    | true => exact iteF (k e)
    | false => exact iteT ⟨_, rfl, raise_out (σ := []) (kE e)⟩
def spFarE (K : PySem.W.Frag) : Sp := fun vs H Q E => ∃ (t : Addr) (lo hi : Str) (x : V), vs = [.ref t, x] ∧ SqT K H t [.str lo, .str hi] ∧ Kd H x ∧ (∀ g, x = .str g → isE lo hi x = true → Q (.str (if g = lo then hi else lo)) H) ∧ (isE lo hi x = false → Out K "NoCorner" "name" x H E)
theorem isE_str {lo hi : Str} {x : V} (h : isE lo hi x = true) : ∃ g, x = .str g ∧ (g = lo ∨ g = hi) := by
  cases x with
  | str g =>
    refine ⟨g, rfl, ?_⟩
    simpa [isE] using h
  | _ => cases h
theorem sc_far_end : FnScope ["ends", "corner", "one", "other"] ["ends", "corner"] (defScope s_far_end) := ⟨rfl, rfl, rfl, by decide +kernel, rfl, by decide +kernel, by decide +kernel⟩
theorem p_far_end (T : Tx K mg) : PromX P w K mg base 4 d_far_end ["ends", "corner"] (spFarE K) := by
  obtain ⟨fd, F⟩ := f_far_end T
  obtain ⟨fdC, FC, GC, BC⟩ := p_check_end (P := P) (w := w) (base := base) T
  refine ⟨fd, F, F.ok sc_far_end (fun vs H Q E h => ?_) (fun cdv A outer s H vs Q E hr h => ?_), F.bindsN fun _ _ _ _ _ _ us hl => match us, hl with | [_, _], _ => rfl⟩
  · obtain ⟨t, lo, hi, g, rfl, _⟩ := h
    rfl
  · obtain ⟨t, lo, hi, x, rfl, ht, kd, k, kE⟩ := h
    refine ⟨_, (pss_cons (ps_expr (pe_call GC hr rfl (g_check_end T) FC.kp BC .nil (passes_call (takes_of rfl rfl rfl rfl) (fun _ _ _ _ h => h)) (pa_cons (pv 0) (pa_cons (pv 1) pa_nil))))
      (pss_cons (ps_asg (pv 0) (pg_tup (by rfl) (pgs_cons (pg_name (i := 2) sc_far_end.nd rfl (Or.inl rfl)) (pgs_cons (pg_name (i := 3) sc_far_end.nd rfl (Or.inl rfl)) pgs_nil))))
      (pss_one (ps_ret (pe_ifExp (pt_cmpR op_eq (pv 1) (pv 2) (nomark _)) (pv 3) (pv 2)))))), ?_⟩
    refine ⟨_, rfl, _, rfl, t, lo, hi, x, rfl, ht, kd, fun ok => ?_, kE⟩
    obtain ⟨g, rfl, hg⟩ := isE_str ok
    have k := k g rfl ok
    refine ⟨_, rfl, t, _, rfl, ht, rfl, _, _, rfl, _, _, rfl, rfl, ?_⟩
    refine ⟨_, rfl, _, rfl, rfl, _, rfl, ?_⟩
    by_cases h : g = lo
    · rw [decide_eq_true (show V.str g = V.str lo by rw [h])]
      rw [if_pos h] at k
      exact iteT ⟨_, rfl, k⟩
    · rw [decide_eq_false (show ¬ V.str g = V.str lo from fun z => h (V.str.inj z))]
      rw [if_neg h] at k
      exact iteF ⟨_, rfl, k⟩
/-- a question of an end: answered, or refused -/
def spAsk (K : PySem.W.Frag) (c : Str) (ans : Sv → Str → V) : Sp := fun vs H Q E => ∃ (a : Addr) (v : Sv) (x : V), vs = [.ref a, x] ∧ v.cls = c ∧ StAt K H a v ∧ Kd H x ∧ (∀ g H', x = .str g → v.isEnd g → Same H H' → Q (ans v g) H') ∧ (isE v.ends.1 v.ends.2 x = false → Out K "NoCorner" "name" x H E)
def spCon (K : PySem.W.Frag) (c : Str) : Sp := fun vs H Q _ => ∃ (a : Addr) (v : Sv) (x : V), vs = [.ref a, x] ∧ v.cls = c ∧ StAt K H a v ∧ Kd H x ∧ ∀ H', Same H H' → Q (.bl (isE v.ends.1 v.ends.2 x)) H'
theorem sc_Avenue_far : FnScope ["self", "corner"] ["self", "corner"] (defScope s_Avenue_far) := ⟨rfl, rfl, rfl, by decide +kernel, rfl, by decide +kernel, by decide +kernel⟩
theorem p_Avenue_far (T : Tx K mg) : PromX P w K mg base 5 d_Avenue_far ["self", "corner"] (spAsk K "Avenue" fun v g => .str (v.far g)) := by
  obtain ⟨fd, F⟩ := f_Avenue_far T
  obtain ⟨fdF, FF, GF, BF⟩ := p_far_end (P := P) (w := w) (base := base) T
  refine ⟨fd, F, F.ok sc_Avenue_far (fun vs H Q E h => ?_) (fun cdv A outer s H vs Q E hr h => ?_), F.bindsN fun _ _ _ _ _ _ us hl => match us, hl with | [_, _], _ => rfl⟩
  · obtain ⟨a, v, x, rfl, _⟩ := h
    rfl
  · obtain ⟨a, v, x, rfl, hv, hx, kd, k, kE⟩ := h
    refine ⟨_, (pss_one (ps_ret (pe_call GF hr rfl (g_far_end T) FF.kp BF .nil (passes_call (takes_of rfl rfl rfl rfl) (fun _ _ _ _ h => h)) (pa_cons (pe_endsS T (hr.mono (by decide)) (pv 0)) (pa_cons (pv 1) pa_nil))))), ?_⟩
    refine ⟨_, rfl, a, v, rfl, hx, fun u hu => ⟨_, rfl, u, _, _, x, rfl, SqT.of upd_same, kd.same (new_same hu _), fun g e ok => k g _ e ?_ (new_same hu _), fun e => (kE e).of (new_same hu _)⟩⟩
    obtain ⟨g2, e2, hg⟩ := isE_str ok
    rw [e] at e2
    cases e2
    exact hg
theorem sc_Avenue_leads : FnScope ["self", "goal"] ["self", "goal"] (defScope s_Avenue_leads) := ⟨rfl, rfl, rfl, by decide +kernel, rfl, by decide +kernel, by decide +kernel⟩
theorem p_Avenue_leads (T : Tx K mg) : PromX P w K mg base 4 d_Avenue_leads ["self", "goal"] (spAsk K "Avenue" fun v g => .bl (v.leads g)) := by
  obtain ⟨fd, F⟩ := f_Avenue_leads T
  obtain ⟨fdC, FC, GC, BC⟩ := p_check_end (P := P) (w := w) (base := base) T
  refine ⟨fd, F, F.ok sc_Avenue_leads (fun vs H Q E h => ?_) (fun cdv A outer s H vs Q E hr h => ?_), F.bindsN fun _ _ _ _ _ _ us hl => match us, hl with | [_, _], _ => rfl⟩
  · obtain ⟨a, v, x, rfl, _⟩ := h
    rfl
  · obtain ⟨a, v, x, rfl, hv, hx, kd, k, kE⟩ := h
    refine ⟨_, (pss_cons (ps_expr (pe_call GC hr rfl (g_check_end T) FC.kp BC .nil (passes_call (takes_of rfl rfl rfl rfl) (fun _ _ _ _ h => h)) (pa_cons (pe_endsS T (hr.mono (by decide)) (pv 0)) (pa_cons (pv 1) pa_nil))))
      (pss_one (ps_ret pe_bl))), ?_⟩
    cases v with
    | lane => exact absurd (show ("Lane" : Str) = "Avenue" from hv) (by decide +kernel)
    | road => exact absurd (show ("Road" : Str) = "Avenue" from hv) (by decide +kernel)
    | avenue t lo hi =>
    have hx' := hx
    refine ⟨_, rfl, a, _, rfl, hx', fun u hu => ⟨_, rfl, u, _, _, x, rfl, SqT.of upd_same, kd.same (new_same hu _), fun ok => ?_, fun e => (kE e).of (new_same hu _)⟩⟩
    obtain ⟨g, rfl, hg⟩ := isE_str ok
    exact k g _ rfl hg (new_same hu _)
theorem sc_Avenue_contains : FnScope ["self", "corner"] ["self", "corner"] (defScope s_Avenue_contains) := ⟨rfl, rfl, rfl, by decide +kernel, rfl, by decide +kernel, by decide +kernel⟩
theorem p_Avenue_contains (T : Tx K mg) : Prom P w K mg base 3 d_Avenue_contains ["self", "corner"] (spCon K "Avenue") := by
  obtain ⟨fd, F⟩ := f_Avenue_contains T
  refine ⟨fd, F, F.ok sc_Avenue_contains (fun vs H Q E h => ?_) (fun cdv A outer s H vs Q E hr h => ?_), F.bindsN fun _ _ _ _ _ _ us hl => match us, hl with | [_, _], _ => rfl⟩
  · obtain ⟨a, v, x, rfl, _⟩ := h
    rfl
  · obtain ⟨a, v, x, rfl, hv, hx, kd, k⟩ := h
    refine ⟨_, (pss_one (ps_ret (pe_cmpR (op_inK (hu64 hr)) (pv 1) (pe_endsS T hr (pv 0)) rfl))), ?_⟩
    refine ⟨_, rfl, _, rfl, a, v, rfl, hx, fun u hu => ⟨u, _, _, rfl, SqT.of upd_same, kd.same (new_same hu _), ?_⟩⟩
    have z := k _ (new_same hu (.tup [.str v.ends.1, .str v.ends.2]))
    simpa using z
theorem sc_Road_far : FnScope ["self", "corner"] ["self", "corner"] (defScope s_Road_far) := ⟨rfl, rfl, rfl, by decide +kernel, rfl, by decide +kernel, by decide +kernel⟩
theorem p_Road_far (T : Tx K mg) : PromX P w K mg base 5 d_Road_far ["self", "corner"] (spAsk K "Road" fun v g => .str (v.far g)) := by
  obtain ⟨fd, F⟩ := f_Road_far T
  obtain ⟨fdF, FF, GF, BF⟩ := p_far_end (P := P) (w := w) (base := base) T
  refine ⟨fd, F, F.ok sc_Road_far (fun vs H Q E h => ?_) (fun cdv A outer s H vs Q E hr h => ?_), F.bindsN fun _ _ _ _ _ _ us hl => match us, hl with | [_, _], _ => rfl⟩
  · obtain ⟨a, v, x, rfl, _⟩ := h
    rfl
  · obtain ⟨a, v, x, rfl, hv, hx, kd, k, kE⟩ := h
    refine ⟨_, (pss_one (ps_ret (pe_call GF hr rfl (g_far_end T) FF.kp BF .nil (passes_call (takes_of rfl rfl rfl rfl) (fun _ _ _ _ h => h)) (pa_cons (pe_endsS T (hr.mono (by decide)) (pv 0)) (pa_cons (pv 1) pa_nil))))), ?_⟩
    refine ⟨_, rfl, a, v, rfl, hx, fun u hu => ⟨_, rfl, u, _, _, x, rfl, SqT.of upd_same, kd.same (new_same hu _), fun g e ok => k g _ e ?_ (new_same hu _), fun e => (kE e).of (new_same hu _)⟩⟩
    obtain ⟨g2, e2, hg⟩ := isE_str ok
    rw [e] at e2
    cases e2
    exact hg
theorem sc_Road_leads : FnScope ["self", "goal"] ["self", "goal"] (defScope s_Road_leads) := ⟨rfl, rfl, rfl, by decide +kernel, rfl, by decide +kernel, by decide +kernel⟩
theorem p_Road_leads (T : Tx K mg) : PromX P w K mg base 4 d_Road_leads ["self", "goal"] (spAsk K "Road" fun v g => .bl (v.leads g)) := by
  obtain ⟨fd, F⟩ := f_Road_leads T
  obtain ⟨fdC, FC, GC, BC⟩ := p_check_end (P := P) (w := w) (base := base) T
  refine ⟨fd, F, F.ok sc_Road_leads (fun vs H Q E h => ?_) (fun cdv A outer s H vs Q E hr h => ?_), F.bindsN fun _ _ _ _ _ _ us hl => match us, hl with | [_, _], _ => rfl⟩
  · obtain ⟨a, v, x, rfl, _⟩ := h
    rfl
  · obtain ⟨a, v, x, rfl, hv, hx, kd, k, kE⟩ := h
    refine ⟨_, (pss_cons (ps_expr (pe_call GC hr rfl (g_check_end T) FC.kp BC .nil (passes_call (takes_of rfl rfl rfl rfl) (fun _ _ _ _ h => h)) (pa_cons (pe_endsS T (hr.mono (by decide)) (pv 0)) (pa_cons (pv 1) pa_nil))))
      (pss_one (ps_ret pe_bl))), ?_⟩
    cases v with
    | lane => exact absurd (show ("Lane" : Str) = "Road" from hv) (by decide +kernel)
    | avenue => exact absurd (show ("Avenue" : Str) = "Road" from hv) (by decide +kernel)
    | road t lo hi pi pj =>
    have hx' := hx
    refine ⟨_, rfl, a, _, rfl, hx', fun u hu => ⟨_, rfl, u, _, _, x, rfl, SqT.of upd_same, kd.same (new_same hu _), fun ok => ?_, fun e => (kE e).of (new_same hu _)⟩⟩
    obtain ⟨g, rfl, hg⟩ := isE_str ok
    exact k g _ rfl hg (new_same hu _)
theorem sc_Road_contains : FnScope ["self", "corner"] ["self", "corner"] (defScope s_Road_contains) := ⟨rfl, rfl, rfl, by decide +kernel, rfl, by decide +kernel, by decide +kernel⟩
theorem p_Road_contains (T : Tx K mg) : Prom P w K mg base 3 d_Road_contains ["self", "corner"] (spCon K "Road") := by
  obtain ⟨fd, F⟩ := f_Road_contains T
  refine ⟨fd, F, F.ok sc_Road_contains (fun vs H Q E h => ?_) (fun cdv A outer s H vs Q E hr h => ?_), F.bindsN fun _ _ _ _ _ _ us hl => match us, hl with | [_, _], _ => rfl⟩
  · obtain ⟨a, v, x, rfl, _⟩ := h
    rfl
  · obtain ⟨a, v, x, rfl, hv, hx, kd, k⟩ := h
    refine ⟨_, (pss_one (ps_ret (pe_cmpR (op_inK (hu64 hr)) (pv 1) (pe_endsS T hr (pv 0)) rfl))), ?_⟩
    refine ⟨_, rfl, _, rfl, a, v, rfl, hx, fun u hu => ⟨u, _, _, rfl, SqT.of upd_same, kd.same (new_same hu _), ?_⟩⟩
    have z := k _ (new_same hu (.tup [.str v.ends.1, .str v.ends.2]))
    simpa using z
end
end K05
namespace K05
open PySem PySem.Spec PyProof.Rows L2 Hx Gx Nx KX LamX
section
variable {X : Cx} {CX : CXT} {k n : Nat} {f C : Addr} {fd : FuncData} {ps ks : List Str} {sp : Sp} {E : XK} {m : Str} {apos pos : Pos} {o : Expr} {kws : List Keyword} {ta : TE} {tk : TA} {g : List Value → List Value → List Value} {gV : List V → List V → List V}
/-- o.m(k = v, ..) -/
def tMethN (C : Addr) (m : Str) (n : Nat) (sp : Sp) (gV : List V → List V → List V) (E : XK) (ta : TE) (tk : TA) : TE := fun σ H Q => ta σ H fun x H1 => ∃ a dx fs, x = .ref a ∧ H1 a = some (.ins C dx fs) ∧ fs.lookup m = none ∧ tk σ H1 fun zs H2 => zs.length = n ∧ sp (gV [.ref a] zs) H2 Q E
theorem pe_methN0 {pl : Sem Bool} (he : PE X o ta) (c : Cls X.K C) (hm : Meth X.K C m f) (F : FnOk X.prog X.w X.K X.mg X.base CX k f fd ps sp) (hr : Room k X.A) (hb : KBn X.K fd ps 1 ks g gV) (hx : Passes CX X E) (hkw : PK X kws tk)
    (hall : (backToKw pos (keywordEach kws X.env)).all (·.1.isSome) = true := by rfl) (hks : (backToKw pos (keywordEach kws X.env)).filterMap (·.1) = ks := by rfl)
    (hpl : ((backTo pos (starEach [] X.env)).any (·.1) || (backToKw pos (keywordEach kws X.env)).any (·.1.isNone)) = false := by rfl)
    (ht : eval (.Call (.Attribute o m apos) [] kws pos) X.env = (do
      let ov ← eval o X.env
      standAt apos.atName
      let (f, first) ← holding [ov] (getMethod ov m pl)
      callWith pos f first (backTo pos (starEach [] X.env)) (backToKw pos (keywordEach kws X.env))) := by rfl) :
    PE X (.Call (.Attribute o m apos) [] kws pos) (tMethN C m ks.length sp gV E ta tk) := by
  refine ⟨fun pins s σ H Q I h => ?_⟩
  refine PySem.W.methodCall_KW (pl := pl) (thn (he.run pins s σ H _ I h) fun u s1 ⟨x, H1, I1, rx, a, dx, fs, ex, ea, l, q⟩ => ?_) ht
  subst ex
  obtain rfl : u = Value.ref a := rx
  refine getmeth_ok I1 ea c hm l ?_
  refine PySem.W.callWith_KW0 (first := [.ref a]) (h₀ := X.base) I.ok.mod.kin hm.kp hall ?_ hpl
  refine thn (hkw.run pos pins s1 σ H1 _ I1 q) fun ws s2 ⟨zs, H2, I2, rz, l2, q2⟩ => ⟨I2.kIn, ?_⟩
  rw [hks]
  exact run_fnN (us := [.ref a]) (vs := [.ref a]) F hr hb hx I2 (.cons rfl .nil) rz rfl l2 q2
end

abbrev NH : List Str := ["_law_ask", "_law_caught", "error"]
theorem sc_heard : FnScope NH ["_law_ask"] (defScope s__law_heard) := ⟨rfl, rfl, rfl, by decide +kernel, rfl, by decide +kernel, by decide +kernel⟩
theorem len3 {σ : L2.St} (h : σ.length = 3) : ∃ a b c, σ = [a, b, c] := by
  match σ, h with
  | [a, b, c], _ => exact ⟨a, b, c, rfl⟩
/-- what was heard of an error -/
def Hrd (K : PySem.W.Frag) (cls : Value) (d : Option Addr) (H : Hp) (Q : VK) : Prop :=
  ∃ (dd : Addr) (v : V), cls = .ref (He.ga K "NoCorner") ∧ d = some dd ∧ H dd = some (.xd [("name", v)]) ∧ ∀ (H2 : Hp) (p : Addr), Same H H2 → H2 p = some (.tup [.str "corner", v]) → Q (.ref p) H2
/-- what _law_heard makes of a lambda's reading -/
def THeard (K : PySem.W.Frag) : (XK → Hp → VK → Prop) → Hp → VK → Prop := fun tl H Q => tl (fun cls d H' => Hrd K cls d H' Q) H (fun v H' => ∀ p, H' p = none → Q (.ref p) (upd H' p (.lst [v])))
theorem heard_gives {X : Cx} {q : Str} {g : Addr} {cdg : Value} (T : Tx X.K X.mg) :
    GivesTo X NH "_law_heard" (defScope s__law_heard) g cdg (defBody s__law_heard) "_law_ask" q (THeard X.K) := by
  intro f c' s H Q tl act hc h
  refine ⟨_, pss_cons (ps_set (i := 1) sc_heard.nd rfl (Or.inl rfl) pe_non) (pss_try_keep (X := (cxOf C8.CX0 X.prog X.w X.K X.mg X.base NH "_law_heard" (defScope s__law_heard) g cdg X.A X.stack s H C8.E0).nox) (c := .ref (He.ga X.K "TownError")) (i := 2)
      (tb := fun W D σ H => ∃ Ech : XK, (∀ cls d σ' H', Ech cls d H' → σ'.length = 3 → W cls d σ' H') ∧ σ[0]? = some (some (.ref f)) ∧ H c' = some (CodeO c' q) ∧ ∃ Qn : VK, tl Ech H Qn ∧ ∀ v H', Qn v H' → ([v].length ≤ sizeLine ∧ ∀ p, H' p = none → D.rt (.ref p) (upd H' p (.lst [v]))))
      (t1 := fun a cls d D σ H => (∃ v0 v2, σ = [v0, some (.ref a), v2]) ∧ Hrd X.K cls d H D.rt)
      rfl rfl sc_heard.nd rfl rfl ⟨rfl, by decide, .inl (g_TownError T)⟩ takes0 (fun W pn xe tk _ => ?_)
      (fun a oe cls d pn _ _ => pss_one (ps_set (i := 1) sc_heard.nd rfl (Or.inl rfl) (pv 2)))
      (pss_one ps_never)
      (fun a oe cls d pn hz hf => pss_imp (pss_one (ps_ret (pe_ifExp (pt_val (pe_callB (call_isK hz hf) (by rfl) (n_isinstance T) (by decide +kernel) (pa_cons (pv 1) (pa_cons (pe_glob (v := .ref (He.ga X.K "NoCorner")) rfl (g_NoCorner T) rfl) pa_nil)))) (pe_tup (pa_cons pe_str (pa_cons (pe_xk hz hf (pv 1)) pa_nil))) (pe_tup (pa_cons pe_str pa_nil))))) fun D σ H h => ?_)), ?_⟩
  · refine ⟨fun pins s' σ H' D I h' => ?_⟩
    obtain ⟨Ech, hW, h1, h2, Qn, h3, h4⟩ := h'
    exact (pss_one (ps_ret (pe_lst (pa_cons (pe_mono (act (fun cls d σ' H' => σ'.length = 3 → W cls d σ' H') pn xe Ech _ _ (takes_len tk) (fun cls d σ' H' e l => hW cls d σ' H' e l))) pa_nil)))).run pins s' σ H' D I ⟨Qn, ⟨h1, h2, h3⟩, h4⟩
  · obtain ⟨⟨v0, v2, rfl⟩, dd, v, rfl, rfl, hd, kk⟩ := h
    refine ⟨_, rfl, _, _, true, _, dd, _, rfl, rfl, rfl, (er_NoCorner T).c, hd, (fun u hu => hu), k_NoCorner_NoCorner T, _, rfl, iteT ?_⟩
    exact ⟨_, rfl, rfl, _, dd, _, _, rfl, rfl, (er_NoCorner T).f, xn_NoCorner_name T, hd, rfl, (by show 2 ≤ sizeLine; decide), fun t nt => kk _ _ (new_same nt _) upd_same⟩
  · refine ⟨_, fun cls d σ' H' e l => ?_, rfl, hc, _, h, fun v H' q => ⟨(by show 1 ≤ sizeLine; decide), q⟩⟩
    obtain ⟨v0, v1, v2, rfl⟩ := len3 l
    obtain ⟨dd, v, rfl, rfl, hd, kk⟩ := e
    refine ⟨true, ex_NoCorner_TownError T, fun _ a na => ?_, fun z => by cases z⟩
    exact ⟨_, rfl, ⟨_, _, rfl⟩, dd, v, rfl, rfl, hd, kk⟩
end K05
namespace K05
open PySem PySem.Spec PyProof.Rows L2 Hx Gx Nx KX LamX
theorem PenAt.same {H H' : Hp} {p : Addr} {n : Nat} (h : PenAt H p n) (s : Same H H') : PenAt H' p n := by
  obtain ⟨c, ns, a, r, h1, h2, h3, h4⟩ := h
  exact ⟨c, ns, a, r, s _ _ h1, h2, s _ _ h3, h4⟩
theorem PenAt.ext {H H' : Hp} {p : Addr} {n : Nat} (h : PenAt H p n) (e : ExtN H H') : PenAt H' p n := by
  obtain ⟨c, ns, a, r, h1, h2, h3, h4⟩ := h
  exact ⟨c, ns, a, r, e _ _ h1 (fun ps z => by cases z), h2, e _ _ h3 (fun ps z => by cases z), h4⟩
/-- a letter's text is a name -/
theorem nameB_iff {x : Str} : nameB x = true ↔ (1 ≤ x.cps.toList.length ∧ x.cps.toList.length ≤ 8 ∧ x.cps.toList.all isLow = true) := by
  have e : x.length = x.cps.toList.length := rfl
  unfold nameB
  rw [e]
  simp [and_assoc]
theorem cut_take (z : Str) (k : Nat) : (cutS z none (some (k : Int))).cps.toList = z.cps.toList.take k := by
  have e : z.length = z.cps.toList.length := rfl
  have s0 : HT.sIx z.length 0 none = 0 := rfl
  have s1 : HT.sIx z.length z.length (some (k : Int)) = min k z.length := by
    unfold HT.sIx
    simp
    try omega
  unfold cutS
  rw [s0, s1]
  show ((z.cps.toList.drop 0).take (min k z.length - 0)) = _
  rw [List.drop_zero, Nat.sub_zero, e]
  rw [← List.take_eq_take_min]
theorem cut_drop (z : Str) (k : Nat) : (cutS z (some (k : Int)) none).cps.toList = z.cps.toList.drop k := by
  have e : z.length = z.cps.toList.length := rfl
  have s0 : HT.sIx z.length z.length none = z.length := rfl
  have s1 : HT.sIx z.length 0 (some (k : Int)) = min k z.length := by
    unfold HT.sIx
    simp
    try omega
  unfold cutS
  rw [s0, s1]
  show ((z.cps.toList.drop (min k z.length)).take (z.length - min k z.length)) = _
  have l : (z.cps.toList.drop (min k z.length)).length ≤ z.length - min k z.length := by
    rw [List.length_drop, e]
    omega
  rw [List.take_of_length_le l]
  by_cases h : k ≤ z.length
  · rw [Nat.min_eq_left h]
  · have h2 : z.length ≤ k := by omega
    rw [Nat.min_eq_right h2, e, List.drop_length, List.drop_of_length_le (by omega)]
theorem name_take {x : Str} (h : x.cps.toList.all isLow = true) (h1 : 1 ≤ x.cps.toList.length) (k : Nat) (k1 : 1 ≤ k) (k8 : k ≤ 8) : nameB (cutS x none (some (k : Int))) = true := by
  rw [nameB_iff, cut_take]
  refine ⟨by rw [List.length_take]; omega, by rw [List.length_take]; omega, ?_⟩
  rw [List.all_eq_true] at h ⊢
  intro c hc
  exact h c (List.mem_of_mem_take hc)
theorem name_let {x y : Str} (h : nameB x = true) (hy : y.cps.toList.length = 1) (ly : y.cps.toList.all isLow = true) : nameB (y ++ cutS x (some 1) none) = true := by
  have c := cut_drop x 1
  rw [nameB_iff] at h ⊢
  obtain ⟨h1, h2, h3⟩ := h
  have e : (y ++ cutS x (some 1) none).cps.toList = y.cps.toList ++ x.cps.toList.drop 1 := by
    rw [Str.cps_append, Array.toList_append]
    exact congrArg _ c
  rw [e, List.length_append, List.length_drop, hy, List.all_append, ly]
  refine ⟨by omega, by omega, ?_⟩
  rw [List.all_eq_true] at h3
  simp only [Bool.true_and]
  rw [List.all_eq_true]
  intro d hd
  exact h3 d (List.mem_of_mem_drop hd)
section
variable {P : Program} {w : World} {K : PySem.W.Frag} {mg : Str → Option Value} {base : Heap}
theorem letter_at {d : Int} (h0 : 0 ≤ d) (h1 : d < 26) : ∃ c, atI (Str.ofString "abcdefghijklmnopqrstuvwxyz").cps.toList d = some c ∧ isLow c = true := by
  have e : (Str.ofString "abcdefghijklmnopqrstuvwxyz").cps.toList = [97, 98, 99, 100, 101, 102, 103, 104, 105, 106, 107, 108, 109, 110, 111, 112, 113, 114, 115, 116, 117, 118, 119, 120, 121, 122] := by decide +kernel
  rw [e]
  obtain ⟨n, rfl⟩ : ∃ n : Nat, d = (n : Int) := ⟨d.toNat, by omega⟩
  have hn : n < ([97, 98, 99, 100, 101, 102, 103, 104, 105, 106, 107, 108, 109, 110, 111, 112, 113, 114, 115, 116, 117, 118, 119, 120, 121, 122] : List Nat).length := by
    show n < 26
    omega
  refine ⟨_, atI_nat (List.getElem?_eq_getElem hn), ?_⟩
  have z : ([97, 98, 99, 100, 101, 102, 103, 104, 105, 106, 107, 108, 109, 110, 111, 112, 113, 114, 115, 116, 117, 118, 119, 120, 121, 122] : List Nat).all isLow = true := by decide
  exact List.all_eq_true.mp z _ (List.getElem_mem hn)
def spWord : Sp := fun vs H Q _ => ∃ (p : Addr) (n : Nat), vs = [.ref p] ∧ PenAt H p n ∧ n ≤ 90000 ∧ ∀ (H' : Hp) (x : Str), But p H H' → PenAt H' p (n + 9) → nameB x = true → Q (.str x) H'
theorem sc_word : FnScope ["_law_pen_here", "_law_found", "_law_turn"] ["_law_pen_here"] (defScope s__law_word) := ⟨rfl, rfl, rfl, by decide +kernel, rfl, by decide +kernel, by decide +kernel⟩
theorem p_word (T : Tx K mg) : Prom P w K mg base 3 d__law_word ["_law_pen_here"] spWord := by
  obtain ⟨fd, F⟩ := f__law_word T
  obtain ⟨fdP, FP, GP, BP⟩ := p_pick (P := P) (w := w) (base := base) T
  obtain ⟨fdD, FD, GD, BD⟩ := p_draw (P := P) (w := w) (base := base) T
  refine ⟨fd, F, F.ok sc_word (fun vs H Q E h => ?_) (fun cdv A outer s H vs Q E hr h => ?_), F.bindsN fun _ _ _ _ _ _ us hl => match us, hl with | [_], _ => rfl⟩
  · obtain ⟨p, n, rfl, _⟩ := h
    rfl
  · obtain ⟨p, n, rfl, hp, hn, k⟩ := h
    refine ⟨_, PSs.nox (pss_cons (ps_set (i := 1) sc_word.nd rfl (Or.inl rfl) pe_str)
      (pss_cons (ps_for PassesOwn.never rfl (pi_range1 (by rfl) (n_range T) (pa_cons (pe_call GP (hr.mono (by decide)) rfl (g__law_pick T) FP.kp BP .nil pass0 (pa_cons (pv 0) (pa_cons (pe_lst (pa_cons pe_int (pa_cons pe_int (pa_cons pe_int (pa_cons pe_int (pa_cons pe_int pa_nil)))))) pa_nil))) pa_nil)) (pg_name (i := 2) sc_word.nd rfl (Or.inl rfl)) (pss_one (ps_set (i := 1) sc_word.nd rfl (Or.inl rfl) (pe_op op_add_str (pv 1) (pe_ix ix_str pe_str (pe_call GD (hr.mono (by decide)) rfl (g__law_draw T) FD.kp BD .nil pass0 (pa_cons (pv 0) (pa_cons pe_int pa_nil))) (fun _ _ => rfl))))))
      (pss_one (ps_ret (pv 1))))), ?_⟩
    have sl : (100 : Nat) ≤ sizeLine := by decide
    refine ⟨_, rfl, (by show 5 ≤ sizeLine; decide), fun l1 n1 => ⟨p, l1, n, _, rfl, hp.new n1, by omega, SqL.of upd_same, (hp.ne n1).symm, by decide, by decide, ?_⟩⟩
    intro H1 kv b1 p1 m1
    have B1 : But p H H1 := ((But.refl p H).new n1).trans b1
    obtain ⟨m, rfl, hm⟩ : ∃ m : Nat, kv = .int (m : Int) ∧ (1 ≤ m ∧ m ≤ 8) := by
      simp only [List.mem_cons, List.not_mem_nil, or_false] at m1
      rcases m1 with rfl | rfl | rfl | rfl | rfl
      · exact ⟨1, rfl, by omega⟩
      · exact ⟨1, rfl, by omega⟩
      · exact ⟨1, rfl, by omega⟩
      · exact ⟨2, rfl, by omega⟩
      · exact ⟨8, rfl, by omega⟩
    refine ⟨(m : Int), rfl, by omega, by omega, for_range (n := m) (fun i σ H' => But p H H' ∧ PenAt H' p (n + 1 + i) ∧ ∃ (x : Str) (v : Option V), σ = [some (.ref p), some (.str x), v] ∧ x.cps.toList.length = i ∧ x.cps.toList.all isLow = true) ⟨B1, p1, Str.ofString "", none, rfl, rfl, rfl⟩ ?_ ?_⟩
    · rintro i σ H2 hi ⟨B2, p2, x, v, rfl, lx, ax⟩
      refine ⟨_, rfl, _, rfl, p, _, 26, rfl, p2, by omega, by decide, by decide, ?_⟩
      intro H3 d b3 p3 d0 d1
      obtain ⟨c, hc, lc⟩ := letter_at d0 d1
      have lx2 : x.length = i := by rw [← lx]; exact (Array.length_toList).symm
      refine ⟨_, _, c, rfl, rfl, by decide, hc, _, _, rfl, rfl, ?_, B2.trans b3, p3, _, _, rfl, ?_, ?_⟩
      · show x.length + 1 ≤ sizeLine
        omega
      · rw [Str.cps_append, Array.toList_append, List.length_append, lx]
        rfl
      · rw [Str.cps_append, Array.toList_append, List.all_append, ax]
        show ([c].all isLow) = true
        simp [lc]
    · rintro σ H2 ⟨B2, p2, x, v, rfl, lx, ax⟩
      refine ⟨_, rfl, k H2 x B2 (p2.mono (by omega)) ?_⟩
      have lx2 : x.length = m := by rw [← lx]; exact (Array.length_toList).symm
      unfold nameB
      rw [decide_eq_true (show 1 ≤ x.length by omega), decide_eq_true (show x.length ≤ 8 by omega), ax]
      rfl
/-- two unlike names -/
def spTwo : Sp := fun vs H Q _ => ∃ (p : Addr) (n : Nat), vs = [.ref p] ∧ PenAt H p n ∧ n ≤ 80000 ∧ ∀ (H' : Hp) (q : Addr) (x y : Str), But p H H' → PenAt H' p (n + 20) → H' q = some (.tup [.str x, .str y]) → nameB x = true → nameB y = true → x ≠ y → Q (.ref q) H'
theorem sc_two : FnScope ["_law_pen_here", "_law_first", "_law_second"] ["_law_pen_here"] (defScope s__law_two) := ⟨rfl, rfl, rfl, by decide +kernel, rfl, by decide +kernel, by decide +kernel⟩
theorem p_two (T : Tx K mg) : Prom P w K mg base 4 d__law_two ["_law_pen_here"] spTwo := by
  obtain ⟨fd, F⟩ := f__law_two T
  obtain ⟨fdD, FD, GD, BD⟩ := p_draw (P := P) (w := w) (base := base) T
  obtain ⟨fdW, FW, GW, BW⟩ := p_word (P := P) (w := w) (base := base) T
  refine ⟨fd, F, F.ok sc_two (fun vs H Q E h => ?_) (fun cdv A outer s H vs Q E hr h => ?_), F.bindsN fun _ _ _ _ _ _ us hl => match us, hl with | [_], _ => rfl⟩
  · obtain ⟨p, n, rfl, _⟩ := h
    rfl
  · obtain ⟨p, n, rfl, hp, hn, k⟩ := h
    refine ⟨_, PSs.nox (pss_cons (ps_par (i := 1) (j := 2) (by rfl) sc_two.nd rfl rfl (by decide) rfl rfl (pa_cons (pe_call GW (hr.mono (by decide)) rfl (g__law_word T) FW.kp BW .nil pass0 (pa_cons (pv 0) pa_nil)) (pa_cons (pe_call GW (hr.mono (by decide)) rfl (g__law_word T) FW.kp BW .nil pass0 (pa_cons (pv 0) pa_nil)) pa_nil)) (by rfl))
      (pss_cons (ps_if (pt_cmpR op_eq (pv 1) (pv 2) (nomark _)) (pss_one (ps_set (i := 2) sc_two.nd rfl (Or.inl rfl) (pe_ifExp (pt_cmpR op_ne (pv 1) pe_str (nomark _)) pe_str pe_str))) pss_nil)
      (pss_one (ps_ret (pe_ifExp (pt_cmpR op_eq (pe_call GD (hr.mono (by decide)) rfl (g__law_draw T) FD.kp BD .nil pass0 (pa_cons (pv 0) (pa_cons pe_int pa_nil))) pe_int (nomark _)) (pe_tup (pa_cons (pv 1) (pa_cons (pv 2) pa_nil))) (pe_tup (pa_cons (pv 2) (pa_cons (pv 1) pa_nil)))))))), ?_⟩
    refine ⟨_, rfl, p, n, rfl, hp, by omega, fun H1 x b1 p1 nx => ?_⟩
    refine ⟨_, rfl, p, _, rfl, p1, by omega, fun H2 y b2 p2 ny => ?_⟩
    have B2 := b1.trans b2
    refine ⟨_, _, rfl, _, rfl, _, rfl, rfl, _, rfl, ?_⟩
    by_cases e : x = y
    · rw [decide_eq_true (congrArg V.str e)]
      refine iteT ⟨_, rfl, rfl, _, rfl, ?_⟩
      by_cases ea : x = Str.ofString "a"
      · rw [show (!decide (V.str x = V.str (Str.ofString "a"))) = false from by rw [decide_eq_true (congrArg V.str ea)]; rfl]
        have ab : x ≠ Str.ofString "b" := by rw [ea]; decide +kernel
        exact iteF ⟨_, rfl, p, _, 2, rfl, p2, by omega, by decide, by decide, fun H3 d b3 p3 d0 d1 => ⟨rfl, _, rfl, ite2 (fun _ => ⟨_, rfl, _, rfl, (by show 2 ≤ sizeLine; decide), fun t nt => k _ t x (Str.ofString "b") ((B2.trans b3).new nt) ((p3.new nt).mono (by omega)) upd_same nx (by decide +kernel) ab⟩) (fun _ => ⟨_, rfl, _, rfl, (by show 2 ≤ sizeLine; decide), fun t nt => k _ t (Str.ofString "b") x ((B2.trans b3).new nt) ((p3.new nt).mono (by omega)) upd_same (by decide +kernel) nx (Ne.symm ab)⟩)⟩⟩
      · rw [show (!decide (V.str x = V.str (Str.ofString "a"))) = true from by rw [decide_eq_false (fun z => ea (V.str.inj z))]; rfl]
        exact iteT ⟨_, rfl, p, _, 2, rfl, p2, by omega, by decide, by decide, fun H3 d b3 p3 d0 d1 => ⟨rfl, _, rfl, ite2 (fun _ => ⟨_, rfl, _, rfl, (by show 2 ≤ sizeLine; decide), fun t nt => k _ t x (Str.ofString "a") ((B2.trans b3).new nt) ((p3.new nt).mono (by omega)) upd_same nx (by decide +kernel) ea⟩) (fun _ => ⟨_, rfl, _, rfl, (by show 2 ≤ sizeLine; decide), fun t nt => k _ t (Str.ofString "a") x ((B2.trans b3).new nt) ((p3.new nt).mono (by omega)) upd_same (by decide +kernel) nx (Ne.symm ea)⟩)⟩⟩
    · rw [decide_eq_false (fun z => e (V.str.inj z))]
      exact iteF ⟨_, rfl, p, _, 2, rfl, p2, by omega, by decide, by decide, fun H3 d b3 p3 d0 d1 => ⟨rfl, _, rfl, ite2 (fun _ => ⟨_, rfl, _, rfl, (by show 2 ≤ sizeLine; decide), fun t nt => k _ t x y ((B2.trans b3).new nt) ((p3.new nt).mono (by omega)) upd_same nx ny e⟩) (fun _ => ⟨_, rfl, _, rfl, (by show 2 ≤ sizeLine; decide), fun t nt => k _ t y x ((B2.trans b3).new nt) ((p3.new nt).mono (by omega)) upd_same ny nx (Ne.symm e)⟩)⟩⟩
def spPay : Sp := fun vs H Q _ => ∃ (p : Addr) (n : Nat), vs = [.ref p] ∧ PenAt H p n ∧ n ≤ 80000 ∧ ∀ (H' : Hp) (i : Int), But p H H' → PenAt H' p (n + 2) → priceOk i → Q (.int i) H'
theorem sc_price : FnScope ["_law_pen_here", "_law_far"] ["_law_pen_here"] (defScope s__law_price) := ⟨rfl, rfl, rfl, by decide +kernel, rfl, by decide +kernel, by decide +kernel⟩
theorem p_price (T : Tx K mg) : Prom P w K mg base 3 d__law_price ["_law_pen_here"] spPay := by
  obtain ⟨fd, F⟩ := f__law_price T
  obtain ⟨fdD, FD, GD, BD⟩ := p_draw (P := P) (w := w) (base := base) T
  obtain ⟨fdP, FP, GP, BP⟩ := p_pick (P := P) (w := w) (base := base) T
  refine ⟨fd, F, F.ok sc_price (fun vs H Q E h => ?_) (fun cdv A outer s H vs Q E hr h => ?_), F.bindsN fun _ _ _ _ _ _ us hl => match us, hl with | [_], _ => rfl⟩
  · obtain ⟨p, n, rfl, _⟩ := h
    rfl
  · obtain ⟨p, n, rfl, hp, hn, k⟩ := h
    refine ⟨_, PSs.nox (pss_cons (ps_set (i := 1) sc_price.nd rfl (Or.inl rfl) (pe_call GD (hr.mono (by decide)) rfl (g__law_draw T) FD.kp BD .nil pass0 (pa_cons (pv 0) (pa_cons (pe_op op_pow pe_int pe_int) pa_nil))))
      (pss_one (ps_ret (pe_call GP (hr.mono (by decide)) rfl (g__law_pick T) FP.kp BP .nil pass0 (pa_cons (pv 0) (pa_cons (pe_lst (pa_cons pe_int (pa_cons pe_int (pa_cons pe_int (pa_cons (pe_un un_neg pe_int) (pa_cons pe_int (pa_cons (pe_op op_sub (pe_op op_pow pe_int pe_int) pe_int) (pa_cons (pe_op op_sub pe_int (pe_op op_pow pe_int pe_int)) (pa_cons (pv 1) (pa_cons (pe_op op_sub pe_int (pv 1)) pa_nil)))))))))) pa_nil)))))), ?_⟩
    have cp : CPow 10 12 := ⟨by decide, by decide, by decide⟩
    have e12 : (10 : Int) ^ (Int.toNat 12) = 1000000000000 := by decide +kernel
    refine ⟨_, rfl, _, _, rfl, rfl, cp, p, n, _, rfl, hp, by omega, by decide +kernel, by decide +kernel, fun H1 d b1 p1 d0 d1 => ?_⟩
    rw [e12] at d1
    refine ⟨_, rfl, _, rfl, _, _, rfl, rfl, cp, _, _, rfl, rfl, _, _, rfl, rfl, cp, _, _, rfl, rfl, _, rfl, _, rfl, _, _, rfl, rfl, (by show 9 ≤ sizeLine; decide), fun l nl => ?_⟩
    refine ⟨p, l, _, _, rfl, p1.new nl, by omega, SqL.of upd_same, (p1.ne nl).symm, (by show 0 < 9; omega), (by show 9 ≤ 1000; omega), fun H2 v b2 p2 mv => ?_⟩
    have vi : ∃ i, v = .int i ∧ priceOk i := by
      simp only [List.mem_cons, List.not_mem_nil, or_false] at mv
      rcases mv with rfl | rfl | rfl | rfl | rfl | rfl | rfl | rfl | rfl
      · exact ⟨_, rfl, by decide, by decide⟩
      · exact ⟨_, rfl, by decide, by decide⟩
      · exact ⟨_, rfl, by decide, by decide⟩
      · exact ⟨_, rfl, by decide, by decide⟩
      · exact ⟨_, rfl, by decide, by decide⟩
      · exact ⟨_, rfl, by decide +kernel, by decide +kernel⟩
      · exact ⟨_, rfl, by decide +kernel, by decide +kernel⟩
      · exact ⟨_, rfl, by omega, by omega⟩
      · exact ⟨_, rfl, by omega, by omega⟩
    obtain ⟨i, rfl, ok⟩ := vi
    exact k H2 i ((b1.new nl).trans b2) p2 ok
end
end K05
namespace K05
open PySem PySem.Spec PyProof.Rows L2 Hx Gx Nx KX LamX
theorem passF {X : Cx} : Passes (L2.CX X.prog X.w) X (fun _ _ _ => False) := by
  intro pins σ H s e s' I h
  obtain ⟨_, _, _, _, _, _, _, _, _, _, _, _, z⟩ := h
  exact z.elim
def Sv.pay : Sv → Str → Int
  | .road _ _ hi i j, g => if g = hi then i else j
  | _, _ => 0
theorem rf_far (t a b : Str) (i j : Int) : (rf t a b i j).lookup ("far" : Str) = none := by
  unfold rf
  rw [lookup_putF, if_neg (by decide +kernel), lookup_putF, if_neg (by decide +kernel), lookup_putF, if_neg (by decide +kernel), lookup_putF, if_neg (by decide +kernel), lookup_putF, if_neg (by decide +kernel)]
  rfl
section
variable {P : Program} {w : World} {K : PySem.W.Frag} {mg : Str → Option Value} {base : Heap}
theorem sc_Road_price : FnScope ["self", "goal"] ["self", "goal"] (defScope s_Road_price) := ⟨rfl, rfl, rfl, by decide +kernel, rfl, by decide +kernel, by decide +kernel⟩
theorem p_Road_price (T : Tx K mg) : PromX P w K mg base 4 d_Road_price ["self", "goal"] (spAsk K "Road" fun v g => .int (v.pay g)) := by
  obtain ⟨fd, F⟩ := f_Road_price T
  obtain ⟨fdC, FC, GC, BC⟩ := p_check_end (P := P) (w := w) (base := base) T
  refine ⟨fd, F, F.ok sc_Road_price (fun vs H Q E h => ?_) (fun cdv A outer s H vs Q E hr h => ?_), F.bindsN fun _ _ _ _ _ _ us hl => match us, hl with | [_, _], _ => rfl⟩
  · obtain ⟨a, v, x, rfl, _⟩ := h
    rfl
  · obtain ⟨a, v, x, rfl, hv, hx, kd, k, kE⟩ := h
    refine ⟨_, (pss_cons (ps_expr (pe_call GC hr rfl (g_check_end T) FC.kp BC .nil (passes_call (takes_of rfl rfl rfl rfl) (fun _ _ _ _ h => h)) (pa_cons (pe_endsS T (hr.mono (by decide)) (pv 0)) (pa_cons (pv 1) pa_nil))))
      (pss_one (ps_ret (pe_ifExp (pt_cmpR op_eq (pv 1) (pe_fld (pv 0) rfl) (nomark _)) (pe_fld (pv 0) rfl) (pe_fld (pv 0) rfl))))), ?_⟩
    cases v with
    | lane => exact absurd (show ("Lane" : Str) = "Road" from hv) (by decide +kernel)
    | avenue => exact absurd (show ("Avenue" : Str) = "Road" from hv) (by decide +kernel)
    | road t lo hi pi pj =>
    have hx' := hx
    refine ⟨_, rfl, a, _, rfl, hx', fun u hu => ⟨_, rfl, u, _, _, x, rfl, SqT.of upd_same, kd.same (new_same hu _), fun ok => ?_, fun e => (kE e).of (new_same hu _)⟩⟩
    obtain ⟨g, rfl, hg⟩ := isE_str ok
    obtain ⟨dx, hx⟩ := hx
    have hx2 := new_same hu (.tup [.str (Sv.road t lo hi pi pj).ends.1, .str (Sv.road t lo hi pi pj).ends.2]) _ _ hx
    refine ⟨_, rfl, _, rfl, a, _, dx, _, _, rfl, hx2, c_Road T, na_Road_other T, rf_other _ _ _ _ _, rfl, _, rfl, ?_⟩
    have e : decide (V.str g = V.str hi) = decide (g = hi) := by simp
    rw [e]
    have k : Q (.int ((Sv.road t lo hi pi pj).pay g)) _ := k g (upd H u (.tup [.str (Sv.road t lo hi pi pj).ends.1, .str (Sv.road t lo hi pi pj).ends.2])) rfl hg (new_same hu _)
    by_cases h : g = hi
    · rw [decide_eq_true h]
      have k2 : (Sv.road t lo hi pi pj).pay g = pi := if_pos h
      rw [k2] at k
      exact iteT ⟨_, rfl, a, _, dx, _, _, rfl, hx2, c_Road T, na_Road_there T, rf_there _ _ _ _ _, k⟩
    · rw [decide_eq_false h]
      have k2 : (Sv.road t lo hi pi pj).pay g = pj := if_neg h
      rw [k2] at k
      exact iteF ⟨_, rfl, a, _, dx, _, _, rfl, hx2, c_Road T, na_Road_back T, rf_back _ _ _ _ _, k⟩
/-- a sign asked of a road: a new lane, or refused -/
def spSg (K : PySem.W.Frag) : Sp := fun vs H Q E => ∃ (a : Addr) (v : Sv) (x : V), vs = [.ref a, x] ∧ v.cls = "Road" ∧ StAt K H a v ∧ (∃ t lo hi i j, v = .road t lo hi i j ∧ okEnds t lo hi = true) ∧ Kd H x ∧ (∀ g y H', x = .str g → v.isEnd g → Same H H' → Q (.ref y) H') ∧ (isE v.ends.1 v.ends.2 x = false → Out K "NoCorner" "name" x H E)
theorem sc_Road_signed : FnScope ["self", "goal"] ["self", "goal"] (defScope s_Road_signed) := ⟨rfl, rfl, rfl, by decide +kernel, rfl, by decide +kernel, by decide +kernel⟩
theorem p_Road_signed (T : Tx K mg) : PromX P w K mg base 6 d_Road_signed ["self", "goal"] (spSg K) := by
  obtain ⟨fd, F⟩ := f_Road_signed T
  obtain ⟨fdF, FF, GF, BF⟩ := p_Road_far (P := P) (w := w) (base := base) T
  obtain ⟨fdL, FL, GL, BL⟩ := p_Lane_init (P := P) (w := w) (base := base) T
  refine ⟨fd, F, F.ok sc_Road_signed (fun vs H Q E h => ?_) (fun cdv A outer s H vs Q E hr h => ?_), F.bindsN fun _ _ _ _ _ _ us hl => match us, hl with | [_, _], _ => rfl⟩
  · obtain ⟨a, v, x, rfl, _⟩ := h
    rfl
  · obtain ⟨a, v, x, rfl, hv, hx, ⟨t, lo, hi, pi, pj, rfl, ok⟩, kd, k, kE⟩ := h
    refine ⟨_, (pss_one (ps_ret (pe_make (mk_Lane T) GL (hr.mono (by decide)) rfl (g_Lane T) BL .nil pass0 (pa_cons (pe_fld (pv 0) rfl) (pa_cons (pe_meth (pv 0) (c_Road T) (m_Road_far T) GF (hr.mono (by decide)) BF .nil (passes_call (takes_of rfl rfl rfl rfl) (fun _ _ _ _ h => h)) (pa_cons (pv 1) pa_nil)) (pa_cons (pv 1) pa_nil)))))), ?_⟩
    have hx' := hx
    obtain ⟨dx, hx⟩ := hx
    refine ⟨_, rfl, a, _, dx, _, _, rfl, hx, c_Road T, na_Road_name T, rf_name _ _ _ _ _, _, rfl, a, dx, _, rfl, hx, rf_far _ _ _ _ _, _, rfl, a, _, x, rfl, rfl, hx', kd, fun g H' e ie s => ?_, fun e => kE e⟩
    subst e
    obtain ⟨o1, o2, o3, o4⟩ := okEnds_iff ok
    have ok2 : okEnds t ((Sv.road t lo hi pi pj).far g) g = true := by
      have e : (Sv.road t lo hi pi pj).far g = if g = lo then hi else lo := rfl
      rw [e]
      rcases ie with h | h
      · have h : g = lo := h
        rw [if_pos h, h]
        exact okEnds_swap ok
      · have h : g = hi := h
        rw [if_neg (fun z => o4 (z.symm.trans h)), h]
        exact ok
    refine ⟨_, rfl, fun y ey n1 n2 n3 => ⟨y, ey, t, _, g, rfl, ok2, upd_same, fun H1 b1 h1 => ⟨rfl, k g y _ rfl ie (s.trans (made_same n1 n2 b1))⟩⟩⟩
end
end K05
namespace K05
open PySem PySem.Spec PyProof.Rows L2 Hx Gx Nx KX LamX
theorem call_strT {X : Cx} : CallR X (.type "str") (fun xs H Q => ∃ x, xs = [.str x] ∧ Q (.str x) H) := by
  rintro pins s σ H xs us Q I r ⟨x, rfl, q⟩
  obtain ⟨u, rfl, ru⟩ := r.one
  obtain ⟨t, rfl⟩ := ru
  exact PySem.P.str_of_str ⟨.str x, H, I, ⟨_, rfl⟩, q⟩
theorem ltCps_iff (a b : List Nat) : PySem.Spec.ltCps a b = decide (a < b) := by
  induction a generalizing b with
  | nil => cases b with
    | nil => rfl
    | cons y b =>
      show true = _
      symm
      rw [decide_eq_true_eq]
      exact List.nil_lt_cons _ _
  | cons x a ih => cases b with
    | nil =>
      show false = _
      symm
      rw [decide_eq_false_iff_not]
      exact List.not_lt_nil _
    | cons y b =>
      rw [Bool.eq_iff_iff, decide_eq_true_eq, List.cons_lt_cons_iff]
      simp [PySem.Spec.ltCps, ih]
theorem ext_tl {a b : Str} (h : a.cps.toList = b.cps.toList) : a = b := by
  cases a; cases b
  congr 1
  exact Array.toList_inj.mp h
theorem lt_swap {a b : Str} (n : a ≠ b) (h : ¬ strLt a b) : strLt b a := by
  have h1 : ¬ a.cps.toList < b.cps.toList := h
  have h2 : a.cps.toList ≠ b.cps.toList := fun z => n (ext_tl z)
  show b.cps.toList < a.cps.toList
  have h3 : b.cps.toList ≤ a.cps.toList := List.not_lt.mp h1
  rcases Decidable.em (b.cps.toList < a.cps.toList) with h4 | h4
  · exact h4
  · exact absurd (List.le_antisymm (List.not_lt.mp h4) h3) h2
theorem name_lv {x : Str} (h : nameB x = true) : x.cps.toList.length ≤ 8 ∧ PyData.leavesShort 8 (.str x) = true := by
  obtain ⟨h1, h2, h3⟩ := nameB_iff.mp h
  refine ⟨h2, ?_⟩
  show x.cps.toList.all (fun c => decide (c < 16 ^ 8)) = true
  rw [List.all_eq_true] at h3 ⊢
  intro c hc
  have z := h3 c hc
  unfold isLow at z
  simp only [Bool.and_eq_true, decide_eq_true_eq] at z ⊢
  omega
theorem fine3 {x y z : Str} (hx : nameB x = true) (hy : nameB y = true) (hz : nameB z = true) : fine (.list [.str x, .str y, .str z]) = true := by
  obtain ⟨x1, x2⟩ := name_lv hx
  obtain ⟨y1, y2⟩ := name_lv hy
  obtain ⟨z1, z2⟩ := name_lv hz
  have ex : x.cps.size = x.cps.toList.length := (Array.length_toList).symm
  have ey : y.cps.size = y.cps.toList.length := (Array.length_toList).symm
  have ez : z.cps.size = z.cps.toList.length := (Array.length_toList).symm
  unfold fine
  simp only [Bool.and_eq_true, decide_eq_true_eq]
  refine ⟨rfl, ?_, by simp [PyData.depth, PyData.depthAll], ?_⟩
  · simp only [PyData.leavesShort, PyData.leavesShortAll, Bool.and_true, Bool.and_eq_true] at x2 y2 z2 ⊢
    exact ⟨x2, y2, z2⟩
  · have e : PyData.weight (.list [.str x, .str y, .str z]) = x.cps.size + 1 + (y.cps.size + 1 + (z.cps.size + 1 + 0)) := rfl
    rw [e]
    omega
theorem fine2 {x y : Str} (hx : nameB x = true) (hy : nameB y = true) : fine (.tuple [.str x, .str y]) = true := by
  obtain ⟨x1, x2⟩ := name_lv hx
  obtain ⟨y1, y2⟩ := name_lv hy
  have ex : x.cps.size = x.cps.toList.length := (Array.length_toList).symm
  have ey : y.cps.size = y.cps.toList.length := (Array.length_toList).symm
  unfold fine
  simp only [Bool.and_eq_true, decide_eq_true_eq]
  refine ⟨rfl, ?_, by simp [PyData.depth, PyData.depthAll], ?_⟩
  · simp only [PyData.leavesShort, PyData.leavesShortAll, Bool.and_true, Bool.and_eq_true] at x2 y2 ⊢
    exact ⟨x2, y2⟩
  · have e : PyData.weight (.tuple [.str x, .str y]) = x.cps.size + 1 + (y.cps.size + 1 + 0) := rfl
    rw [e]
    omega
theorem iteFe {A B : Prop} {b : Bool} (h : b = false) (q : B) : if b = true then A else B := by subst h; exact q
theorem iteTe {A B : Prop} {b : Bool} (h : b = true) (q : A) : if b = true then A else B := by subst h; exact q
theorem neD_same {K : PySem.W.Frag} {H : Hp} {Q : VK} {a b : Addr} {xs : List V} {ds : List PyData} (ha : SqL K H a xs) (hb : SqL K H b xs) (hd : DpAll K H xs ds) (sh : SeqAt.shaped (.list ds) = true) (q : Q (.bl false) H) : rNeD K (.ref a) (.ref b) H Q := by
  refine ⟨.list ds, .list ds, .lst ha hd, .lst hb hd, sh, sh, ?_⟩
  have c : PyData.canLay0 (.list ds) = true := by
    unfold SeqAt.shaped at sh
    exact (Bool.and_eq_true _ _ ▸ sh).1
  rw [SeqAt.eqv_refl _ c]
  exact q
theorem eqD_same {K : PySem.W.Frag} {H : Hp} {Q : VK} {a b : Addr} {xs : List V} {ds : List PyData} (ha : SqL K H a xs) (hb : SqL K H b xs) (hd : DpAll K H xs ds) (sh : SeqAt.shaped (.list ds) = true) (q : Q (.bl true) H) : rEqD K (.ref a) (.ref b) H Q := by
  refine ⟨.list ds, .list ds, .lst ha hd, .lst hb hd, sh, sh, ?_⟩
  have c : PyData.canLay0 (.list ds) = true := by
    unfold SeqAt.shaped at sh
    exact (Bool.and_eq_true _ _ ▸ sh).1
  rw [SeqAt.eqv_refl _ c]
  exact q
/-- data that is short enough beside others -/
def Small (d : PyData) : Prop := d.showable = true ∧ d.leavesShort 8 = true ∧ d.depth ≤ 3 ∧ d.weight ≤ 300
theorem small_nm {x : Str} (h : nameB x = true) : Small (.str x) := by
  obtain ⟨h1, h2⟩ := name_lv h
  refine ⟨rfl, h2, by show 0 ≤ 3; omega, ?_⟩
  have e : PyData.weight (.str x) = x.cps.size := rfl
  have ex : x.cps.size = x.cps.toList.length := (Array.length_toList).symm
  rw [e]
  omega
theorem small_bl (b : Bool) : Small (.bool b) := by cases b <;> exact ⟨rfl, rfl, by decide, by decide⟩
theorem small_two {x y : Str} (h : nameB x = true) (g : nameB y = true) : Small (.tuple [.str x, .str y]) := by
  obtain ⟨h1, h2⟩ := name_lv h
  obtain ⟨g1, g2⟩ := name_lv g
  refine ⟨rfl, ?_, by simp [PyData.depth, PyData.depthAll], ?_⟩
  · simp only [PyData.leavesShort, PyData.leavesShortAll, Bool.and_true, Bool.and_eq_true] at h2 g2 ⊢
    exact ⟨h2, g2⟩
  · have e : PyData.weight (.tuple [.str x, .str y]) = x.cps.size + 1 + (y.cps.size + 1 + 0) := rfl
    have ex : x.cps.size = x.cps.toList.length := (Array.length_toList).symm
    have ey : y.cps.size = y.cps.toList.length := (Array.length_toList).symm
    rw [e]
    omega
/-- an avenue or a road with these ends -/
inductive Evn (t lo hi : Str) : Sv → Prop
  | av : Evn t lo hi (.avenue t lo hi)
  | rd (i j : Int) : priceOk i → priceOk j → Evn t lo hi (.road t lo hi i j)
def kindsOf : Sv → List V
  | .avenue .. => [.bl true, .bl true, .bl true, .bl false, .bl true, .bl false]
  | _ => [.bl true, .bl false, .bl true, .bl false, .bl false, .bl true]
section
variable {P : Program} {w : World} {K : PySem.W.Frag} {mg : Str → Option Value} {base : Heap}
theorem no_Avenue_far (t f g : Str) : (af t f g).lookup ("far" : Str) = none := fs_no (.avenue t f g) (by decide +kernel) (by decide +kernel) (by decide +kernel) (by decide +kernel) (by decide +kernel) (by decide +kernel) (by decide +kernel)
theorem no_Avenue_leads (t f g : Str) : (af t f g).lookup ("leads" : Str) = none := fs_no (.avenue t f g) (by decide +kernel) (by decide +kernel) (by decide +kernel) (by decide +kernel) (by decide +kernel) (by decide +kernel) (by decide +kernel)
theorem no_Road_far (t f g : Str) (i j : Int) : (rf t f g i j).lookup ("far" : Str) = none := fs_no (.road t f g i j) (by decide +kernel) (by decide +kernel) (by decide +kernel) (by decide +kernel) (by decide +kernel) (by decide +kernel) (by decide +kernel)
theorem no_Road_leads (t f g : Str) (i j : Int) : (rf t f g i j).lookup ("leads" : Str) = none := fs_no (.road t f g i j) (by decide +kernel) (by decide +kernel) (by decide +kernel) (by decide +kernel) (by decide +kernel) (by decide +kernel) (by decide +kernel)
theorem no_Road_price (t f g : Str) (i j : Int) : (rf t f g i j).lookup ("price" : Str) = none := fs_no (.road t f g i j) (by decide +kernel) (by decide +kernel) (by decide +kernel) (by decide +kernel) (by decide +kernel) (by decide +kernel) (by decide +kernel)
theorem no_Road_signed (t f g : Str) (i j : Int) : (rf t f g i j).lookup ("signed" : Str) = none := fs_no (.road t f g i j) (by decide +kernel) (by decide +kernel) (by decide +kernel) (by decide +kernel) (by decide +kernel) (by decide +kernel) (by decide +kernel)
def PromG (P : Program) (w : World) (K : PySem.W.Frag) (mg : Str → Option Value) (base : Heap) (k : Nat) (d : Dx) (ps : List Str) (sp : Sp) : Prop :=
  ∃ fd, Fd K d fd ∧ FnG P w K mg base CX0 k (d.adr K) fd ps sp ∧ Binds K fd ps []
def spKinds (K : PySem.W.Frag) : Sp := fun vs H Q _ => ∃ (a : Addr) (t lo hi : Str) (v : Sv), vs = [.ref a] ∧ StAt K H a v ∧ Evn t lo hi v ∧ ∀ (H' : Hp) (l : Addr), Same H H' → H' l = some (.lst (kindsOf v)) → Q (.ref l) H'
theorem sc_kinds : FnScope ["_law_street", "_law_found"] ["_law_street"] (defScope s__law_kinds) := ⟨rfl, rfl, rfl, by decide +kernel, rfl, by decide +kernel, by decide +kernel⟩
theorem p_kinds (T : Tx K mg) : Prom P w K mg base 1 d__law_kinds ["_law_street"] (spKinds K) := by
  obtain ⟨fd, F⟩ := f__law_kinds T
  refine ⟨fd, F, F.ok sc_kinds (fun vs H Q E h => ?_) (fun cdv A outer s H vs Q E hr h => ?_), F.bindsN fun _ _ _ _ _ _ us hl => match us, hl with | [_], _ => rfl⟩
  · obtain ⟨a, t, lo, hi, v, rfl, _⟩ := h
    rfl
  · obtain ⟨a, t, lo, hi, v, rfl, hx, ev, k⟩ := h
    refine ⟨_, PSs.nox (pss_cons (ps_set (i := 1) sc_kinds.nd rfl (Or.inl rfl) (pe_lst (pa_cons (pe_callB call_isi (by rfl) (n_isinstance T) (by decide +kernel) (pa_cons (pv 0) (pa_cons (pe_glob (v := .ref (He.ga K "Street")) rfl (g_Street T) rfl) pa_nil))) (pa_cons (pe_callB call_isi (by rfl) (n_isinstance T) (by decide +kernel) (pa_cons (pv 0) (pa_cons (pe_glob (v := .ref (He.ga K "Settled")) rfl (g_Settled T) rfl) pa_nil))) (pa_cons (pe_callB call_isi (by rfl) (n_isinstance T) (by decide +kernel) (pa_cons (pv 0) (pa_cons (pe_glob (v := .ref (He.ga K "Even")) rfl (g_Even T) rfl) pa_nil))) pa_nil)))))
      (pss_one (ps_ret (pe_op op_cat (pv 1) (pe_lst (pa_cons (pe_callB call_isi (by rfl) (n_isinstance T) (by decide +kernel) (pa_cons (pv 0) (pa_cons (pe_glob (v := .ref (He.ga K "Lane")) rfl (g_Lane T) rfl) pa_nil))) (pa_cons (pe_callB call_isi (by rfl) (n_isinstance T) (by decide +kernel) (pa_cons (pv 0) (pa_cons (pe_glob (v := .ref (He.ga K "Avenue")) rfl (g_Avenue T) rfl) pa_nil))) (pa_cons (pe_callB call_isi (by rfl) (n_isinstance T) (by decide +kernel) (pa_cons (pv 0) (pa_cons (pe_glob (v := .ref (He.ga K "Road")) rfl (g_Road T) rfl) pa_nil))) pa_nil)))))))), ?_⟩
    cases ev with
    | av =>
      have HX := hx
      refine ⟨_, rfl, _, _, _, _, _, rfl, .own _, tyx_st T HX, k_Avenue_Street T, _, rfl, _, _, _, _, _, rfl, .own _, tyx_st T HX, k_Avenue_Settled T, _, rfl, _, _, _, _, _, rfl, .own _, tyx_st T HX, k_Avenue_Even T, (by show 3 ≤ sizeLine; decide), fun l1 n1 => ?_⟩
      have s1 := new_same n1 (.lst [.bl true, .bl true, .bl true])
      have e1 : upd H l1 (.lst [.bl true, .bl true, .bl true]) l1 = some (.lst [.bl true, .bl true, .bl true]) := upd_same
      generalize upd H l1 (.lst [.bl true, .bl true, .bl true]) = H1 at s1 e1
      have HX := hx.same s1
      refine ⟨_, rfl, _, rfl, _, _, _, _, _, rfl, .own _, tyx_st T HX, k_Avenue_Lane T, _, rfl, _, _, _, _, _, rfl, .own _, tyx_st T HX, k_Avenue_Avenue T, _, rfl, _, _, _, _, _, rfl, .own _, tyx_st T HX, k_Avenue_Road T, (by show 3 ≤ sizeLine; decide), fun l2 n2 => ?_⟩
      have s2 := new_same n2 (.lst [.bl false, .bl true, .bl false])
      refine ⟨l1, l2, _, _, rfl, rfl, s2 _ _ e1, upd_same, (by show 6 ≤ sizeLine; decide), fun p np => k _ p ((s1.trans s2).trans (new_same np _)) upd_same⟩
    | rd i j pi pj =>
      have HX := hx
      refine ⟨_, rfl, _, _, _, _, _, rfl, .own _, tyx_st T HX, k_Road_Street T, _, rfl, _, _, _, _, _, rfl, .own _, tyx_st T HX, k_Road_Settled T, _, rfl, _, _, _, _, _, rfl, .own _, tyx_st T HX, k_Road_Even T, (by show 3 ≤ sizeLine; decide), fun l1 n1 => ?_⟩
      have s1 := new_same n1 (.lst [.bl true, .bl false, .bl true])
      have e1 : upd H l1 (.lst [.bl true, .bl false, .bl true]) l1 = some (.lst [.bl true, .bl false, .bl true]) := upd_same
      generalize upd H l1 (.lst [.bl true, .bl false, .bl true]) = H1 at s1 e1
      have HX := hx.same s1
      refine ⟨_, rfl, _, rfl, _, _, _, _, _, rfl, .own _, tyx_st T HX, k_Road_Lane T, _, rfl, _, _, _, _, _, rfl, .own _, tyx_st T HX, k_Road_Avenue T, _, rfl, _, _, _, _, _, rfl, .own _, tyx_st T HX, k_Road_Road T, (by show 3 ≤ sizeLine; decide), fun l2 n2 => ?_⟩
      have s2 := new_same n2 (.lst [.bl false, .bl false, .bl true])
      refine ⟨l1, l2, _, _, rfl, rfl, s2 _ _ e1, upd_same, (by show 6 ≤ sizeLine; decide), fun p np => k _ p ((s1.trans s2).trans (new_same np _)) upd_same⟩
def spEndsR (K : PySem.W.Frag) : Sp := fun vs H Q _ => ∃ (a : Addr) (t lo hi : Str) (v : Sv), vs = [.ref a, .str t, .str lo, .str hi] ∧ StAt K H a v ∧ Evn t lo hi v ∧ okEnds t lo hi = true ∧ ∀ H', Same H H' → Q (.bl true) H'
theorem sc_ends : FnScope ["_law_street", "_law_title", "_law_low", "_law_high"] ["_law_street", "_law_title", "_law_low", "_law_high"] (defScope s__law_ends_right) := ⟨rfl, rfl, rfl, by decide +kernel, rfl, by decide +kernel, by decide +kernel⟩
theorem p_ends (T : Tx K mg) : PromG P w K mg base 7 d__law_ends_right ["_law_street", "_law_title", "_law_low", "_law_high"] (spEndsR K) := by
  obtain ⟨fd, F⟩ := f__law_ends_right T
  refine ⟨fd, F, FnG.body F sc_ends (fun vs H Q E h => ?_) (fun cdv A outer s H vs Q E hr gu h => ?_), F.bindsN fun _ _ _ _ _ _ us hl => match us, hl with | [_, _, _, _], _ => rfl⟩
  · obtain ⟨a, t, lo, hi, v, rfl, _⟩ := h
    rfl
  · obtain ⟨a, t, lo, hi, v, rfl, hx0, ev, ok, k⟩ := h
    obtain ⟨o1, o2, o3, o4⟩ := okEnds_iff ok
    have fe := fine4 (small_nm o1) (small_nm o2) (small_nm o3) (small_two o2 o3)
    have ff := fine4 (small_nm o3) (small_nm o2) (small_bl true) (small_bl true)
    have el : isE lo hi (.str lo) = true := by simp [isE]
    have eh : isE lo hi (.str hi) = true := by simp [isE]
    cases ev with
    | av =>
      obtain ⟨fdF, FF, GF, BF⟩ := p_Avenue_far (P := P) (w := w) (base := base) T
      obtain ⟨fdC, FC, GC, BC⟩ := p_Avenue_contains (P := P) (w := w) (base := base) T
      refine ⟨_, PSs.nox (pss_cons (ps_if (pt_cmpR op_ne (pe_callB (call_reprQ (sm_ok T) gu (hu64 hr)) (by rfl) (n_repr T) (by decide +kernel) (pa_cons (pe_lst (pa_cons (pe_fld (pv 0) rfl) (pa_cons (pe_fld (pv 0) rfl) (pa_cons (pe_fld (pv 0) rfl) (pa_cons (pe_endsS T (hr.mono (by decide)) (pv 0)) pa_nil))))) pa_nil)) (pe_callB (call_reprQ (sm_ok T) gu (hu64 hr)) (by rfl) (n_repr T) (by decide +kernel) (pa_cons (pe_lst (pa_cons (pv 1) (pa_cons (pv 2) (pa_cons (pv 3) (pa_cons (pe_tup (pa_cons (pv 2) (pa_cons (pv 3) pa_nil))) pa_nil))))) pa_nil)) (nomark _)) (pss_one (ps_ret pe_bl)) pss_nil)
      (pss_one (ps_ret (pe_cmpR op_eq (pe_callB (call_reprQ (sm_ok T) gu (hu64 hr)) (by rfl) (n_repr T) (by decide +kernel) (pa_cons (pe_lst (pa_cons (pe_meth (pv 0) (c_Avenue T) (m_Avenue_far T) GF (hr.mono (by decide)) BF .nil passF (pa_cons (pv 2) pa_nil)) (pa_cons (pe_meth (pv 0) (c_Avenue T) (m_Avenue_far T) GF (hr.mono (by decide)) BF .nil passF (pa_cons (pv 3) pa_nil)) (pa_cons (pe_cmpR (op_inO (m_Avenue_contains T).at_ (m_Avenue_contains T).fn GC BC (hr.mono (by decide)) pass0) (pv 2) (pv 0) rfl) (pa_cons (pe_cmpR (op_inO (m_Avenue_contains T).at_ (m_Avenue_contains T).fn GC BC (hr.mono (by decide)) pass0) (pv 3) (pv 0) rfl) pa_nil))))) pa_nil)) (pe_callB (call_reprQ (sm_ok T) gu (hu64 hr)) (by rfl) (n_repr T) (by decide +kernel) (pa_cons (pe_lst (pa_cons (pv 3) (pa_cons (pv 2) (pa_cons pe_bl (pa_cons pe_bl pa_nil))))) pa_nil)) (nomark _))))), ?_⟩
      obtain ⟨dx, hx⟩ := hx0
      refine ⟨_, rfl, a, _, dx, _, _, rfl, hx, c_Avenue T, na_Avenue_name T, af_name _ _ _, _, rfl, a, _, dx, _, _, rfl, hx, c_Avenue T, na_Avenue_one T, af_one _ _ _, _, rfl, a, _, dx, _, _, rfl, hx, c_Avenue T, na_Avenue_other T, af_other _ _ _, _, rfl, a, (Sv.avenue t lo hi), rfl, ⟨dx, hx⟩, fun u nu => ?_⟩
      have s1 := new_same nu (.tup [.str (Sv.avenue t lo hi).ends.1, .str (Sv.avenue t lo hi).ends.2])
      have u1 : upd H u (.tup [.str (Sv.avenue t lo hi).ends.1, .str (Sv.avenue t lo hi).ends.2]) u = some (.tup [.str lo, .str hi]) := upd_same
      generalize upd H u (.tup [.str (Sv.avenue t lo hi).ends.1, .str (Sv.avenue t lo hi).ends.2]) = H1 at s1 u1
      refine ⟨(by show 4 ≤ sizeLine; decide), fun l1 n1 => ?_⟩
      have s2 := new_same n1 (.lst [.str t, .str lo, .str hi, .ref u])
      refine ⟨_, _, rfl, .lst (SqL.of upd_same) (.cons (.str _) (.cons (.str _) (.cons (.str _) (.cons (.tup (SqT.of (s2 _ _ u1)) (.cons (.str _) (.cons (.str _) .nil))) .nil)))), fe, ?_⟩
      generalize upd H1 l1 (.lst [.str t, .str lo, .str hi, .ref u]) = H2 at s2
      refine ⟨_, rfl, _, rfl, _, rfl, _, rfl, _, rfl, (by show 2 ≤ sizeLine; decide), fun u3 n3 => ?_⟩
      have s3 := new_same n3 (.tup [.str lo, .str hi])
      have e3 : upd H2 u3 (.tup [.str lo, .str hi]) u3 = some (.tup [.str lo, .str hi]) := upd_same
      generalize upd H2 u3 (.tup [.str lo, .str hi]) = H3 at s3 e3
      refine ⟨(by show 4 ≤ sizeLine; decide), fun l4 n4 => ?_⟩
      have s4 := new_same n4 (.lst [.str t, .str lo, .str hi, .ref u3])
      refine ⟨_, _, rfl, .lst (SqL.of upd_same) (.cons (.str _) (.cons (.str _) (.cons (.str _) (.cons (.tup (SqT.of (s4 _ _ e3)) (.cons (.str _) (.cons (.str _) .nil))) .nil)))), fe, rfl, _, rfl, iteFe (by rw [decide_eq_true rfl]; rfl) ?_⟩
      generalize upd H3 l4 (.lst [.str t, .str lo, .str hi, .ref u3]) = H4 at s4
      have S4 := ((s1.trans s2).trans s3).trans s4
      have x4 := S4 _ _ hx
      refine ⟨_, rfl, a, dx, _, rfl, x4, no_Avenue_far _ _ _, _, rfl, a, (Sv.avenue t lo hi), .str lo, rfl, rfl, ⟨dx, x4⟩, .str lo, (fun g HN eg ie sn => ?_), (fun z => absurd ((show isE lo hi (.str lo) = false from z).symm.trans el) (by decide))⟩
      cases eg
      have S5 := S4.trans sn
      have x5 := S5 _ _ hx
      refine ⟨_, rfl, a, dx, _, rfl, x5, no_Avenue_far _ _ _, _, rfl, a, (Sv.avenue t lo hi), .str hi, rfl, rfl, ⟨dx, x5⟩, .str hi, (fun g HN eg ie sn => ?_), (fun z => absurd ((show isE lo hi (.str hi) = false from z).symm.trans eh) (by decide))⟩
      cases eg
      have S6 := S5.trans sn
      have x6 := S6 _ _ hx
      refine ⟨_, rfl, _, rfl, a, dx, _, rfl, x6, a, (Sv.avenue t lo hi), .str lo, rfl, rfl, ⟨dx, x6⟩, .str lo, fun H7 s7 => ⟨_, rfl, ?_⟩⟩
      have S7 := S6.trans s7
      have x7 := S7 _ _ hx
      refine ⟨_, rfl, _, rfl, a, dx, _, rfl, x7, a, (Sv.avenue t lo hi), .str hi, rfl, rfl, ⟨dx, x7⟩, .str hi, fun H8 s8 => ⟨_, rfl, ?_⟩⟩
      have S8 := S7.trans s8
      have f1 : (Sv.avenue t lo hi).far lo = hi := if_pos rfl
      have f2 : (Sv.avenue t lo hi).far hi = lo := if_neg (fun z => o4 z.symm)
      refine ⟨(by show 4 ≤ sizeLine; decide), fun l9 n9 => ?_⟩
      have s9 := new_same n9 (.lst [.str ((Sv.avenue t lo hi).far lo), .str ((Sv.avenue t lo hi).far hi), .bl (isE (Sv.avenue t lo hi).ends.1 (Sv.avenue t lo hi).ends.2 (.str lo)), .bl (isE (Sv.avenue t lo hi).ends.1 (Sv.avenue t lo hi).ends.2 (.str hi))])
      refine ⟨_, .list [.str hi, .str lo, .bool true, .bool true], rfl, .lst (SqL.of upd_same) (.cons (by show Dq _ _ (.str ((Sv.avenue t lo hi).far lo)) _; rw [f1]; exact .str _) (.cons (by show Dq _ _ (.str ((Sv.avenue t lo hi).far hi)) _; rw [f2]; exact .str _) (.cons (by rw [show isE (Sv.avenue t lo hi).ends.1 (Sv.avenue t lo hi).ends.2 (.str lo) = true from el]; exact .bl _) (.cons (by rw [show isE (Sv.avenue t lo hi).ends.1 (Sv.avenue t lo hi).ends.2 (.str hi) = true from eh]; exact .bl _) .nil)))), ff, ?_⟩
      refine ⟨_, rfl, _, rfl, (by show 4 ≤ sizeLine; decide), fun l10 n10 => ?_⟩
      refine ⟨_, _, rfl, .lst (SqL.of upd_same) (.cons (.str _) (.cons (.str _) (.cons (.bl _) (.cons (.bl _) .nil)))), ff, rfl, ?_⟩
      rw [decide_eq_true rfl]
      exact k _ ((S8.trans s9).trans (new_same n10 _))
    | rd i j pi pj =>
      obtain ⟨fdF, FF, GF, BF⟩ := p_Road_far (P := P) (w := w) (base := base) T
      obtain ⟨fdC, FC, GC, BC⟩ := p_Road_contains (P := P) (w := w) (base := base) T
      refine ⟨_, PSs.nox (pss_cons (ps_if (pt_cmpR op_ne (pe_callB (call_reprQ (sm_ok T) gu (hu64 hr)) (by rfl) (n_repr T) (by decide +kernel) (pa_cons (pe_lst (pa_cons (pe_fld (pv 0) rfl) (pa_cons (pe_fld (pv 0) rfl) (pa_cons (pe_fld (pv 0) rfl) (pa_cons (pe_endsS T (hr.mono (by decide)) (pv 0)) pa_nil))))) pa_nil)) (pe_callB (call_reprQ (sm_ok T) gu (hu64 hr)) (by rfl) (n_repr T) (by decide +kernel) (pa_cons (pe_lst (pa_cons (pv 1) (pa_cons (pv 2) (pa_cons (pv 3) (pa_cons (pe_tup (pa_cons (pv 2) (pa_cons (pv 3) pa_nil))) pa_nil))))) pa_nil)) (nomark _)) (pss_one (ps_ret pe_bl)) pss_nil)
      (pss_one (ps_ret (pe_cmpR op_eq (pe_callB (call_reprQ (sm_ok T) gu (hu64 hr)) (by rfl) (n_repr T) (by decide +kernel) (pa_cons (pe_lst (pa_cons (pe_meth (pv 0) (c_Road T) (m_Road_far T) GF (hr.mono (by decide)) BF .nil passF (pa_cons (pv 2) pa_nil)) (pa_cons (pe_meth (pv 0) (c_Road T) (m_Road_far T) GF (hr.mono (by decide)) BF .nil passF (pa_cons (pv 3) pa_nil)) (pa_cons (pe_cmpR (op_inO (m_Road_contains T).at_ (m_Road_contains T).fn GC BC (hr.mono (by decide)) pass0) (pv 2) (pv 0) rfl) (pa_cons (pe_cmpR (op_inO (m_Road_contains T).at_ (m_Road_contains T).fn GC BC (hr.mono (by decide)) pass0) (pv 3) (pv 0) rfl) pa_nil))))) pa_nil)) (pe_callB (call_reprQ (sm_ok T) gu (hu64 hr)) (by rfl) (n_repr T) (by decide +kernel) (pa_cons (pe_lst (pa_cons (pv 3) (pa_cons (pv 2) (pa_cons pe_bl (pa_cons pe_bl pa_nil))))) pa_nil)) (nomark _))))), ?_⟩
      obtain ⟨dx, hx⟩ := hx0
      refine ⟨_, rfl, a, _, dx, _, _, rfl, hx, c_Road T, na_Road_name T, rf_name _ _ _ _ _, _, rfl, a, _, dx, _, _, rfl, hx, c_Road T, na_Road_one T, rf_one _ _ _ _ _, _, rfl, a, _, dx, _, _, rfl, hx, c_Road T, na_Road_other T, rf_other _ _ _ _ _, _, rfl, a, (Sv.road t lo hi i j), rfl, ⟨dx, hx⟩, fun u nu => ?_⟩
      have s1 := new_same nu (.tup [.str (Sv.road t lo hi i j).ends.1, .str (Sv.road t lo hi i j).ends.2])
      have u1 : upd H u (.tup [.str (Sv.road t lo hi i j).ends.1, .str (Sv.road t lo hi i j).ends.2]) u = some (.tup [.str lo, .str hi]) := upd_same
      generalize upd H u (.tup [.str (Sv.road t lo hi i j).ends.1, .str (Sv.road t lo hi i j).ends.2]) = H1 at s1 u1
      refine ⟨(by show 4 ≤ sizeLine; decide), fun l1 n1 => ?_⟩
      have s2 := new_same n1 (.lst [.str t, .str lo, .str hi, .ref u])
      refine ⟨_, _, rfl, .lst (SqL.of upd_same) (.cons (.str _) (.cons (.str _) (.cons (.str _) (.cons (.tup (SqT.of (s2 _ _ u1)) (.cons (.str _) (.cons (.str _) .nil))) .nil)))), fe, ?_⟩
      generalize upd H1 l1 (.lst [.str t, .str lo, .str hi, .ref u]) = H2 at s2
      refine ⟨_, rfl, _, rfl, _, rfl, _, rfl, _, rfl, (by show 2 ≤ sizeLine; decide), fun u3 n3 => ?_⟩
      have s3 := new_same n3 (.tup [.str lo, .str hi])
      have e3 : upd H2 u3 (.tup [.str lo, .str hi]) u3 = some (.tup [.str lo, .str hi]) := upd_same
      generalize upd H2 u3 (.tup [.str lo, .str hi]) = H3 at s3 e3
      refine ⟨(by show 4 ≤ sizeLine; decide), fun l4 n4 => ?_⟩
      have s4 := new_same n4 (.lst [.str t, .str lo, .str hi, .ref u3])
      refine ⟨_, _, rfl, .lst (SqL.of upd_same) (.cons (.str _) (.cons (.str _) (.cons (.str _) (.cons (.tup (SqT.of (s4 _ _ e3)) (.cons (.str _) (.cons (.str _) .nil))) .nil)))), fe, rfl, _, rfl, iteFe (by rw [decide_eq_true rfl]; rfl) ?_⟩
      generalize upd H3 l4 (.lst [.str t, .str lo, .str hi, .ref u3]) = H4 at s4
      have S4 := ((s1.trans s2).trans s3).trans s4
      have x4 := S4 _ _ hx
      refine ⟨_, rfl, a, dx, _, rfl, x4, no_Road_far _ _ _ _ _, _, rfl, a, (Sv.road t lo hi i j), .str lo, rfl, rfl, ⟨dx, x4⟩, .str lo, (fun g HN eg ie sn => ?_), (fun z => absurd ((show isE lo hi (.str lo) = false from z).symm.trans el) (by decide))⟩
      cases eg
      have S5 := S4.trans sn
      have x5 := S5 _ _ hx
      refine ⟨_, rfl, a, dx, _, rfl, x5, no_Road_far _ _ _ _ _, _, rfl, a, (Sv.road t lo hi i j), .str hi, rfl, rfl, ⟨dx, x5⟩, .str hi, (fun g HN eg ie sn => ?_), (fun z => absurd ((show isE lo hi (.str hi) = false from z).symm.trans eh) (by decide))⟩
      cases eg
      have S6 := S5.trans sn
      have x6 := S6 _ _ hx
      refine ⟨_, rfl, _, rfl, a, dx, _, rfl, x6, a, (Sv.road t lo hi i j), .str lo, rfl, rfl, ⟨dx, x6⟩, .str lo, fun H7 s7 => ⟨_, rfl, ?_⟩⟩
      have S7 := S6.trans s7
      have x7 := S7 _ _ hx
      refine ⟨_, rfl, _, rfl, a, dx, _, rfl, x7, a, (Sv.road t lo hi i j), .str hi, rfl, rfl, ⟨dx, x7⟩, .str hi, fun H8 s8 => ⟨_, rfl, ?_⟩⟩
      have S8 := S7.trans s8
      have f1 : (Sv.road t lo hi i j).far lo = hi := if_pos rfl
      have f2 : (Sv.road t lo hi i j).far hi = lo := if_neg (fun z => o4 z.symm)
      refine ⟨(by show 4 ≤ sizeLine; decide), fun l9 n9 => ?_⟩
      have s9 := new_same n9 (.lst [.str ((Sv.road t lo hi i j).far lo), .str ((Sv.road t lo hi i j).far hi), .bl (isE (Sv.road t lo hi i j).ends.1 (Sv.road t lo hi i j).ends.2 (.str lo)), .bl (isE (Sv.road t lo hi i j).ends.1 (Sv.road t lo hi i j).ends.2 (.str hi))])
      refine ⟨_, .list [.str hi, .str lo, .bool true, .bool true], rfl, .lst (SqL.of upd_same) (.cons (by show Dq _ _ (.str ((Sv.road t lo hi i j).far lo)) _; rw [f1]; exact .str _) (.cons (by show Dq _ _ (.str ((Sv.road t lo hi i j).far hi)) _; rw [f2]; exact .str _) (.cons (by rw [show isE (Sv.road t lo hi i j).ends.1 (Sv.road t lo hi i j).ends.2 (.str lo) = true from el]; exact .bl _) (.cons (by rw [show isE (Sv.road t lo hi i j).ends.1 (Sv.road t lo hi i j).ends.2 (.str hi) = true from eh]; exact .bl _) .nil)))), ff, ?_⟩
      refine ⟨_, rfl, _, rfl, (by show 4 ≤ sizeLine; decide), fun l10 n10 => ?_⟩
      refine ⟨_, _, rfl, .lst (SqL.of upd_same) (.cons (.str _) (.cons (.str _) (.cons (.bl _) (.cons (.bl _) .nil)))), ff, rfl, ?_⟩
      rw [decide_eq_true rfl]
      exact k _ ((S8.trans s9).trans (new_same n10 _))
end
end K05
namespace K05
open PySem PySem.Spec PyProof.Rows L2 Hx Gx Nx KX LamX
theorem tab_but {H H' : Hp} {P p : Addr} {n : Nat} {q : Str} (t : TabS H P q) (b : But p H H') (h : PenAt H p n) : TabS H' P q := by
  obtain ⟨ps, h1, h2, h3⟩ := t
  obtain ⟨c, ns, a, r, g1, _⟩ := h
  refine ⟨ps, b _ _ (fun z => by rw [z, g1] at h1; cases h1) h1, h2, fun pos cv hc => ?_⟩
  obtain ⟨d, e1, e2⟩ := h3 pos cv hc
  refine ⟨d, e1, b _ _ (fun z => ?_) e2⟩
  rw [z, g1] at e2
  unfold CodeO at e2
  cases e2
theorem tiny_one {d : PyData} {x : Str} (h : d = .tuple [.str x] ∨ d = .list [.str x]) (h1 : x.cps.toList.length ≤ 40) (h2 : x.cps.toList.all (fun c => decide (c < 16 ^ 8)) = true) : Tiny d := by
  have e2 : x.cps.size = x.cps.toList.length := (Array.length_toList).symm
  rcases h with rfl | rfl
  · refine ⟨rfl, ?_, by simp [PyData.depth, PyData.depthAll], ?_⟩
    · show (PyData.leavesShort 8 (.str x) && PyData.leavesShortAll 8 []) = true
      simp only [PyData.leavesShort, PyData.leavesShortAll, Bool.and_true]
      exact h2
    · have e : PyData.weight (.tuple [.str x]) = x.cps.size + 1 + 0 := rfl
      rw [e]
      omega
  · refine ⟨rfl, ?_, by simp [PyData.depth, PyData.depthAll], ?_⟩
    · show (PyData.leavesShort 8 (.str x) && PyData.leavesShortAll 8 []) = true
      simp only [PyData.leavesShort, PyData.leavesShortAll, Bool.and_true]
      exact h2
    · have e : PyData.weight (.list [.str x]) = x.cps.size + 1 + 0 := rfl
      rw [e]
      omega
theorem tiny_two {x y : Str} (h1 : x.cps.toList.length ≤ 40) (h2 : x.cps.toList.all (fun c => decide (c < 16 ^ 8)) = true) (g1 : y.cps.toList.length ≤ 40) (g2 : y.cps.toList.all (fun c => decide (c < 16 ^ 8)) = true) : Tiny (.tuple [.str x, .str y]) := by
  have e2 : x.cps.size = x.cps.toList.length := (Array.length_toList).symm
  have e3 : y.cps.size = y.cps.toList.length := (Array.length_toList).symm
  refine ⟨rfl, ?_, by simp [PyData.depth, PyData.depthAll], ?_⟩
  · show (PyData.leavesShort 8 (.str x) && (PyData.leavesShort 8 (.str y) && PyData.leavesShortAll 8 [])) = true
    simp only [PyData.leavesShort, PyData.leavesShortAll, Bool.and_true, Bool.and_eq_true]
    exact ⟨h2, g2⟩
  · have e : PyData.weight (.tuple [.str x, .str y]) = x.cps.size + 1 + (y.cps.size + 1 + 0) := rfl
    rw [e]
    omega
/-- what is heard of a value that is no end -/
def HeardN (l : Addr) (e : Bool) (x : V) : Hp → V → Prop := fun H v => e = false → (ItC x H v ∧ ∀ t, v = .ref t → t ≠ l)
theorem stab_N (l : Addr) (e : Bool) (x : V) : Stab l (HeardN l e x) := fun H H' v h k he => stab_C l x H H' v (h he) k
theorem fineP2 {a b : PyData} (ha : a.showable = true ∧ a.leavesShort 8 = true ∧ a.depth ≤ 3 ∧ a.weight ≤ 300) (hb : b.showable = true ∧ b.leavesShort 8 = true ∧ b.depth ≤ 3 ∧ b.weight ≤ 300) : fine (.list [a, b]) = true := by
  unfold fine
  simp only [Bool.and_eq_true, decide_eq_true_eq]
  refine ⟨?_, ?_, ?_, ?_⟩
  · simp [PyData.showable, PyData.showableAll, ha.1, hb.1]
  · simp [PyData.leavesShort, PyData.leavesShortAll, ha.2.1, hb.2.1]
  · have := ha.2.2.1
    have := hb.2.2.1
    simp only [PyData.depth, PyData.depthAll]
    omega
  · have e : PyData.weight (.list [a, b]) = a.weight + 1 + (b.weight + 1 + 0) := rfl
    have := ha.2.2.2
    have := hb.2.2.2
    rw [e]
    omega
section
variable {P : Program} {w : World} {K : PySem.W.Frag} {mg : Str → Option Value} {base : Heap}
/-- the table of the lambdas' code objects -/
abbrev TP (K : PySem.W.Frag) : Addr := (He.cT K ("_law_odd_right", none)).2
abbrev TQ : Str := "_law_odd_right" ++ ".<locals>." ++ "<lambda>"
theorem pe_heard {X : Cx} {params : Arguments} {body : Expr} {scope : Scope} {t : XK → TE} {p lpos pos : Pos} (T : Tx X.K X.mg) (hg : Gl X "_law_heard") (TB : TabB X.base X.mg (He.cT X.K ("_law_odd_right", none)).1 (TP X.K))
    (hcode : X.env.code = .ref (He.cT X.K ("_law_odd_right", none)).1) (hq : X.env.qual ++ "<lambda>" = TQ) (hr : Room 8 X.A) (L : LamS X.env.scope scope) (hdef : defaultsOf params X.env = ([], []))
    (hbind : ∀ (q : Str) (cl : List (Str × Addr)) (pm cv ctv : Value), bindArgs (PySem.W.kla_fn "<lambda>" q params body scope cl pm cv ctv) ⟨[], []⟩ = pure [])
    (hbody : ∀ (A : Around) (outer : List Env) (s : Shared) (H : Hp) (E : XK) (f c' : Addr), Room 6 (A.deeper (lamEnv X scope s.heap.objs.size f c')) → PE (lamCx X A outer s H E scope f c') body (t E)) :
    PE X (.Call (.Name "_law_heard" p) [.Lambda params body scope lpos] [] pos) (tLam [(TP X.K, TQ)] (THeard X.K) t) := by
  obtain ⟨fd, F⟩ := f__law_heard T
  have hb := F.bindsN (ps := ["_law_ask"]) fun _ _ _ _ _ _ us hl => match us, hl with | [_], _ => rfl
  obtain ⟨oc, od, dV, kV, doc, pm, an, cdv, ct, osl, rfl, lk, hcd, _, _⟩ := F.ex
  exact pe_lamcall (k := 6) hg (g__law_heard T) F.kp lk hcd hb sc_heard rfl (.inl rfl) (heard_gives T) TB hcode (by rw [hq]; exact List.mem_singleton.mpr rfl) (by intro p hp _; rw [List.mem_singleton.mp hp, hq]) hr L hdef hbind hbody
theorem tabs1 {H : Hp} (t : TabS H (TP K) TQ) : Tabs [(TP K, TQ)] H := fun p hp => by rw [List.mem_singleton.mp hp]; exact t
theorem tabs2 {H : Hp} (t : Tabs [(TP K, TQ)] H) : TabS H (TP K) TQ := t _ (List.mem_singleton.mpr rfl)
theorem new_none {H1 H' : Hp} {p : Addr} (s : Same H1 H') (n : H' p = none) : H1 p = none := by
  cases q : H1 p with
  | none => rfl
  | some o =>
    have z := s _ _ q
    rw [n] at z
    cases z
/-- a value is asked for as an end, and what is heard -/
theorem askedN {H1 : Hp} {Q : VK} {Qn : Sv → Str → Hp → Prop} {a : Addr} {v : Sv} {x : V} {c : Str} {ans : Sv → Str → V} (hc : v.cls = c) (hx : StAt K H1 a v) (kd : Kd H1 x)
    (kk : ∀ (H' : Hp) (y : V), Same H1 H' → (isE v.ends.1 v.ends.2 x = false → ItC x H' y) → Q y H')
    (kn : ∀ g H', (∀ p, H' p = none → Q (.ref p) (upd H' p (.lst [ans v g]))) → Qn v g H') :
    ∃ (a' : Addr) (v' : Sv) (x' : V), [V.ref a, x] = [V.ref a', x'] ∧ v'.cls = c ∧ StAt K H1 a' v' ∧ Kd H1 x' ∧ (∀ g H', x' = .str g → v'.isEnd g → Same H1 H' → Qn v' g H') ∧ (isE v'.ends.1 v'.ends.2 x' = false → Out K "NoCorner" "name" x' H1 (fun cls d H' => Hrd K cls d H' Q)) := by
  refine ⟨a, v, x, rfl, hc, hx, kd, fun g H' e ie s => kn _ _ fun p np => kk _ _ (s.trans (new_same np _)) (fun z => ?_), fun e => fun H' d s h => ⟨d, x, rfl, rfl, h, fun H2 p s2 h2 => kk _ _ (s.trans s2) (fun _ => ⟨p, rfl, h2⟩)⟩⟩
  rw [e] at z
  rcases ie with rfl | rfl <;> simp [isE] at z
theorem askedS {H1 : Hp} {Q : VK} {Qn : Addr → Hp → Prop} {a : Addr} {t lo hi : Str} {i j : Int} {x : V} (hx : StAt K H1 a (.road t lo hi i j)) (ok : okEnds t lo hi = true) (kd : Kd H1 x)
    (kk : ∀ (H' : Hp) (y : V), Same H1 H' → (isE lo hi x = false → ItC x H' y) → Q y H')
    (kn : ∀ y H', (∀ p, H' p = none → Q (.ref p) (upd H' p (.lst [.ref y]))) → Qn y H') :
    ∃ (a' : Addr) (v' : Sv) (x' : V), [V.ref a, x] = [V.ref a', x'] ∧ v'.cls = "Road" ∧ StAt K H1 a' v' ∧ (∃ t lo hi i j, v' = .road t lo hi i j ∧ okEnds t lo hi = true) ∧ Kd H1 x' ∧ (∀ g y H', x' = .str g → v'.isEnd g → Same H1 H' → Qn y H') ∧ (isE v'.ends.1 v'.ends.2 x' = false → Out K "NoCorner" "name" x' H1 (fun cls d H' => Hrd K cls d H' Q)) := by
  refine ⟨a, _, x, rfl, rfl, hx, ⟨t, lo, hi, i, j, rfl, ok⟩, kd, fun g y H' e ie s => kn _ _ fun p np => kk _ _ (s.trans (new_same np _)) (fun z => ?_), fun e => fun H' d s h => ⟨d, x, rfl, rfl, h, fun H2 p s2 h2 => kk _ _ (s.trans s2) (fun _ => ⟨p, rfl, h2⟩)⟩⟩
  have ie : g = lo ∨ g = hi := ie
  rw [e] at z
  rcases ie with rfl | rfl <;> simp [isE] at z
/-- it is apart from a list that was there -/
theorem apartN {l : Addr} {H1 H' : Hp} {e : Bool} {x y : V} {o : List V} (hl : H1 l = some (.lst o)) (s : Same H1 H') (r : e = false → ItC x H' y) : HeardN l e x H' y := fun he => by
  obtain ⟨u, rfl, h⟩ := r he
  refine ⟨⟨u, rfl, h⟩, fun t e => ?_⟩
  cases e
  exact ne_of h (s _ _ hl) (by intro z; cases z)
theorem apartN0 {l : Addr} {H' : Hp} {e : Bool} {x y : V} (hl : H' l = none) (r : e = false → ItC x H' y) : HeardN l e x H' y := fun he => by
  obtain ⟨u, rfl, h⟩ := r he
  refine ⟨⟨u, rfl, h⟩, fun t e => ?_⟩
  cases e
  exact ne_of_none h hl
theorem paired4 {α β : Type} {R : α → β → Prop} {a b c d : α} {A B C D : β} (h : Paired R ([a] ++ [b] ++ [c] ++ [d]) ([A] ++ [B] ++ [C] ++ [D])) : R a A ∧ R b B ∧ R c C ∧ R d D := by
  have h2 : Paired R [a, b, c, d] [A, B, C, D] := h
  cases h2 with
  | cons h1 r => cases r with
    | cons h2 r => cases r with
      | cons h3 r => cases r with
        | cons h4 r => exact ⟨h1, h2, h3, h4⟩
theorem paired2 {α β : Type} {R : α → β → Prop} {a b : α} {A B : β} (h : Paired R ([a] ++ [b]) ([A] ++ [B])) : R a A ∧ R b B := by
  have h2 : Paired R [a, b] [A, B] := h
  cases h2 with
  | cons h1 r => cases r with
    | cons h2 r => exact ⟨h1, h2⟩
theorem heardN2 {G H : Hp} {P l : Addr} {q : Str} {e : Bool} {v w1 w2 : V} {D : PyData} (he : e = false)
    (S : SttG G H P q l ([w1] ++ [w2]) ([HeardN l e v] ++ [HeardN l e v])) (d : Dq K H v D) :
    Dq K H (.ref l) (.list [.tuple [.str "corner", D], .tuple [.str "corner", D]]) := by
  obtain ⟨h1, h2⟩ := paired2 S.vals
  exact .lst (SqL.of S.at_) (.cons (Dq.tupC (h1 he).1 d) (.cons (Dq.tupC (h2 he).1 d) .nil))
theorem heardN4 {G H : Hp} {P l : Addr} {q : Str} {e : Bool} {v w1 w2 w3 w4 : V} {D : PyData} (he : e = false)
    (S : SttG G H P q l ([w1] ++ [w2] ++ [w3] ++ [w4]) ([HeardN l e v] ++ [HeardN l e v] ++ [HeardN l e v] ++ [HeardN l e v])) (d : Dq K H v D) :
    Dq K H (.ref l) (.list [.tuple [.str "corner", D], .tuple [.str "corner", D], .tuple [.str "corner", D], .tuple [.str "corner", D]]) := by
  obtain ⟨h1, h2, h3, h4⟩ := paired4 S.vals
  exact .lst (SqL.of S.at_) (.cons (Dq.tupC (h1 he).1 d) (.cons (Dq.tupC (h2 he).1 d) (.cons (Dq.tupC (h3 he).1 d) (.cons (Dq.tupC (h4 he).1 d) .nil))))
def Th (K : PySem.W.Frag) (H : Hp) (v : V) : Prop := ∃ D, Kd H v ∧ Dq K H v D ∧ Tiny D
def spOdd (K : PySem.W.Frag) : Sp := fun vs H Q _ => ∃ (p a : Addr) (n : Nat) (t lo hi : Str) (v : Sv), vs = [.ref p, .ref a, .str lo, .str hi] ∧ PenAt H p n ∧ n ≤ 80000 ∧ StAt K H a v ∧ Evn t lo hi v ∧ okEnds t lo hi = true ∧ TabS H (TP K) TQ ∧
  ∀ H', EB p H H' → PenAt H' p (n + 1) → TabS H' (TP K) TQ → Q (.bl true) H'
theorem sc_odd : FnScope ["_law_pen_here", "_law_street", "_law_low", "_law_high", "_law_heard_here", "_law_is_end", "_law_odd"] ["_law_pen_here", "_law_street", "_law_low", "_law_high"] (defScope s__law_odd_right) := ⟨rfl, rfl, rfl, by decide +kernel, rfl, by decide +kernel, by decide +kernel⟩
theorem p_odd (T : Tx K mg) (TB : TabB base mg (He.cT K ("_law_odd_right", none)).1 (TP K)) : PromG P w K mg base 9 d__law_odd_right ["_law_pen_here", "_law_street", "_law_low", "_law_high"] (spOdd K) := by
  obtain ⟨fd, F⟩ := f__law_odd_right T
  obtain ⟨fdK, FK, GK, BK⟩ := p_pick (P := P) (w := w) (base := base) T
  obtain ⟨fdP, FP, GP, BP⟩ := p_Road_price (P := P) (w := w) (base := base) T
  obtain ⟨fdS, FS, GS, BS⟩ := p_Road_signed (P := P) (w := w) (base := base) T
  refine ⟨fd, F, FnG.bodyT (p := ("_law_odd_right", none)) rfl F sc_odd (fun vs H Q E h => ?_) (fun A outer s H vs Q E hr gu h => ?_), F.bindsN fun _ _ _ _ _ _ us hl => match us, hl with | [_, _, _, _], _ => rfl⟩
  · obtain ⟨p, a, n, t, lo, hi, v, rfl, _⟩ := h
    rfl
  · obtain ⟨p, a, n, t, lo, hi, v, rfl, hp, hn, hx0, ev, ok, tb, k⟩ := h
    cases ev with
    | av =>
      obtain ⟨fdF, FF, GF, BF⟩ := p_Avenue_far (P := P) (w := w) (base := base) T
      obtain ⟨fdL, FL, GL, BL⟩ := p_Avenue_leads (P := P) (w := w) (base := base) T
      obtain ⟨fdC, FC, GC, BC⟩ := p_Avenue_contains (P := P) (w := w) (base := base) T
      refine ⟨_, PSs.nox (pss_cons (ps_set (i := 6) sc_odd.nd rfl (Or.inr rfl) (pe_call GK (hr.mono (by decide)) rfl (g__law_pick T) FK.kp BK .nil pass0 (pa_cons (pv 0) (pa_cons (pe_lst (pa_cons pe_non (pa_cons pe_bl (pa_cons pe_int (pa_cons pe_str (pa_cons (pe_op op_add_str (pv 2) pe_str) (pa_cons (pe_tup (pa_cons (pv 2) pa_nil)) (pa_cons (pe_lst (pa_cons (pv 3) pa_nil)) (pa_cons pe_dnewK (pa_cons (pe_tup (pa_cons (pv 2) (pa_cons (pv 3) pa_nil))) (pa_cons (pe_op op_add_str (pe_op op_add_str (pv 2) pe_str) (pv 3)) (pa_cons pe_str (pa_cons pe_str pa_nil))))))))))))) pa_nil))))
      (pss_cons (ps_set (i := 4) sc_odd.nd rfl (Or.inl rfl) (pe_lst (pa_cons (pe_heard T rfl TB rfl rfl hr (lamS_by (sc := defScope s__law_odd_right) (by decide +kernel)) rfl (fun _ _ _ _ _ => rfl) (fun A outer s H E f c' hr6 => pe_meth (pv 1) (c_Avenue T) (m_Avenue_far T) GF (hr6.mono (by decide)) BF .nil (passes_call (takes_of rfl rfl rfl rfl) (fun _ _ _ _ h => h)) (pa_cons (pv 6) pa_nil))) pa_nil)))
      (pss_cons (ps_expr (pe_bm PySem.F.plainAttrs_list PySem.F.slot_list_append PySem.F.type_list_append mt_append (pv 4) (pa_cons (pe_heard T rfl TB rfl rfl hr (lamS_by (sc := defScope s__law_odd_right) (by decide +kernel)) rfl (fun _ _ _ _ _ => rfl) (fun A outer s H E f c' hr6 => pe_meth (pv 1) (c_Avenue T) (m_Avenue_leads T) GL (hr6.mono (by decide)) BL .nil (passes_call (takes_of rfl rfl rfl rfl) (fun _ _ _ _ h => h)) (pa_cons (pv 6) pa_nil))) pa_nil)))
      (pss_cons (ps_if (pt_val (pe_callB call_isi (by rfl) (n_isinstance T) (by decide +kernel) (pa_cons (pv 1) (pa_cons (pe_glob (v := .ref (He.ga K "Road")) rfl (g_Road T) rfl) pa_nil)))) (pss_cons (ps_expr (pe_bm PySem.F.plainAttrs_list PySem.F.slot_list_append PySem.F.type_list_append mt_append (pv 4) (pa_cons (pe_heard T rfl TB rfl rfl hr (lamS_by (sc := defScope s__law_odd_right) (by decide +kernel)) rfl (fun _ _ _ _ _ => rfl) (fun A outer s H E f c' hr6 => pe_meth (pv 1) (c_Road T) (m_Road_price T) GP (hr6.mono (by decide)) BP .nil (passes_call (takes_of rfl rfl rfl rfl) (fun _ _ _ _ h => h)) (pa_cons (pv 6) pa_nil))) pa_nil)))
      (pss_one (ps_expr (pe_bm PySem.F.plainAttrs_list PySem.F.slot_list_append PySem.F.type_list_append mt_append (pv 4) (pa_cons (pe_heard T rfl TB rfl rfl hr (lamS_by (sc := defScope s__law_odd_right) (by decide +kernel)) rfl (fun _ _ _ _ _ => rfl) (fun A outer s H E f c' hr6 => pe_meth (pv 1) (c_Road T) (m_Road_signed T) GS (hr6.mono (by decide)) BS .nil (passes_call (takes_of rfl rfl rfl rfl) (fun _ _ _ _ h => h)) (pa_cons (pv 6) pa_nil))) pa_nil))))) pss_nil)
      (pss_cons (ps_set (i := 5) sc_odd.nd rfl (Or.inl rfl) (pe_cmpR (op_inKL (hu64 hr)) (pv 6) (pe_lst (pa_cons (pv 2) (pa_cons (pv 3) pa_nil))) rfl))
      (pss_one (ps_ret (pe_or (pv 5) (pe_one (pe_and (pe_cmpR op_eq (pe_callB (call_reprQ (sm_ok T) gu (hu64 hr)) (by rfl) (n_repr T) (by decide +kernel) (pa_cons (pv 4) pa_nil)) (pe_callB (call_reprQ (sm_ok T) gu (hu64 hr)) (by rfl) (n_repr T) (by decide +kernel) (pa_cons (pe_op op_rep (pe_lst (pa_cons (pe_tup (pa_cons pe_str (pa_cons (pv 6) pa_nil))) pa_nil)) (pe_callB call_len_seq (by rfl) (n_len T) (by decide +kernel) (pa_cons (pv 4) pa_nil))) pa_nil)) (nomark _)) (pe_one (pe_cmpR op_isBl (pe_cmpR (op_inO (m_Avenue_contains T).at_ (m_Avenue_contains T).fn GC BC (hr.mono (by decide)) pass0) (pv 6) (pv 1) rfl) pe_bl (nomark _))))))))))))), ?_⟩
      obtain ⟨o1, o2, o3, o4⟩ := okEnds_iff ok
      obtain ⟨dx, hx⟩ := hx0
      have f8 := name8 o2
      have g8 := name8 o3
      have big : (40 : Nat) ≤ sizeLine := by decide
      have lq : (Str.ofString "q").length = 1 := by decide
      have ls : (Str.ofString " ").length = 1 := by decide
      refine ⟨_, rfl, _, rfl, _, _, rfl, rfl, by rw [lq]; omega, ?_⟩
      refine ⟨_, rfl, (by show 1 ≤ sizeLine; decide), fun u nu => ?_⟩
      have s1 := new_same nu (.tup [.str lo])
      have u1 : upd H u (.tup [.str lo]) u = some (.tup [.str lo]) := upd_same
      generalize upd H u (.tup [.str lo]) = H1 at s1 u1
      refine ⟨_, rfl, (by show 1 ≤ sizeLine; decide), fun l nl => ?_⟩
      have s2 := new_same nl (.lst [.str hi])
      have l2 : upd H1 l (.lst [.str hi]) l = some (.lst [.str hi]) := upd_same
      generalize upd H1 l (.lst [.str hi]) = H2 at s2 l2
      refine fun d nd => ?_
      have s3 := new_same nd (.dK [])
      have d3 : upd H2 d (.dK []) d = some (.dK []) := upd_same
      generalize upd H2 d (.dK []) = H3 at s3 d3
      refine ⟨_, rfl, _, rfl, (by show 2 ≤ sizeLine; decide), fun q nq => ?_⟩
      have s4 := new_same nq (.tup [.str lo, .str hi])
      have q4 : upd H3 q (.tup [.str lo, .str hi]) q = some (.tup [.str lo, .str hi]) := upd_same
      generalize upd H3 q (.tup [.str lo, .str hi]) = H4 at s4 q4
      refine ⟨_, rfl, _, _, rfl, rfl, by rw [ls]; omega, _, rfl, _, _, rfl, rfl, by rw [Str.length_append, ls]; omega, (by show 12 ≤ sizeLine; decide), fun od nod => ?_⟩
      have s5 := new_same nod (.lst [.non, .bl true, .int 0, .str "", .str (lo ++ "q"), .ref u, .ref l, .ref d, .ref q, .str (lo ++ " " ++ hi), .str "A", .str "-"])
      have od5 : upd H4 od (.lst [.non, .bl true, .int 0, .str "", .str (lo ++ "q"), .ref u, .ref l, .ref d, .ref q, .str (lo ++ " " ++ hi), .str "A", .str "-"]) od = some (.lst [.non, .bl true, .int 0, .str "", .str (lo ++ "q"), .ref u, .ref l, .ref d, .ref q, .str (lo ++ " " ++ hi), .str "A", .str "-"]) := upd_same
      have s14 := ((s1.trans s2).trans s3).trans s4
      have podne := ((hp.same s14).ne nod).symm
      generalize upd H4 od (.lst [.non, .bl true, .int 0, .str "", .str (lo ++ "q"), .ref u, .ref l, .ref d, .ref q, .str (lo ++ " " ++ hi), .str "A", .str "-"]) = H5 at s5 od5
      have S5 := s14.trans s5
      have p5 := hp.same S5
      have u5 := s5 _ _ (s4 _ _ (s3 _ _ (s2 _ _ u1)))
      have l5 := s5 _ _ (s4 _ _ (s3 _ _ l2))
      have d5 := s5 _ _ (s4 _ _ d3)
      have q5 := s5 _ _ q4
      have une := (hp.ne nu).symm
      have lne := ((hp.same s1).ne nl).symm
      have dne := ((hp.same (s1.trans s2)).ne nd).symm
      have qne := ((hp.same ((s1.trans s2).trans s3)).ne nq).symm
      have ane : a ≠ p := by
        obtain ⟨c, ns, a2, r, h1, _⟩ := hp
        exact ne_of hx h1 (by intro z; cases z)
      have nl8 : ∀ {x : Str}, nameB x = true → x.cps.toList.length ≤ 8 ∧ x.cps.toList.all (fun c => decide (c < 16 ^ 8)) = true := fun {x} h => by
        obtain ⟨h1, h2, h3⟩ := nameB_iff.mp h
        refine ⟨h2, ?_⟩
        rw [List.all_eq_true] at h3 ⊢
        intro c hc
        have z := h3 c hc
        unfold isLow at z
        simp only [Bool.and_eq_true, decide_eq_true_eq] at z ⊢
        omega
      have nmT : ∀ {x : Str}, nameB x = true → Tiny (.str x) := fun {x} h => tiny_str (by have := (nl8 h).1; omega) (nl8 h).2
      have apT : ∀ {x y : Str}, x.cps.toList.length ≤ 40 → x.cps.toList.all (fun c => decide (c < 16 ^ 8)) = true → y.cps.toList.length ≤ 40 → y.cps.toList.all (fun c => decide (c < 16 ^ 8)) = true → ((x ++ y).cps.toList.length ≤ 80 ∧ (x ++ y).cps.toList.all (fun c => decide (c < 16 ^ 8)) = true) := fun {x y} a b c d => by
        rw [Str.cps_append, Array.toList_append, List.length_append, List.all_append, b, d]
        exact ⟨by omega, rfl⟩
      refine ⟨p, od, n, _, rfl, p5, by omega, SqL.of od5, podne, (by show 0 < 12; decide), (by show 12 ≤ 1000; decide), fun G z b6 p6 mz => ?_⟩
      have u5 := b6 _ _ une u5
      have l5 := b6 _ _ lne l5
      have d5 := b6 _ _ dne d5
      have q5 := b6 _ _ qne q5
      have thz : Th K G z := by
        obtain ⟨nf1, nf2⟩ := nl8 o2
        obtain ⟨ng1, ng2⟩ := nl8 o3
        simp only [List.mem_cons, List.not_mem_nil, or_false] at mz
        rcases mz with rfl | rfl | rfl | rfl | rfl | rfl | rfl | rfl | rfl | rfl | rfl | rfl
        · exact ⟨_, .non, .non, ⟨rfl, rfl, by decide, by decide⟩⟩
        · exact ⟨_, .bl _, .bl _, ⟨rfl, rfl, by decide, by decide⟩⟩
        · exact ⟨_, .int _, .int _, ⟨by decide, by decide +kernel, by decide, by decide⟩⟩
        · exact ⟨_, .str _, .str _, tiny_str (by decide +kernel) (by decide +kernel)⟩
        · obtain ⟨a1, a2⟩ := apT (by omega) nf2 (y := "q") (by decide +kernel) (by decide +kernel)
          exact ⟨_, .str _, .str _, tiny_str (by omega) a2⟩
        · refine ⟨_, .tup u5, .tup (SqT.of u5) (.cons (.str _) .nil), ?_⟩
          exact tiny_one (.inl rfl) (by omega) nf2
        · refine ⟨_, .lst l5, .lst (SqL.of l5) (.cons (.str _) .nil), ?_⟩
          exact tiny_one (.inr rfl) (by omega) ng2
        · exact ⟨_, .dct d5, .dct d5, ⟨rfl, rfl, by decide, by decide⟩⟩
        · refine ⟨_, .tup q5, .tup (SqT.of q5) (.cons (.str _) (.cons (.str _) .nil)), ?_⟩
          exact tiny_two (by omega) nf2 (by omega) ng2
        · obtain ⟨a1, a2⟩ := apT (by omega) nf2 (y := " ") (by decide +kernel) (by decide +kernel)
          have a3 : (lo ++ " ").cps.toList.length ≤ 40 := by
            rw [Str.cps_append, Array.toList_append, List.length_append]
            have : (Str.ofString " ").cps.toList.length = 1 := by decide +kernel
            omega
          obtain ⟨b1, b2⟩ := apT a3 a2 (y := hi) (by omega) ng2
          exact ⟨_, .str _, .str _, tiny_str (by omega) b2⟩
        · exact ⟨_, .str _, .str _, tiny_str (by decide +kernel) (by decide +kernel)⟩
        · exact ⟨_, .str _, .str _, tiny_str (by decide +kernel) (by decide +kernel)⟩
      obtain ⟨D, kd, dq, tn⟩ := thz
      have xG := b6 _ _ ane (S5 _ _ hx)
      have tG : TabS G (TP K) TQ := tab_but (tab_same tb S5) b6 p5
      have EG : EB p H G := fun b o nb hb _ => b6 b o nb (S5 _ _ hb)
      clear u5 l5 d5 q5 od5 s1 s2 s3 s4 s5 u1 l2 d3 q4 s14 S5 p5 mz podne
      -- far
      refine ⟨tabs1 tG, fun H3 e3 t3 => ?_⟩
      have x3 := e3 _ _ xG (fun ps z => by cases z)
      refine ⟨_, rfl, a, dx, _, rfl, x3, no_Avenue_far _ _ _, _, rfl, askedN (c := "Avenue") (v := (Sv.avenue t lo hi)) (ans := fun v g => .str (v.far g)) rfl ⟨dx, x3⟩ (kd.ext e3) (fun H4 w1 s4 r4 => ⟨(by show 1 ≤ sizeLine; decide), fun hl nhl => ?_⟩) (by exact fun _ _ h => h)⟩
      have S1 := SttG.start (H0 := G) e3 (tabs2 t3) s4 (apartN0 (e := isE lo hi z) nhl r4) (stab_N _ _ _) nhl
      generalize upd H4 hl (.lst [w1]) = H5 at S1
      -- leads
      refine ⟨_, rfl, .inl ⟨rfl, _, SqL.of S1.at_⟩, tabs1 S1.tab, fun H6 e6 t6 => ?_⟩
      have e6' := S1.ext.trans e6
      have x6 := e6' _ _ xG (fun ps z => by cases z)
      refine ⟨_, rfl, a, dx, _, rfl, x6, no_Avenue_leads _ _ _, _, rfl, askedN (c := "Avenue") (v := (Sv.avenue t lo hi)) (ans := fun v g => .bl (v.leads g)) rfl ⟨dx, x6⟩ (kd.ext e6') (fun H7 w2 s7 r7 => ?_) (by exact fun _ _ h => h)⟩
      obtain ⟨l7, S2⟩ := S1.step e6 (tabs2 t6) s7 (apartN (e := isE lo hi z) (e6 _ _ S1.at_ (fun ps z => by cases z)) s7 r7) (stab_N _ _ _)
      refine ⟨hl, _, _, rfl, rfl, l7, (by show 1 < sizeLine; decide), ?_⟩
      generalize upd H7 hl (.lst ([w1] ++ [w2])) = H8 at S2
      have x8 := S2.ext _ _ xG (fun ps z => by cases z)
      refine ⟨_, rfl, _, _, _, _, _, rfl, .own _, tyx_st T ⟨dx, x8⟩, k_Avenue_Road T, _, rfl, iteF ?_⟩
      refine ⟨_, rfl, _, rfl, _, rfl, (by show 2 ≤ sizeLine; decide), fun l9 n9 => ⟨l9, lo, hi, rfl, SqL.of upd_same, (kd.ext S2.ext).same (new_same n9 _), ?_⟩⟩
      have SA := S2.same (new_same n9 (.lst [.str lo, .str hi]))
      generalize upd H8 l9 (.lst [.str lo, .str hi]) = HA at SA
      cases e : isE lo hi z with
      | true =>
        exact ⟨_, rfl, _, rfl, iteT (k HA (EG.trans (EB.ext SA.ext)) (p6.ext SA.ext) SA.tab)⟩
      | false =>
        refine ⟨_, rfl, _, rfl, iteF ?_⟩
        have fe : fine (.list [.tuple [.str "corner", D], .tuple [.str "corner", D]]) = true := fineP2 tn.pair tn.pair
        refine ⟨_, rfl, _, _, rfl, heardN2 e SA (dq.ext SA.ext), fe, _, rfl, (by show 2 ≤ sizeLine; decide), fun u nu => ⟨(by show 1 ≤ sizeLine; decide), fun k1 n1 => ?_⟩⟩
        have SB := (SA.same (new_same nu (.tup [.str "corner", z]))).same (new_same n1 (.lst [.ref u]))
        have ut := (new_same n1 (.lst [.ref u])) _ _ (upd_same (H := HA) (a := u) (o := .tup [.str "corner", z]))
        have kt : upd (upd HA u (.tup [.str "corner", z])) k1 (.lst [.ref u]) k1 = some (.lst [.ref u]) := upd_same
        generalize upd (upd HA u (.tup [.str "corner", z])) k1 (.lst [.ref u]) = HB at SB ut kt
        refine ⟨_, rfl, hl, _, rfl, .inl (SqL.of SB.at_), k1, 2, [.ref u], rfl, rfl, kt, by decide, by decide, (by show 2 ≤ sizeLine; decide), fun dl ndl => ?_⟩
        have SC := SB.same (new_same ndl (.lst [.ref u, .ref u]))
        have uc := (new_same ndl (.lst [.ref u, .ref u])) _ _ ut
        have dlt : upd HB dl (.lst [.ref u, .ref u]) dl = some (.lst [.ref u, .ref u]) := upd_same
        have e4 : (List.replicate (Int.toNat 2) [V.ref u]).flatten = [.ref u, .ref u] := rfl
        rw [e4]
        generalize upd HB dl (.lst [.ref u, .ref u]) = HC at SC uc dlt
        have dc : Dq K HC (.ref u) (.tuple [.str "corner", D]) := Dq.tupC ⟨u, rfl, uc⟩ (dq.ext SC.ext)
        have xz := SC.ext _ _ xG (fun ps z => by cases z)
        refine ⟨_, _, rfl, .lst (SqL.of dlt) (.cons dc (.cons dc .nil)), fe, rfl, ?_⟩
        rw [decide_eq_true rfl]
        refine ⟨_, rfl, iteT ?_⟩
        refine ⟨_, rfl, _, rfl, a, dx, _, rfl, xz, a, (Sv.avenue t lo hi), z, rfl, rfl, ⟨dx, xz⟩, kd.ext SC.ext, fun HZ sz => ⟨_, rfl, _, _, rfl, rfl, ?_⟩⟩
        have SZ := SC.same sz
        rw [show isE (Sv.avenue t lo hi).ends.1 (Sv.avenue t lo hi).ends.2 z = false from e]
        exact k HZ (EG.trans (EB.ext SZ.ext)) (p6.ext SZ.ext) SZ.tab
    | rd i j pi pj =>
      obtain ⟨fdF, FF, GF, BF⟩ := p_Road_far (P := P) (w := w) (base := base) T
      obtain ⟨fdL, FL, GL, BL⟩ := p_Road_leads (P := P) (w := w) (base := base) T
      obtain ⟨fdC, FC, GC, BC⟩ := p_Road_contains (P := P) (w := w) (base := base) T
      refine ⟨_, PSs.nox (pss_cons (ps_set (i := 6) sc_odd.nd rfl (Or.inr rfl) (pe_call GK (hr.mono (by decide)) rfl (g__law_pick T) FK.kp BK .nil pass0 (pa_cons (pv 0) (pa_cons (pe_lst (pa_cons pe_non (pa_cons pe_bl (pa_cons pe_int (pa_cons pe_str (pa_cons (pe_op op_add_str (pv 2) pe_str) (pa_cons (pe_tup (pa_cons (pv 2) pa_nil)) (pa_cons (pe_lst (pa_cons (pv 3) pa_nil)) (pa_cons pe_dnewK (pa_cons (pe_tup (pa_cons (pv 2) (pa_cons (pv 3) pa_nil))) (pa_cons (pe_op op_add_str (pe_op op_add_str (pv 2) pe_str) (pv 3)) (pa_cons pe_str (pa_cons pe_str pa_nil))))))))))))) pa_nil))))
      (pss_cons (ps_set (i := 4) sc_odd.nd rfl (Or.inl rfl) (pe_lst (pa_cons (pe_heard T rfl TB rfl rfl hr (lamS_by (sc := defScope s__law_odd_right) (by decide +kernel)) rfl (fun _ _ _ _ _ => rfl) (fun A outer s H E f c' hr6 => pe_meth (pv 1) (c_Road T) (m_Road_far T) GF (hr6.mono (by decide)) BF .nil (passes_call (takes_of rfl rfl rfl rfl) (fun _ _ _ _ h => h)) (pa_cons (pv 6) pa_nil))) pa_nil)))
      (pss_cons (ps_expr (pe_bm PySem.F.plainAttrs_list PySem.F.slot_list_append PySem.F.type_list_append mt_append (pv 4) (pa_cons (pe_heard T rfl TB rfl rfl hr (lamS_by (sc := defScope s__law_odd_right) (by decide +kernel)) rfl (fun _ _ _ _ _ => rfl) (fun A outer s H E f c' hr6 => pe_meth (pv 1) (c_Road T) (m_Road_leads T) GL (hr6.mono (by decide)) BL .nil (passes_call (takes_of rfl rfl rfl rfl) (fun _ _ _ _ h => h)) (pa_cons (pv 6) pa_nil))) pa_nil)))
      (pss_cons (ps_if (pt_val (pe_callB call_isi (by rfl) (n_isinstance T) (by decide +kernel) (pa_cons (pv 1) (pa_cons (pe_glob (v := .ref (He.ga K "Road")) rfl (g_Road T) rfl) pa_nil)))) (pss_cons (ps_expr (pe_bm PySem.F.plainAttrs_list PySem.F.slot_list_append PySem.F.type_list_append mt_append (pv 4) (pa_cons (pe_heard T rfl TB rfl rfl hr (lamS_by (sc := defScope s__law_odd_right) (by decide +kernel)) rfl (fun _ _ _ _ _ => rfl) (fun A outer s H E f c' hr6 => pe_meth (pv 1) (c_Road T) (m_Road_price T) GP (hr6.mono (by decide)) BP .nil (passes_call (takes_of rfl rfl rfl rfl) (fun _ _ _ _ h => h)) (pa_cons (pv 6) pa_nil))) pa_nil)))
      (pss_one (ps_expr (pe_bm PySem.F.plainAttrs_list PySem.F.slot_list_append PySem.F.type_list_append mt_append (pv 4) (pa_cons (pe_heard T rfl TB rfl rfl hr (lamS_by (sc := defScope s__law_odd_right) (by decide +kernel)) rfl (fun _ _ _ _ _ => rfl) (fun A outer s H E f c' hr6 => pe_meth (pv 1) (c_Road T) (m_Road_signed T) GS (hr6.mono (by decide)) BS .nil (passes_call (takes_of rfl rfl rfl rfl) (fun _ _ _ _ h => h)) (pa_cons (pv 6) pa_nil))) pa_nil))))) pss_nil)
      (pss_cons (ps_set (i := 5) sc_odd.nd rfl (Or.inl rfl) (pe_cmpR (op_inKL (hu64 hr)) (pv 6) (pe_lst (pa_cons (pv 2) (pa_cons (pv 3) pa_nil))) rfl))
      (pss_one (ps_ret (pe_or (pv 5) (pe_one (pe_and (pe_cmpR op_eq (pe_callB (call_reprQ (sm_ok T) gu (hu64 hr)) (by rfl) (n_repr T) (by decide +kernel) (pa_cons (pv 4) pa_nil)) (pe_callB (call_reprQ (sm_ok T) gu (hu64 hr)) (by rfl) (n_repr T) (by decide +kernel) (pa_cons (pe_op op_rep (pe_lst (pa_cons (pe_tup (pa_cons pe_str (pa_cons (pv 6) pa_nil))) pa_nil)) (pe_callB call_len_seq (by rfl) (n_len T) (by decide +kernel) (pa_cons (pv 4) pa_nil))) pa_nil)) (nomark _)) (pe_one (pe_cmpR op_isBl (pe_cmpR (op_inO (m_Road_contains T).at_ (m_Road_contains T).fn GC BC (hr.mono (by decide)) pass0) (pv 6) (pv 1) rfl) pe_bl (nomark _))))))))))))), ?_⟩
      obtain ⟨o1, o2, o3, o4⟩ := okEnds_iff ok
      obtain ⟨dx, hx⟩ := hx0
      have f8 := name8 o2
      have g8 := name8 o3
      have big : (40 : Nat) ≤ sizeLine := by decide
      have lq : (Str.ofString "q").length = 1 := by decide
      have ls : (Str.ofString " ").length = 1 := by decide
      refine ⟨_, rfl, _, rfl, _, _, rfl, rfl, by rw [lq]; omega, ?_⟩
      refine ⟨_, rfl, (by show 1 ≤ sizeLine; decide), fun u nu => ?_⟩
      have s1 := new_same nu (.tup [.str lo])
      have u1 : upd H u (.tup [.str lo]) u = some (.tup [.str lo]) := upd_same
      generalize upd H u (.tup [.str lo]) = H1 at s1 u1
      refine ⟨_, rfl, (by show 1 ≤ sizeLine; decide), fun l nl => ?_⟩
      have s2 := new_same nl (.lst [.str hi])
      have l2 : upd H1 l (.lst [.str hi]) l = some (.lst [.str hi]) := upd_same
      generalize upd H1 l (.lst [.str hi]) = H2 at s2 l2
      refine fun d nd => ?_
      have s3 := new_same nd (.dK [])
      have d3 : upd H2 d (.dK []) d = some (.dK []) := upd_same
      generalize upd H2 d (.dK []) = H3 at s3 d3
      refine ⟨_, rfl, _, rfl, (by show 2 ≤ sizeLine; decide), fun q nq => ?_⟩
      have s4 := new_same nq (.tup [.str lo, .str hi])
      have q4 : upd H3 q (.tup [.str lo, .str hi]) q = some (.tup [.str lo, .str hi]) := upd_same
      generalize upd H3 q (.tup [.str lo, .str hi]) = H4 at s4 q4
      refine ⟨_, rfl, _, _, rfl, rfl, by rw [ls]; omega, _, rfl, _, _, rfl, rfl, by rw [Str.length_append, ls]; omega, (by show 12 ≤ sizeLine; decide), fun od nod => ?_⟩
      have s5 := new_same nod (.lst [.non, .bl true, .int 0, .str "", .str (lo ++ "q"), .ref u, .ref l, .ref d, .ref q, .str (lo ++ " " ++ hi), .str "A", .str "-"])
      have od5 : upd H4 od (.lst [.non, .bl true, .int 0, .str "", .str (lo ++ "q"), .ref u, .ref l, .ref d, .ref q, .str (lo ++ " " ++ hi), .str "A", .str "-"]) od = some (.lst [.non, .bl true, .int 0, .str "", .str (lo ++ "q"), .ref u, .ref l, .ref d, .ref q, .str (lo ++ " " ++ hi), .str "A", .str "-"]) := upd_same
      have s14 := ((s1.trans s2).trans s3).trans s4
      have podne := ((hp.same s14).ne nod).symm
      generalize upd H4 od (.lst [.non, .bl true, .int 0, .str "", .str (lo ++ "q"), .ref u, .ref l, .ref d, .ref q, .str (lo ++ " " ++ hi), .str "A", .str "-"]) = H5 at s5 od5
      have S5 := s14.trans s5
      have p5 := hp.same S5
      have u5 := s5 _ _ (s4 _ _ (s3 _ _ (s2 _ _ u1)))
      have l5 := s5 _ _ (s4 _ _ (s3 _ _ l2))
      have d5 := s5 _ _ (s4 _ _ d3)
      have q5 := s5 _ _ q4
      have une := (hp.ne nu).symm
      have lne := ((hp.same s1).ne nl).symm
      have dne := ((hp.same (s1.trans s2)).ne nd).symm
      have qne := ((hp.same ((s1.trans s2).trans s3)).ne nq).symm
      have ane : a ≠ p := by
        obtain ⟨c, ns, a2, r, h1, _⟩ := hp
        exact ne_of hx h1 (by intro z; cases z)
      have nl8 : ∀ {x : Str}, nameB x = true → x.cps.toList.length ≤ 8 ∧ x.cps.toList.all (fun c => decide (c < 16 ^ 8)) = true := fun {x} h => by
        obtain ⟨h1, h2, h3⟩ := nameB_iff.mp h
        refine ⟨h2, ?_⟩
        rw [List.all_eq_true] at h3 ⊢
        intro c hc
        have z := h3 c hc
        unfold isLow at z
        simp only [Bool.and_eq_true, decide_eq_true_eq] at z ⊢
        omega
      have nmT : ∀ {x : Str}, nameB x = true → Tiny (.str x) := fun {x} h => tiny_str (by have := (nl8 h).1; omega) (nl8 h).2
      have apT : ∀ {x y : Str}, x.cps.toList.length ≤ 40 → x.cps.toList.all (fun c => decide (c < 16 ^ 8)) = true → y.cps.toList.length ≤ 40 → y.cps.toList.all (fun c => decide (c < 16 ^ 8)) = true → ((x ++ y).cps.toList.length ≤ 80 ∧ (x ++ y).cps.toList.all (fun c => decide (c < 16 ^ 8)) = true) := fun {x y} a b c d => by
        rw [Str.cps_append, Array.toList_append, List.length_append, List.all_append, b, d]
        exact ⟨by omega, rfl⟩
      refine ⟨p, od, n, _, rfl, p5, by omega, SqL.of od5, podne, (by show 0 < 12; decide), (by show 12 ≤ 1000; decide), fun G z b6 p6 mz => ?_⟩
      have u5 := b6 _ _ une u5
      have l5 := b6 _ _ lne l5
      have d5 := b6 _ _ dne d5
      have q5 := b6 _ _ qne q5
      have thz : Th K G z := by
        obtain ⟨nf1, nf2⟩ := nl8 o2
        obtain ⟨ng1, ng2⟩ := nl8 o3
        simp only [List.mem_cons, List.not_mem_nil, or_false] at mz
        rcases mz with rfl | rfl | rfl | rfl | rfl | rfl | rfl | rfl | rfl | rfl | rfl | rfl
        · exact ⟨_, .non, .non, ⟨rfl, rfl, by decide, by decide⟩⟩
        · exact ⟨_, .bl _, .bl _, ⟨rfl, rfl, by decide, by decide⟩⟩
        · exact ⟨_, .int _, .int _, ⟨by decide, by decide +kernel, by decide, by decide⟩⟩
        · exact ⟨_, .str _, .str _, tiny_str (by decide +kernel) (by decide +kernel)⟩
        · obtain ⟨a1, a2⟩ := apT (by omega) nf2 (y := "q") (by decide +kernel) (by decide +kernel)
          exact ⟨_, .str _, .str _, tiny_str (by omega) a2⟩
        · refine ⟨_, .tup u5, .tup (SqT.of u5) (.cons (.str _) .nil), ?_⟩
          exact tiny_one (.inl rfl) (by omega) nf2
        · refine ⟨_, .lst l5, .lst (SqL.of l5) (.cons (.str _) .nil), ?_⟩
          exact tiny_one (.inr rfl) (by omega) ng2
        · exact ⟨_, .dct d5, .dct d5, ⟨rfl, rfl, by decide, by decide⟩⟩
        · refine ⟨_, .tup q5, .tup (SqT.of q5) (.cons (.str _) (.cons (.str _) .nil)), ?_⟩
          exact tiny_two (by omega) nf2 (by omega) ng2
        · obtain ⟨a1, a2⟩ := apT (by omega) nf2 (y := " ") (by decide +kernel) (by decide +kernel)
          have a3 : (lo ++ " ").cps.toList.length ≤ 40 := by
            rw [Str.cps_append, Array.toList_append, List.length_append]
            have : (Str.ofString " ").cps.toList.length = 1 := by decide +kernel
            omega
          obtain ⟨b1, b2⟩ := apT a3 a2 (y := hi) (by omega) ng2
          exact ⟨_, .str _, .str _, tiny_str (by omega) b2⟩
        · exact ⟨_, .str _, .str _, tiny_str (by decide +kernel) (by decide +kernel)⟩
        · exact ⟨_, .str _, .str _, tiny_str (by decide +kernel) (by decide +kernel)⟩
      obtain ⟨D, kd, dq, tn⟩ := thz
      have xG := b6 _ _ ane (S5 _ _ hx)
      have tG : TabS G (TP K) TQ := tab_but (tab_same tb S5) b6 p5
      have EG : EB p H G := fun b o nb hb _ => b6 b o nb (S5 _ _ hb)
      clear u5 l5 d5 q5 od5 s1 s2 s3 s4 s5 u1 l2 d3 q4 s14 S5 p5 mz podne
      -- far
      refine ⟨tabs1 tG, fun H3 e3 t3 => ?_⟩
      have x3 := e3 _ _ xG (fun ps z => by cases z)
      refine ⟨_, rfl, a, dx, _, rfl, x3, no_Road_far _ _ _ _ _, _, rfl, askedN (c := "Road") (v := (Sv.road t lo hi i j)) (ans := fun v g => .str (v.far g)) rfl ⟨dx, x3⟩ (kd.ext e3) (fun H4 w1 s4 r4 => ⟨(by show 1 ≤ sizeLine; decide), fun hl nhl => ?_⟩) (by exact fun _ _ h => h)⟩
      have S1 := SttG.start (H0 := G) e3 (tabs2 t3) s4 (apartN0 (e := isE lo hi z) nhl r4) (stab_N _ _ _) nhl
      generalize upd H4 hl (.lst [w1]) = H5 at S1
      -- leads
      refine ⟨_, rfl, .inl ⟨rfl, _, SqL.of S1.at_⟩, tabs1 S1.tab, fun H6 e6 t6 => ?_⟩
      have e6' := S1.ext.trans e6
      have x6 := e6' _ _ xG (fun ps z => by cases z)
      refine ⟨_, rfl, a, dx, _, rfl, x6, no_Road_leads _ _ _ _ _, _, rfl, askedN (c := "Road") (v := (Sv.road t lo hi i j)) (ans := fun v g => .bl (v.leads g)) rfl ⟨dx, x6⟩ (kd.ext e6') (fun H7 w2 s7 r7 => ?_) (by exact fun _ _ h => h)⟩
      obtain ⟨l7, S2⟩ := S1.step e6 (tabs2 t6) s7 (apartN (e := isE lo hi z) (e6 _ _ S1.at_ (fun ps z => by cases z)) s7 r7) (stab_N _ _ _)
      refine ⟨hl, _, _, rfl, rfl, l7, (by show 1 < sizeLine; decide), ?_⟩
      generalize upd H7 hl (.lst ([w1] ++ [w2])) = H8 at S2
      have x8 := S2.ext _ _ xG (fun ps z => by cases z)
      refine ⟨_, rfl, _, _, _, _, _, rfl, .own _, tyx_st T ⟨dx, x8⟩, k_Road_Road T, _, rfl, iteT ?_⟩
      -- price
      refine ⟨_, rfl, .inl ⟨rfl, _, SqL.of S2.at_⟩, tabs1 S2.tab, fun H9 e9 t9 => ?_⟩
      have e9' := S2.ext.trans e9
      have x9 := e9' _ _ xG (fun ps z => by cases z)
      refine ⟨_, rfl, a, dx, _, rfl, x9, no_Road_price _ _ _ _ _, _, rfl, askedN (c := "Road") (v := (Sv.road t lo hi i j)) (ans := fun v g => .int (v.pay g)) rfl ⟨dx, x9⟩ (kd.ext e9') (fun Ha w3 sa ra => ?_) (by exact fun _ _ h => h)⟩
      obtain ⟨la, S3⟩ := S2.step e9 (tabs2 t9) sa (apartN (e := isE lo hi z) (e9 _ _ S2.at_ (fun ps z => by cases z)) sa ra) (stab_N _ _ _)
      refine ⟨hl, _, _, rfl, rfl, la, (by show 2 < sizeLine; decide), ?_⟩
      generalize upd Ha hl (.lst ([w1] ++ [w2] ++ [w3])) = Hb at S3
      -- signed
      refine ⟨_, rfl, .inl ⟨rfl, _, SqL.of S3.at_⟩, tabs1 S3.tab, fun Hc ec tc => ?_⟩
      have ec' := S3.ext.trans ec
      have xc := ec' _ _ xG (fun ps z => by cases z)
      refine ⟨_, rfl, a, dx, _, rfl, xc, no_Road_signed _ _ _ _ _, _, rfl, askedS (K := K) (a := a) (t := t) (lo := lo) (hi := hi) (i := i) (j := j) ⟨dx, xc⟩ ok (kd.ext ec') (fun Hd w4 sd rd => ?_) (by exact fun _ _ h => h)⟩
      obtain ⟨ld, S4⟩ := S3.step ec (tabs2 tc) sd (apartN (e := isE lo hi z) (ec _ _ S3.at_ (fun ps z => by cases z)) sd rd) (stab_N _ _ _)
      refine ⟨hl, _, _, rfl, rfl, ld, (by show 3 < sizeLine; decide), ?_⟩
      generalize upd Hd hl (.lst ([w1] ++ [w2] ++ [w3] ++ [w4])) = He at S4
      refine ⟨_, rfl, _, rfl, _, rfl, (by show 2 ≤ sizeLine; decide), fun l9 n9 => ⟨l9, lo, hi, rfl, SqL.of upd_same, (kd.ext S4.ext).same (new_same n9 _), ?_⟩⟩
      have SA := S4.same (new_same n9 (.lst [.str lo, .str hi]))
      generalize upd He l9 (.lst [.str lo, .str hi]) = HA at SA
      cases e : isE lo hi z with
      | true =>
        exact ⟨_, rfl, _, rfl, iteT (k HA (EG.trans (EB.ext SA.ext)) (p6.ext SA.ext) SA.tab)⟩
      | false =>
        refine ⟨_, rfl, _, rfl, iteF ?_⟩
        have fe : fine (.list [.tuple [.str "corner", D], .tuple [.str "corner", D], .tuple [.str "corner", D], .tuple [.str "corner", D]]) = true := fine4 tn.pair tn.pair tn.pair tn.pair
        refine ⟨_, rfl, _, _, rfl, heardN4 e SA (dq.ext SA.ext), fe, _, rfl, (by show 2 ≤ sizeLine; decide), fun u nu => ⟨(by show 1 ≤ sizeLine; decide), fun k1 n1 => ?_⟩⟩
        have SB := (SA.same (new_same nu (.tup [.str "corner", z]))).same (new_same n1 (.lst [.ref u]))
        have ut := (new_same n1 (.lst [.ref u])) _ _ (upd_same (H := HA) (a := u) (o := .tup [.str "corner", z]))
        have kt : upd (upd HA u (.tup [.str "corner", z])) k1 (.lst [.ref u]) k1 = some (.lst [.ref u]) := upd_same
        generalize upd (upd HA u (.tup [.str "corner", z])) k1 (.lst [.ref u]) = HB at SB ut kt
        refine ⟨_, rfl, hl, _, rfl, .inl (SqL.of SB.at_), k1, 4, [.ref u], rfl, rfl, kt, by decide, by decide, (by show 4 ≤ sizeLine; decide), fun dl ndl => ?_⟩
        have SC := SB.same (new_same ndl (.lst [.ref u, .ref u, .ref u, .ref u]))
        have uc := (new_same ndl (.lst [.ref u, .ref u, .ref u, .ref u])) _ _ ut
        have dlt : upd HB dl (.lst [.ref u, .ref u, .ref u, .ref u]) dl = some (.lst [.ref u, .ref u, .ref u, .ref u]) := upd_same
        have e4 : (List.replicate (Int.toNat 4) [V.ref u]).flatten = [.ref u, .ref u, .ref u, .ref u] := rfl
        rw [e4]
        generalize upd HB dl (.lst [.ref u, .ref u, .ref u, .ref u]) = HC at SC uc dlt
        have dc : Dq K HC (.ref u) (.tuple [.str "corner", D]) := Dq.tupC ⟨u, rfl, uc⟩ (dq.ext SC.ext)
        have xz := SC.ext _ _ xG (fun ps z => by cases z)
        refine ⟨_, _, rfl, .lst (SqL.of dlt) (.cons dc (.cons dc (.cons dc (.cons dc .nil)))), fe, rfl, ?_⟩
        rw [decide_eq_true rfl]
        refine ⟨_, rfl, iteT ?_⟩
        refine ⟨_, rfl, _, rfl, a, dx, _, rfl, xz, a, (Sv.road t lo hi i j), z, rfl, rfl, ⟨dx, xz⟩, kd.ext SC.ext, fun HZ sz => ⟨_, rfl, _, _, rfl, rfl, ?_⟩⟩
        have SZ := SC.same sz
        rw [show isE (Sv.road t lo hi i j).ends.1 (Sv.road t lo hi i j).ends.2 z = false from e]
        exact k HZ (EG.trans (EB.ext SZ.ext)) (p6.ext SZ.ext) SZ.tab
end
end K05
namespace K05
open PySem PySem.Spec PyProof.Rows L2 Hx Gx Nx KX LamX
theorem sort_two {t f g : Str} (ok : okEnds t f g = true) : ∃ lo hi, okEnds t lo hi = true ∧ strLt lo hi ∧ ((f = lo ∧ g = hi) ∨ (f = hi ∧ g = lo)) ∧ (∀ ys : List Str, ys.Perm [f, g] → sortedS ys = true → ys = [lo, hi]) := by
  obtain ⟨o1, o2, o3, o4⟩ := okEnds_iff ok
  have srt : ∀ x y : Str, sortedS [x, y] = true → ¬ strLt y x := fun x y s => by
    have s2 : PyProof.Rows.risingS x [y] = true := s
    simp only [PyProof.Rows.risingS, Bool.and_true, Bool.not_eq_true'] at s2
    rw [ltCps_iff, decide_eq_false_iff_not] at s2
    exact s2
  have main : ∀ lo hi : Str, strLt lo hi → ((f = lo ∧ g = hi) ∨ (f = hi ∧ g = lo)) → lo ≠ hi → ∀ ys : List Str, ys.Perm [f, g] → sortedS ys = true → ys = [lo, hi] := fun lo hi lt fg ne ys p s => by
    have lx : ys.length = 2 := p.length_eq
    match ys, lx with
    | [x, y], _ =>
      have e1 : f ∈ [x, y] := p.symm.subset (by simp)
      have e2 : g ∈ [x, y] := p.symm.subset (by simp)
      have sx := srt x y s
      have z : (x = f ∧ y = g) ∨ (x = g ∧ y = f) := by
        simp only [List.mem_cons, List.not_mem_nil, or_false] at e1 e2
        rcases e1 with h1 | h1
        · rcases e2 with h2 | h2
          · exact absurd (h1.trans h2.symm) o4
          · exact .inl ⟨h1.symm, h2.symm⟩
        · rcases e2 with h2 | h2
          · exact .inr ⟨h2.symm, h1.symm⟩
          · exact absurd (h1.trans h2.symm) o4
      have w : (x = lo ∧ y = hi) ∨ (x = hi ∧ y = lo) := by
        rcases z with ⟨a, b⟩ | ⟨a, b⟩ <;> rcases fg with ⟨c, d⟩ | ⟨c, d⟩
        · exact .inl ⟨a.trans c, b.trans d⟩
        · exact .inr ⟨a.trans c, b.trans d⟩
        · exact .inr ⟨a.trans d, b.trans c⟩
        · exact .inl ⟨a.trans d, b.trans c⟩
      rcases w with ⟨a, b⟩ | ⟨a, b⟩
      · rw [a, b]
      · rw [a, b] at sx
        exact absurd lt sx
  by_cases h : strLt f g
  · exact ⟨f, g, ok, h, .inl ⟨rfl, rfl⟩, main f g h (.inl ⟨rfl, rfl⟩) o4⟩
  · have h2 := lt_swap o4 h
    exact ⟨g, f, okEnds_swap ok, h2, .inr ⟨rfl, rfl⟩, main g f h2 (.inr ⟨rfl, rfl⟩) (fun z => o4 z.symm)⟩
theorem lt_no {a b : Str} (h : strLt a b) : ¬ strLt b a := fun z => by
  have h1 : a.cps.toList < b.cps.toList := h
  have h2 : b.cps.toList < a.cps.toList := z
  exact absurd (List.lt_trans h1 h2) (List.lt_irrefl _)
theorem mkAv_two {t f g lo hi : Str} (lt : strLt lo hi) (fg : (f = lo ∧ g = hi) ∨ (f = hi ∧ g = lo)) : mkAv t f g = .avenue t lo hi := by
  unfold mkAv
  rcases fg with ⟨rfl, rfl⟩ | ⟨rfl, rfl⟩
  · rw [if_pos lt]
  · rw [if_neg (lt_no lt)]
section
variable {P : Program} {w : World} {K : PySem.W.Frag} {mg : Str → Option Value} {base : Heap}
theorem kb_Avenue {fd : FuncData} (F : Fd K d_Avenue_init fd) : KBn K fd ["self", "name", "one", "other"] 1 ["other", "name", "one"] (fun us ws => us ++ (ws.drop 1 ++ ws.take 1)) (fun vs zs => vs ++ (zs.drop 1 ++ zs.take 1)) :=
  kbN F 1 ["other", "name", "one"] (fun us ws => us ++ (ws.drop 1 ++ ws.take 1)) (fun r1 r2 => r1.append ((r2.drop 1).append (r2.take 1))) fun kV doc pm an cdv ct us ws h1 h2 => match us, ws, h1, h2 with | [s], [a, b, c], _, _ => rfl
def spAve (K : PySem.W.Frag) : Sp := fun vs H Q _ => ∃ (p q : Addr) (n : Nat) (t f g : Str), vs = [.ref p, .str t, .ref q] ∧ PenAt H p n ∧ n ≤ 79000 ∧ okEnds t f g = true ∧ H q = some (.tup [.str f, .str g]) ∧ TabS H (TP K) TQ ∧
  ∀ H', EB p H H' → PenAt H' p (n + 2) → TabS H' (TP K) TQ → Q (.bl true) H'
theorem sc_avenue : FnScope ["_law_pen_here", "_law_title", "_law_two_here", "_law_low", "_law_high", "_law_street", "_law_end"] ["_law_pen_here", "_law_title", "_law_two_here"] (defScope s__law_avenue_right) := ⟨rfl, rfl, rfl, by decide +kernel, rfl, by decide +kernel, by decide +kernel⟩
theorem p_avenue (T : Tx K mg) (TB : TabB base mg (He.cT K ("_law_odd_right", none)).1 (TP K)) : PromG P w K mg base 10 d__law_avenue_right ["_law_pen_here", "_law_title", "_law_two_here"] (spAve K) := by
  obtain ⟨fd, F⟩ := f__law_avenue_right T
  obtain ⟨fdA, FA, GA, BA⟩ := p_Avenue_init (P := P) (w := w) (base := base) T
  obtain ⟨fdL, FL, GL, BL⟩ := p_Avenue_leads (P := P) (w := w) (base := base) T
  obtain ⟨fdE, FE, GE, BE⟩ := p_ends (P := P) (w := w) (base := base) T
  obtain ⟨fdO, FO, GO, BO⟩ := p_odd (P := P) (w := w) (base := base) T TB
  obtain ⟨fdK, FK, GK, BK⟩ := p_kinds (P := P) (w := w) (base := base) T
  have KA := kb_Avenue FA
  refine ⟨fd, F, FnG.body F sc_avenue (fun vs H Q E h => ?_) (fun cdv A outer s H vs Q E hr gu h => ?_), F.bindsN fun _ _ _ _ _ _ us hl => match us, hl with | [_, _, _], _ => rfl⟩
  · obtain ⟨p, q, n, t, f, g, rfl, _⟩ := h
    rfl
  · obtain ⟨p, q, n, t, f, g, rfl, hp, hn, ok0, hq, tb, k⟩ := h
    refine ⟨_, PSs.nox (pss_cons (ps_asg (pe_callB cr_sortedS (by rfl) (n_sorted T) (by decide +kernel) (pa_cons (pe_lc (own := [("_law_end", 6)]) (g := gName 6) (tt := tYes) (by rfl) sc_avenue.nd (pi_tup (pv 2)) (blkOk_by (own := [("_law_end", 6)]) (N := ["_law_pen_here", "_law_title", "_law_two_here", "_law_low", "_law_high", "_law_street", "_law_end"]) (sc := defScope s__law_avenue_right) (by decide +kernel)) (fun _ _ _ _ _ => pg_name (i := 6) sc_avenue.nd rfl (Or.inl rfl)) (fun _ _ _ _ _ => pts_nil) (fun _ _ _ _ _ => (pe_callTy call_strT (by rfl) (n_str T) (by decide +kernel) (pa_cons (pv 6) pa_nil)))) pa_nil)) (pg_lst (by rfl) (pgs_cons (pg_name (i := 3) sc_avenue.nd rfl (Or.inl rfl)) (pgs_cons (pg_name (i := 4) sc_avenue.nd rfl (Or.inl rfl)) pgs_nil))))
      (pss_cons (ps_for PassesOwn.never rfl (pi_list (pe_lst (pa_cons (pe_make (mk_Avenue T) GA (hr.mono (by decide)) rfl (g_Avenue T) BA .nil pass0 (pa_cons (pv 1) (pa_cons (pe_ix ix_tup (pv 2) pe_int (fun _ _ => rfl)) (pa_cons (pe_ix ix_tup (pv 2) pe_int (fun _ _ => rfl)) pa_nil)))) (pa_cons (pe_makeK0 (mk_Avenue T) GA (hr.mono (by decide)) rfl (g_Avenue T) KA pass0 (pk_cons (pe_ix ix_tup (pv 2) pe_int (fun _ _ => rfl)) (pk_cons (pv 1) (pk_cons (pe_ix ix_tup (pv 2) pe_int (fun _ _ => rfl)) pk_nil)))) pa_nil)))) (pg_name (i := 5) sc_avenue.nd rfl (Or.inl rfl)) (pss_cons (ps_if (PW.pt (pw_or (pt_not (pt_val (pe_callG gu GE (hr.mono (by decide)) rfl (g__law_ends_right T) FE.kp BE .nil pass0 (pa_cons (pv 5) (pa_cons (pv 1) (pa_cons (pv 3) (pa_cons (pv 4) pa_nil))))))) (pw_or1 (pt_not (pt_val (pe_callG gu GO hr rfl (g__law_odd_right T) FO.kp BO .nil pass0 (pa_cons (pv 0) (pa_cons (pv 5) (pa_cons (pv 3) (pa_cons (pv 4) pa_nil)))))))))) (pss_one (ps_ret pe_bl)) pss_nil)
      (pss_cons (ps_if (pt_cmpR op_ne (pe_callB (call_reprQ (sm_ok T) gu (hu64 hr)) (by rfl) (n_repr T) (by decide +kernel) (pa_cons (pe_lst (pa_cons (pe_meth (pv 5) (c_Avenue T) (m_Avenue_leads T) GL (hr.mono (by decide)) BL .nil passF (pa_cons (pv 3) pa_nil)) (pa_cons (pe_meth (pv 5) (c_Avenue T) (m_Avenue_leads T) GL (hr.mono (by decide)) BL .nil passF (pa_cons (pv 4) pa_nil)) pa_nil))) pa_nil)) (pe_callB (call_reprQ (sm_ok T) gu (hu64 hr)) (by rfl) (n_repr T) (by decide +kernel) (pa_cons (pe_lst (pa_cons pe_bl (pa_cons pe_bl pa_nil))) pa_nil)) (nomark _)) (pss_one (ps_ret pe_bl)) pss_nil)
      (pss_one (ps_if (PW.pt (pw_or (pt_cmpR (op_neD (hu64 hr)) (pe_call GK (hr.mono (by decide)) rfl (g__law_kinds T) FK.kp BK .nil pass0 (pa_cons (pv 5) pa_nil)) (pe_lst (pa_cons pe_bl (pa_cons pe_bl (pa_cons pe_bl (pa_cons pe_bl (pa_cons pe_bl (pa_cons pe_bl pa_nil))))))) (nomark _)) (pw_or1 (pt_cmpR (by refine op_neT T ?_ ?_ ?_; rfl; rfl; exact hr.mono (by decide)) (pv 5) (pe_make (mk_Avenue T) GA (hr.mono (by decide)) rfl (g_Avenue T) BA .nil pass0 (pa_cons (pv 1) (pa_cons (pv 4) (pa_cons (pv 3) pa_nil)))) (nomark _))))) (pss_one (ps_ret pe_bl)) pss_nil)))))
      (pss_one (ps_ret pe_bl)))), ?_⟩
    obtain ⟨lo, hi, ok, lt, fg, st⟩ := sort_two ok0
    obtain ⟨o1, o2, o3, o4⟩ := okEnds_iff ok
    have qne : q ≠ p := by
      obtain ⟨c, ns, a2, r, h1, _⟩ := hp
      exact ne_of hq h1 (by intro z; cases z)
    refine ⟨_, rfl, q, rfl, ⟨_, SqT.of hq⟩, fun D nD => ?_⟩
    refine lc_tup (K := K) (a := q) (xs := [.str f, .str g]) (fun i H' => Same H H' ∧ H' D = some (.lst ([V.str f, .str g].take i))) ⟨new_same nD _, upd_same⟩ (fun i H' _ z => SqT.of (z.1 _ _ hq)) ?_ ?_
    · rintro j v H8 hj ⟨s8, d8⟩
      have hj2 : (j = 0 ∧ v = .str f) ∨ (j = 1 ∧ v = .str g) := by
        match j, hj with
        | 0, hj => exact .inl ⟨rfl, (Option.some.inj hj).symm⟩
        | 1, hj => exact .inr ⟨rfl, (Option.some.inj hj).symm⟩
        | j + 2, hj => cases hj
      rcases hj2 with ⟨rfl, rfl⟩ | ⟨rfl, rfl⟩
      · exact ⟨rfl, _, rfl, _, rfl, _, d8, (by show 0 < sizeLine; decide), fun b o e => by rw [upd_ne (ne_of_none e nD)]; exact s8 b o e, upd_same⟩
      · exact ⟨rfl, _, rfl, _, rfl, _, d8, (by show 1 < sizeLine; decide), fun b o e => by rw [upd_ne (ne_of_none e nD)]; exact s8 b o e, upd_same⟩
    · rintro H0 ⟨s0, d0⟩
      refine ⟨D, [f, g], rfl, SqL.of d0, (by show 2 < 64; omega), fun ys l3 pm so n3 => ?_⟩
      rw [st ys pm so]
      have s1 := s0.trans (new_same n3 (.lst ([lo, hi].map V.str)))
      refine ⟨l3, _, rfl, SqL.of upd_same, rfl, ?_⟩
      generalize upd H0 l3 (.lst ([lo, hi].map V.str)) = H1 at s1
      refine ⟨_, _, rfl, _, _, rfl, rfl, ?_⟩
      have p1 := hp.same s1
      have q1 := s1 _ _ hq
      have t1 := tab_same tb s1
      have ma : mkAv t f g = .avenue t lo hi := mkAv_two lt fg
      have mb : mkAv t hi lo = .avenue t lo hi := mkAv_two lt (.inr ⟨rfl, rfl⟩)
      clear s0 d0 nD n3 pm so
      refine ⟨_, rfl, _, rfl, q, _, 0, _, rfl, rfl, SqT.of q1, atI_nat (j := 0) rfl, _, rfl, q, _, 1, _, rfl, rfl, SqT.of q1, atI_nat (j := 1) rfl, fun x1 dx1 n1 m1 _ => ⟨x1, dx1, t, f, g, rfl, ok0, upd_same, fun H2 b2 h2 => ⟨rfl, ?_⟩⟩⟩
      rw [ma] at h2
      have s2 := made_same n1 m1 b2
      have q2 := s2 _ _ q1
      refine ⟨_, rfl, q, _, 1, _, rfl, rfl, SqT.of q2, atI_nat (j := 1) rfl, _, rfl, _, rfl, q, _, 0, _, rfl, rfl, SqT.of q2, atI_nat (j := 0) rfl, rfl, rfl, fun x2 dx2 n2 m2 _ => ⟨x2, dx2, t, f, g, rfl, ok0, upd_same, fun H3 b3 h3 => ⟨rfl, ?_⟩⟩⟩
      rw [ma] at h3
      have s3 := made_same n2 m2 b3
      refine ⟨(by show 2 ≤ sizeLine; decide), fun L nL => ?_⟩
      have s4 := new_same nL (.lst [.ref x1, .ref x2])
      have L4 : upd H3 L (.lst [.ref x1, .ref x2]) L = some (.lst [.ref x1, .ref x2]) := upd_same
      generalize upd H3 L (.lst [.ref x1, .ref x2]) = G at s4 L4
      have sG := (s2.trans s3).trans s4
      have ave : ∀ v ∈ ([.ref x1, .ref x2] : List V), ∃ x, v = .ref x ∧ StAt K G x (.avenue t lo hi) := fun v hv => by
        simp only [List.mem_cons, List.not_mem_nil, or_false] at hv
        rcases hv with rfl | rfl
        · exact ⟨x1, rfl, dx1, s4 _ _ (s3 _ _ h2)⟩
        · exact ⟨x2, rfl, dx2, s4 _ _ h3⟩
      have pG := p1.same sG
      have tG := tab_same t1 sG
      have Lne : L ≠ p := (((p1.same s2).same s3).ne nL).symm
      have EG : EB p H G := EB.same (s1.trans sG)
      clear s2 s3 s4 sG n1 m1 n2 m2 nL b2 b3 h2 h3 q1 q2
      refine ⟨L, rfl, ⟨_, SqL.of L4⟩, for_list (K := K) (a := L) (xs := [.ref x1, .ref x2]) (fun i σ H' => EB p G H' ∧ PenAt H' p (n + i) ∧ TabS H' (TP K) TQ ∧ ∃ v5, σ = [some (.ref p), some (.str t), some (.ref q), some (.str lo), some (.str hi), v5, none]) ⟨EB.refl p G, pG, tG, none, rfl⟩ (fun i σ H' _ z => SqL.of (z.1 _ _ Lne L4 (fun ps z => by cases z))) ?_ ?_⟩
      · rintro i v σ H4 hi' ⟨e4, p4, t4, v5, rfl⟩
        have li : i < 2 := by
          rcases Nat.lt_or_ge i 2 with h | h
          · exact h
          · rw [List.getElem?_eq_none (by simpa using h)] at hi'
            cases hi'
        obtain ⟨x, rfl, dx, hx0⟩ := ave v (List.mem_of_getElem? hi')
        have xne : x ≠ p := by
          obtain ⟨c2, ns, a2, r, g1, _⟩ := pG
          exact ne_of hx0 g1 (by intro z; cases z)
        have x4 := e4 _ _ xne hx0 (fun ps z => by cases z)
        refine ⟨_, rfl, _, rfl, _, rfl, _, rfl, x, t, lo, hi, .avenue t lo hi, rfl, ⟨dx, x4⟩, .av, ok, fun H5 s5 => ⟨_, rfl, iteF ?_⟩⟩
        have x5 := s5 _ _ x4
        refine ⟨_, rfl, _, rfl, _, rfl, _, rfl, p, x, _, t, lo, hi, .avenue t lo hi, rfl, p4.same s5, by omega, ⟨dx, x5⟩, .av, ok, tab_same t4 s5, fun H6 e6 p6 t6 => ⟨_, rfl, iteF ?_⟩⟩
        have x6 := e6 _ _ xne x5 (fun ps z => by cases z)
        have el : isE lo hi (.str lo) = true := by simp [isE]
        have eh : isE lo hi (.str hi) = true := by simp [isE]
        refine ⟨_, rfl, x, dx, _, rfl, x6, no_Avenue_leads _ _ _, _, rfl, x, .avenue t lo hi, .str lo, rfl, rfl, ⟨dx, x6⟩, .str lo, (fun g7 H7 eg ie s7 => ?_), (fun z => absurd ((show isE lo hi (.str lo) = false from z).symm.trans el) (by decide))⟩
        have x7 := s7 _ _ x6
        refine ⟨_, rfl, x, dx, _, rfl, x7, no_Avenue_leads _ _ _, _, rfl, x, .avenue t lo hi, .str hi, rfl, rfl, ⟨dx, x7⟩, .str hi, (fun g8 H8 eg8 ie8 s8 => ?_), (fun z => absurd ((show isE lo hi (.str hi) = false from z).symm.trans eh) (by decide))⟩
        refine ⟨(by show 2 ≤ sizeLine; decide), fun l9 n9 => ?_⟩
        have s9 := new_same n9 (.lst [.bl true, .bl true])
        have f2 : fine (.list [.bool true, .bool true]) = true := by decide
        refine ⟨_, .list [.bool true, .bool true], rfl, .lst (SqL.of upd_same) (.cons (.bl true) (.cons (.bl true) .nil)), f2, ?_⟩
        have x8 := s8 _ _ x7
        have S9 := ((s7.trans s8).trans s9)
        have S9' : Same H6 (upd H8 l9 (.lst [(fun v g => V.bl (v.leads g)) (Sv.avenue t lo hi) g7, (fun v g => V.bl (v.leads g)) (Sv.avenue t lo hi) g8])) := S9
        generalize upd H8 l9 (.lst [(fun v g => V.bl (v.leads g)) (Sv.avenue t lo hi) g7, (fun v g => V.bl (v.leads g)) (Sv.avenue t lo hi) g8]) = H9 at S9'
        refine ⟨(by show 2 ≤ sizeLine; decide), fun l10 n10 => ?_⟩
        have s10 := new_same n10 (.lst [.bl true, .bl true])
        refine ⟨_, .list [.bool true, .bool true], rfl, .lst (SqL.of upd_same) (.cons (.bl true) (.cons (.bl true) .nil)), f2, rfl, _, rfl, iteFe (by rw [decide_eq_true rfl]; rfl) ?_⟩
        have S10 := S9'.trans s10
        generalize upd H9 l10 (.lst [.bl true, .bl true]) = H10 at S10
        have x10 := S10 _ _ x6
        refine ⟨_, rfl, x, t, lo, hi, .avenue t lo hi, rfl, ⟨dx, x10⟩, .av, fun H11 k11 s11 h11 => ⟨(by show 6 ≤ sizeLine; decide), fun k12 n12 => ?_⟩⟩
        have s12 := new_same n12 (.lst [.bl true, .bl true, .bl true, .bl false, .bl true, .bl false])
        refine neD_same (SqL.of (s12 _ _ h11)) (SqL.of upd_same) (.cons (.bl _) (.cons (.bl _) (.cons (.bl _) (.cons (.bl _) (.cons (.bl _) (.cons (.bl _) .nil)))))) (by decide) ⟨_, rfl, iteF ?_⟩
        have S12 := (S10.trans s11).trans s12
        generalize upd H11 k12 (.lst [.bl true, .bl true, .bl true, .bl false, .bl true, .bl false]) = H12 at S12
        have x12 := S12 _ _ x6
        refine ⟨_, rfl, _, rfl, _, rfl, _, rfl, fun x9 dx9 n9 m9 _ => ⟨x9, dx9, t, hi, lo, rfl, okEnds_swap ok, upd_same, fun H13 b13 h13 => ⟨rfl, ?_⟩⟩⟩
        rw [mb] at h13
        have s13 := made_same n9 m9 b13
        have S13 := S12.trans s13
        refine ⟨x, .avenue t lo hi, some (.avenue t lo hi), rfl, ⟨dx, s13 _ _ x12⟩, ⟨x9, rfl, dx9, h13⟩, _, rfl, iteFe (by rw [decide_eq_true rfl]; rfl) ?_⟩
        exact ⟨((e4.trans (EB.same s5)).trans e6).trans (EB.same S13), p6.same S13, tab_same t6 S13, _, rfl⟩
      · rintro σ H4 ⟨e4, p4, t4, v5, rfl⟩
        exact k H4 (EG.trans e4) p4 t4
end
end K05
namespace KX
open PySem PySem.Spec PyProof.Rows L2
def rReprL (K : PySem.W.Frag) : List V → Hp → VK → Prop := fun xs H Q => ∃ (v : V) (d : PyData), xs = [v] ∧ Dq K H v d ∧ (d.showable = true ∧ d.depth ≤ 60 ∧ d.shown.length ≤ sizeLine) ∧ Q (.str d.shown) H
theorem call_reprL {X : Cx} (sm : SmK X.K) (gu : X.A.guards = some []) (hu : X.A.units + 64 < cLine) : CallR X (.builtin "repr") (rReprL X.K) := by
  rintro pins s σ H xs us Q I r ⟨v, d, rfl, hd, fn, q⟩
  obtain ⟨u, rfl, ru⟩ := r.one
  obtain ⟨sh, dp, sz⟩ := fn
  have go : ∀ a, v = .ref a → wpAny (model X.prog X.w) X.A (call (.builtin "repr") [u]) (EP X pins σ Q) X.xe s := fun a e => by
    subst e
    cases (show u = Value.ref a from ru)
    obtain ⟨as, rd, nas⟩ := Dq.reads I sm d _ _ hd rfl
    refine repr_of_reads' rd sh (fun _ => nas) gu (by omega) (fun _ _ e => e) ?_ sz
    intro h' u tk kp
    exact ⟨.str d.shown, H, I.kept kp, ⟨u, rfl⟩, q⟩
  cases hd with
  | non =>
    cases (show u = Value.none from ru)
    exact PySem.P.repr_of_none ⟨.str _, H, I.tok _, ⟨_, rfl⟩, q⟩
  | bl b =>
    cases (show u = Value.bool b from ru)
    exact PySem.P.repr_of_bool ⟨.str _, H, I.tok _, ⟨_, rfl⟩, q⟩
  | int i =>
    obtain ⟨t, rfl⟩ := ru
    exact PySem.P.repr_of_int (of_decide_eq_true sh) ⟨.str _, H, I.tok _, ⟨_, rfl⟩, q⟩
  | str x =>
    obtain ⟨t, rfl⟩ := ru
    exact PySem.P.repr_of_str ⟨.str _, H, I.tok _, ⟨_, rfl⟩, q⟩ sz
  | @lst a xs ds h1 h2 => exact go a rfl
  | @tup a xs ds h1 h2 => exact go a rfl
  | @dct a h1 => exact go a rfl
end KX
namespace K05
open PySem PySem.Spec PyProof.Rows L2 Hx Gx Nx KX LamX
theorem mkRd_two {t f g lo hi : Str} {i j : Int} (lt : strLt lo hi) (fg : (f = lo ∧ g = hi) ∨ (f = hi ∧ g = lo)) :
    ∃ fi se, ((f = lo ∧ fi = i ∧ se = j) ∨ (f = hi ∧ fi = j ∧ se = i)) ∧ mkRd t f g i j = .road t lo hi fi se := by
  unfold mkRd
  rcases fg with ⟨rfl, rfl⟩ | ⟨rfl, rfl⟩
  · exact ⟨i, j, .inl ⟨rfl, rfl, rfl⟩, by rw [if_pos lt]⟩
  · exact ⟨j, i, .inr ⟨rfl, rfl, rfl⟩, by rw [if_neg (lt_no lt)]⟩
def Pay1 (d : PyData) : Prop := d.showable = true ∧ d.leavesShort 41 = true ∧ d.depth ≤ 1 ∧ d.weight ≤ 2000
theorem pay1 {i : Int} (h : priceOk i) : Pay1 (.int i) := by
  obtain ⟨h1, h2⟩ := numText_len h
  refine ⟨?_, ?_, by show 0 ≤ 1; omega, ?_⟩
  · unfold PyData.showable
    exact decide_eq_true h2
  · unfold PyData.leavesShort
    exact decide_eq_true h1
  · unfold PyData.weight
    split <;> omega
theorem pays2 {a b : PyData} (ha : Pay1 a) (hb : Pay1 b) : (PyData.list [a, b]).showable = true ∧ (PyData.list [a, b]).depth ≤ 60 ∧ (PyData.list [a, b]).shown.length ≤ sizeLine := by
  refine ⟨by simp [PyData.showable, PyData.showableAll, ha.1, hb.1], ?_, ?_⟩
  · have := ha.2.2.1
    have := hb.2.2.1
    simp only [PyData.depth, PyData.depthAll]
    omega
  · have z := PyData.shown_le 41 (by decide) (.list [a, b]) (by simp [PyData.leavesShort, PyData.leavesShortAll, ha.2.1, hb.2.1])
    have e : PyData.weight (.list [a, b]) = a.weight + 1 + (b.weight + 1 + 0) := rfl
    have := ha.2.2.2
    have := hb.2.2.2
    rw [sizeLine_eq]
    omega
theorem pays3 {a b c : PyData} (ha : Pay1 a) (hb : Pay1 b) (hc : Pay1 c) : (PyData.list [a, b, c]).showable = true ∧ (PyData.list [a, b, c]).depth ≤ 60 ∧ (PyData.list [a, b, c]).shown.length ≤ sizeLine := by
  refine ⟨by simp [PyData.showable, PyData.showableAll, ha.1, hb.1, hc.1], ?_, ?_⟩
  · have := ha.2.2.1
    have := hb.2.2.1
    have := hc.2.2.1
    simp only [PyData.depth, PyData.depthAll]
    omega
  · have z := PyData.shown_le 41 (by decide) (.list [a, b, c]) (by simp [PyData.leavesShort, PyData.leavesShortAll, ha.2.1, hb.2.1, hc.2.1])
    have e : PyData.weight (.list [a, b, c]) = a.weight + 1 + (b.weight + 1 + (c.weight + 1 + 0)) := rfl
    have := ha.2.2.2
    have := hb.2.2.2
    have := hc.2.2.2
    rw [sizeLine_eq]
    omega
section
variable {P : Program} {w : World} {K : PySem.W.Frag} {mg : Str → Option Value} {base : Heap}
theorem br_Road {fd : FuncData} (F : Fd K d_Road_init fd) : Binds K fd ["self", "name", "one", "other", "there", "back"] [] := by
  obtain ⟨ds, hv, hb⟩ := FunD.binds1 (ps := ["self", "name", "one", "other", "there", "back"]) F 6 2 (by intro z; cases z) rfl (fun T kV doc pm an cdv ct us its hl h2 => match us, its, hl, h2 with | [_, _, _, _, _, _], [_, _], _, _ => ⟨_, rfl, rfl⟩)
  cases (show Vals [] ds from hv)
  exact hb
theorem kb_price {fd : FuncData} (F : Fd K d_Road_price fd) : KBn K fd ["self", "goal"] 1 ["goal"] (fun us ws => us ++ ws) (fun vs zs => vs ++ zs) :=
  kbN F 1 ["goal"] (fun us ws => us ++ ws) (fun r1 r2 => r1.append r2) fun kV doc pm an cdv ct us ws h1 h2 => match us, ws, h1, h2 with | [_], [_], _, _ => rfl
theorem kb_leads {fd : FuncData} (F : Fd K d_Road_leads fd) : KBn K fd ["self", "goal"] 1 ["goal"] (fun us ws => us ++ ws) (fun vs zs => vs ++ zs) :=
  kbN F 1 ["goal"] (fun us ws => us ++ ws) (fun r1 r2 => r1.append r2) fun kV doc pm an cdv ct us ws h1 h2 => match us, ws, h1, h2 with | [_], [_], _, _ => rfl
def spRd (K : PySem.W.Frag) : Sp := fun vs H Q _ => ∃ (p a q r : Addr) (n : Nat) (t f g : Str) (i j : Int), vs = [.ref p, .ref a, .str t, .ref q, .ref r] ∧ PenAt H p n ∧ n ≤ 79000 ∧ StAt K H a (mkRd t f g i j) ∧ okEnds t f g = true ∧ priceOk i ∧ priceOk j ∧ H q = some (.tup [.str f, .str g]) ∧ H r = some (.tup [.int i, .int j]) ∧ TabS H (TP K) TQ ∧
  ∀ H', EB p H H' → PenAt H' p (n + 1) → TabS H' (TP K) TQ → Q (.bl true) H'
theorem sc_road : FnScope ["_law_pen_here", "_law_street", "_law_title", "_law_two_here", "_law_pays", "_law_low", "_law_high", "_law_first", "_law_second", "_law_end"] ["_law_pen_here", "_law_street", "_law_title", "_law_two_here", "_law_pays"] (defScope s__law_road_right) := ⟨rfl, rfl, rfl, by decide +kernel, rfl, by decide +kernel, by decide +kernel⟩
theorem p_road (T : Tx K mg) (TB : TabB base mg (He.cT K ("_law_odd_right", none)).1 (TP K)) : PromG P w K mg base 10 d__law_road_right ["_law_pen_here", "_law_street", "_law_title", "_law_two_here", "_law_pays"] (spRd K) := by
  obtain ⟨fd, F⟩ := f__law_road_right T
  obtain ⟨fdR, FR, GR⟩ := p_Road_init (P := P) (w := w) (base := base) T
  have BR := br_Road FR
  obtain ⟨fdL, FL, GL, BL⟩ := p_Road_leads (P := P) (w := w) (base := base) T
  obtain ⟨fdP, FP, GP, BP⟩ := p_Road_price (P := P) (w := w) (base := base) T
  obtain ⟨fdE, FE, GE, BE⟩ := p_ends (P := P) (w := w) (base := base) T
  obtain ⟨fdO, FO, GO, BO⟩ := p_odd (P := P) (w := w) (base := base) T TB
  obtain ⟨fdK, FK, GK, BK⟩ := p_kinds (P := P) (w := w) (base := base) T
  have KP := kb_price FP
  have KL := kb_leads FL
  refine ⟨fd, F, FnG.body F sc_road (fun vs H Q E h => ?_) (fun cdv A outer s H vs Q E hr gu h => ?_), F.bindsN fun _ _ _ _ _ _ us hl => match us, hl with | [_, _, _, _, _], _ => rfl⟩
  · obtain ⟨p, a, q, r, n, t, f, g, i, j, rfl, _⟩ := h
    rfl
  · obtain ⟨p, a, q, r, n, t, f, g, i, j, rfl, hp, hn, ha, ok0, pi, pj, hq, hr0, tb, k⟩ := h
    refine ⟨_, PSs.nox (pss_cons (ps_asg (pe_callB cr_sortedS (by rfl) (n_sorted T) (by decide +kernel) (pa_cons (pe_lc (own := [("_law_end", 9)]) (g := gName 9) (tt := tYes) (by rfl) sc_road.nd (pi_tup (pv 3)) (blkOk_by (own := [("_law_end", 9)]) (N := ["_law_pen_here", "_law_street", "_law_title", "_law_two_here", "_law_pays", "_law_low", "_law_high", "_law_first", "_law_second", "_law_end"]) (sc := defScope s__law_road_right) (by decide +kernel)) (fun _ _ _ _ _ => pg_name (i := 9) sc_road.nd rfl (Or.inl rfl)) (fun _ _ _ _ _ => pts_nil) (fun _ _ _ _ _ => (pe_callTy call_strT (by rfl) (n_str T) (by decide +kernel) (pa_cons (pv 9) pa_nil)))) pa_nil)) (pg_lst (by rfl) (pgs_cons (pg_name (i := 5) sc_road.nd rfl (Or.inl rfl)) (pgs_cons (pg_name (i := 6) sc_road.nd rfl (Or.inl rfl)) pgs_nil))))
      (pss_cons (ps_asg (pe_ifExp (pt_cmpR op_eq (pe_ix ix_tup (pv 3) pe_int (fun _ _ => rfl)) (pv 5) (nomark _)) (pv 4) (pe_revT (pv 4))) (pg_tup (by rfl) (pgs_cons (pg_name (i := 7) sc_road.nd rfl (Or.inl rfl)) (pgs_cons (pg_name (i := 8) sc_road.nd rfl (Or.inl rfl)) pgs_nil))))
      (pss_cons (ps_if (PW.pt (pw_or (pt_not (pt_val (pe_callG gu GE (hr.mono (by decide)) rfl (g__law_ends_right T) FE.kp BE .nil pass0 (pa_cons (pv 1) (pa_cons (pv 2) (pa_cons (pv 5) (pa_cons (pv 6) pa_nil))))))) (pw_or1 (pt_not (pt_val (pe_callG gu GO hr rfl (g__law_odd_right T) FO.kp BO .nil pass0 (pa_cons (pv 0) (pa_cons (pv 1) (pa_cons (pv 5) (pa_cons (pv 6) pa_nil)))))))))) (pss_one (ps_ret pe_bl)) pss_nil)
      (pss_cons (ps_if (pt_cmpR op_ne (pe_callB (call_reprL (sm_ok T) gu (hu64 hr)) (by rfl) (n_repr T) (by decide +kernel) (pa_cons (pe_lst (pa_cons (pe_fld (pv 1) rfl) (pa_cons (pe_fld (pv 1) rfl) pa_nil))) pa_nil)) (pe_callB (call_reprL (sm_ok T) gu (hu64 hr)) (by rfl) (n_repr T) (by decide +kernel) (pa_cons (pe_lst (pa_cons (pv 7) (pa_cons (pv 8) pa_nil))) pa_nil)) (nomark _)) (pss_one (ps_ret pe_bl)) pss_nil)
      (pss_cons (ps_if (pt_cmpR op_ne (pe_callB (call_reprL (sm_ok T) gu (hu64 hr)) (by rfl) (n_repr T) (by decide +kernel) (pa_cons (pe_lst (pa_cons (pe_meth (pv 1) (c_Road T) (m_Road_price T) GP (hr.mono (by decide)) BP .nil passF (pa_cons (pv 6) pa_nil)) (pa_cons (pe_meth (pv 1) (c_Road T) (m_Road_price T) GP (hr.mono (by decide)) BP .nil passF (pa_cons (pv 5) pa_nil)) (pa_cons (pe_methN0 (pv 1) (c_Road T) (m_Road_price T) GP (hr.mono (by decide)) KP passF (pk_cons (pv 6) pk_nil)) pa_nil)))) pa_nil)) (pe_callB (call_reprL (sm_ok T) gu (hu64 hr)) (by rfl) (n_repr T) (by decide +kernel) (pa_cons (pe_lst (pa_cons (pv 7) (pa_cons (pv 8) (pa_cons (pv 7) pa_nil)))) pa_nil)) (nomark _)) (pss_one (ps_ret pe_bl)) pss_nil)
      (pss_cons (ps_if (pt_cmpR op_ne (pe_callB (call_reprL (sm_ok T) gu (hu64 hr)) (by rfl) (n_repr T) (by decide +kernel) (pa_cons (pe_lst (pa_cons (pe_meth (pv 1) (c_Road T) (m_Road_leads T) GL (hr.mono (by decide)) BL .nil passF (pa_cons (pv 5) pa_nil)) (pa_cons (pe_meth (pv 1) (c_Road T) (m_Road_leads T) GL (hr.mono (by decide)) BL .nil passF (pa_cons (pv 6) pa_nil)) (pa_cons (pe_methN0 (pv 1) (c_Road T) (m_Road_leads T) GL (hr.mono (by decide)) KL passF (pk_cons (pv 5) pk_nil)) pa_nil)))) pa_nil)) (pe_callB (call_reprL (sm_ok T) gu (hu64 hr)) (by rfl) (n_repr T) (by decide +kernel) (pa_cons (pe_op op_rep (pe_lst (pa_cons pe_bl pa_nil)) pe_int) pa_nil)) (nomark _)) (pss_one (ps_ret pe_bl)) pss_nil)
      (pss_cons (ps_if (pt_cmpR (by refine op_neT T ?_ ?_ ?_; rfl; rfl; exact hr.mono (by decide)) (pv 1) (pe_make (mk_Road T) GR (hr.mono (by decide)) rfl (g_Road T) BR .nil pass0 (pa_cons (pv 2) (pa_cons (pv 5) (pa_cons (pv 6) (pa_cons (pv 7) (pa_cons (pv 8) pa_nil)))))) (nomark _)) (pss_one (ps_ret pe_bl)) pss_nil)
      (pss_one (ps_ret (pe_cmpR (op_eqD (hu64 hr)) (pe_call GK (hr.mono (by decide)) rfl (g__law_kinds T) FK.kp BK .nil pass0 (pa_cons (pv 1) pa_nil)) (pe_lst (pa_cons pe_bl (pa_cons pe_bl (pa_cons pe_bl (pa_cons pe_bl (pa_cons pe_bl (pa_cons pe_bl pa_nil))))))) (nomark _))))))))))), ?_⟩
    obtain ⟨lo, hi, ok, lt, fg, st⟩ := sort_two ok0
    obtain ⟨o1, o2, o3, o4⟩ := okEnds_iff ok
    have qne : q ≠ p := by
      obtain ⟨c, ns, a2, r, h1, _⟩ := hp
      exact ne_of hq h1 (by intro z; cases z)
    obtain ⟨fi, se, efs, md⟩ := mkRd_two (t := t) (i := i) (j := j) lt fg
    rw [md] at ha
    obtain ⟨dx, hx⟩ := ha
    have ane : a ≠ p := by
      obtain ⟨c, ns, a2, r, h1, _⟩ := hp
      exact ne_of hx h1 (by intro z; cases z)
    refine ⟨_, rfl, q, rfl, ⟨_, SqT.of hq⟩, fun D nD => ?_⟩
    refine lc_tup (K := K) (a := q) (xs := [.str f, .str g]) (fun i H' => Same H H' ∧ H' D = some (.lst ([V.str f, .str g].take i))) ⟨new_same nD _, upd_same⟩ (fun i H' _ z => SqT.of (z.1 _ _ hq)) ?_ ?_
    · rintro j v H8 hj ⟨s8, d8⟩
      have hj2 : (j = 0 ∧ v = .str f) ∨ (j = 1 ∧ v = .str g) := by
        match j, hj with
        | 0, hj => exact .inl ⟨rfl, (Option.some.inj hj).symm⟩
        | 1, hj => exact .inr ⟨rfl, (Option.some.inj hj).symm⟩
        | j + 2, hj => cases hj
      rcases hj2 with ⟨rfl, rfl⟩ | ⟨rfl, rfl⟩
      · exact ⟨rfl, _, rfl, _, rfl, _, d8, (by show 0 < sizeLine; decide), fun b o e => by rw [upd_ne (ne_of_none e nD)]; exact s8 b o e, upd_same⟩
      · exact ⟨rfl, _, rfl, _, rfl, _, d8, (by show 1 < sizeLine; decide), fun b o e => by rw [upd_ne (ne_of_none e nD)]; exact s8 b o e, upd_same⟩
    · rintro H0 ⟨s0, d0⟩
      refine ⟨D, [f, g], rfl, SqL.of d0, (by show 2 < 64; omega), fun ys l3 pm so n3 => ?_⟩
      rw [st ys pm so]
      have s1 := s0.trans (new_same n3 (.lst ([lo, hi].map V.str)))
      refine ⟨l3, _, rfl, SqL.of upd_same, rfl, ?_⟩
      generalize upd H0 l3 (.lst ([lo, hi].map V.str)) = H1 at s1
      refine ⟨_, _, rfl, _, _, rfl, rfl, ?_⟩
      have q1 := s1 _ _ hq
      have r1 := s1 _ _ hr0
      refine ⟨_, rfl, q, _, 0, _, rfl, rfl, SqT.of q1, atI_nat (j := 0) rfl, _, rfl, rfl, _, rfl, ?_⟩
      rcases efs with ⟨fl, rfl, rfl⟩ | ⟨fl, rfl, rfl⟩
      · refine iteTe (decide_eq_true (congrArg V.str fl)) ⟨_, rfl, r, _, rfl, SqT.of r1, rfl, _, _, rfl, _, _, rfl, rfl, ?_⟩
        have pf : priceOk fi := by assumption
        have ps : priceOk se := by assumption
        have el : isE lo hi (.str lo) = true := by simp [isE]
        have eh : isE lo hi (.str hi) = true := by simp [isE]
        have f1 : (Sv.road t lo hi fi se).pay hi = fi := if_pos rfl
        have f2 : (Sv.road t lo hi fi se).pay lo = se := if_neg o4
        have x1 := s1 _ _ hx
        refine ⟨_, rfl, _, rfl, _, rfl, _, rfl, a, t, lo, hi, .road t lo hi fi se, rfl, ⟨dx, x1⟩, .rd fi se pf ps, ok, fun H5 s5 => ⟨_, rfl, iteF ?_⟩⟩
        have x5 := s5 _ _ x1
        refine ⟨_, rfl, _, rfl, _, rfl, _, rfl, p, a, _, t, lo, hi, .road t lo hi fi se, rfl, (hp.same s1).same s5, by omega, ⟨dx, x5⟩, .rd fi se pf ps, ok, tab_same (tab_same tb s1) s5, fun H6 e6 p6 t6 => ⟨_, rfl, iteF ?_⟩⟩
        have x6 := e6 _ _ ane x5 (fun ps z => by cases z)
        have E6 : EB p H H6 := (EB.same (s1.trans s5)).trans e6
        -- there, back
        refine ⟨_, rfl, a, _, dx, _, _, rfl, x6, c_Road T, na_Road_there T, rf_there _ _ _ _ _, _, rfl, a, _, dx, _, _, rfl, x6, c_Road T, na_Road_back T, rf_back _ _ _ _ _, (by show 2 ≤ sizeLine; decide), fun l7 n7 => ?_⟩
        have s7 := new_same n7 (.lst [.int fi, .int se])
        refine ⟨_, _, rfl, .lst (SqL.of upd_same) (.cons (.int _) (.cons (.int _) .nil)), pays2 (pay1 pf) (pay1 ps), ?_⟩
        generalize upd H6 l7 (.lst [.int fi, .int se]) = H7 at s7
        refine ⟨_, rfl, _, rfl, (by show 2 ≤ sizeLine; decide), fun l8 n8 => ?_⟩
        have s8 := new_same n8 (.lst [.int fi, .int se])
        refine ⟨_, _, rfl, .lst (SqL.of upd_same) (.cons (.int _) (.cons (.int _) .nil)), pays2 (pay1 pf) (pay1 ps), rfl, _, rfl, iteFe (by rw [decide_eq_true rfl]; rfl) ?_⟩
        have S8 := s7.trans s8
        generalize upd H7 l8 (.lst [.int fi, .int se]) = H8 at S8
        have x8 := S8 _ _ x6
        -- prices
        refine ⟨_, rfl, a, dx, _, rfl, x8, no_Road_price _ _ _ _ _, _, rfl, a, .road t lo hi fi se, .str hi, rfl, rfl, ⟨dx, x8⟩, .str hi, (fun g9 H9 eg9 ie9 s9 => ?_), (fun z => absurd ((show isE lo hi (.str hi) = false from z).symm.trans eh) (by decide))⟩
        cases eg9
        have x9 := s9 _ _ x8
        refine ⟨_, rfl, a, dx, _, rfl, x9, no_Road_price _ _ _ _ _, _, rfl, a, .road t lo hi fi se, .str lo, rfl, rfl, ⟨dx, x9⟩, .str lo, (fun g10 H10 eg10 ie10 s10 => ?_), (fun z => absurd ((show isE lo hi (.str lo) = false from z).symm.trans el) (by decide))⟩
        cases eg10
        have x10 := s10 _ _ x9
        refine ⟨_, rfl, a, dx, _, rfl, x10, no_Road_price _ _ _ _ _, _, rfl, rfl, a, .road t lo hi fi se, .str hi, rfl, rfl, ⟨dx, x10⟩, .str hi, (fun g11 H11 eg11 ie11 s11 => ?_), (fun z => absurd ((show isE lo hi (.str hi) = false from z).symm.trans eh) (by decide))⟩
        cases eg11
        have S11 := ((S8.trans s9).trans s10).trans s11
        refine ⟨(by show 3 ≤ sizeLine; decide), fun l12 n12 => ?_⟩
        have S12 := S11.trans (new_same n12 (.lst [.int ((Sv.road t lo hi fi se).pay hi), .int ((Sv.road t lo hi fi se).pay lo), .int ((Sv.road t lo hi fi se).pay hi)]))
        refine ⟨_, .list [.int fi, .int se, .int fi], rfl, .lst (SqL.of upd_same) (.cons (by show Dq _ _ (.int ((Sv.road t lo hi fi se).pay hi)) _; rw [f1]; exact .int _) (.cons (by show Dq _ _ (.int ((Sv.road t lo hi fi se).pay lo)) _; rw [f2]; exact .int _) (.cons (by show Dq _ _ (.int ((Sv.road t lo hi fi se).pay hi)) _; rw [f1]; exact .int _) .nil))), pays3 (pay1 pf) (pay1 ps) (pay1 pf), ?_⟩
        refine ⟨_, rfl, _, rfl, _, rfl, (by show 3 ≤ sizeLine; decide), fun l13 n13 => ?_⟩
        have S13 := S12.trans (new_same n13 (.lst [.int fi, .int se, .int fi]))
        refine ⟨_, _, rfl, .lst (SqL.of upd_same) (.cons (.int _) (.cons (.int _) (.cons (.int _) .nil))), pays3 (pay1 pf) (pay1 ps) (pay1 pf), rfl, _, rfl, iteFe (by rw [decide_eq_true rfl]; rfl) ?_⟩
        have x13 := S13 _ _ x6
        -- leads
        refine ⟨_, rfl, a, dx, _, rfl, x13, no_Road_leads _ _ _ _ _, _, rfl, a, .road t lo hi fi se, .str lo, rfl, rfl, ⟨dx, x13⟩, .str lo, (fun g14 H14 eg14 ie14 s14 => ?_), (fun z => absurd ((show isE lo hi (.str lo) = false from z).symm.trans el) (by decide))⟩
        have x14 := s14 _ _ x13
        refine ⟨_, rfl, a, dx, _, rfl, x14, no_Road_leads _ _ _ _ _, _, rfl, a, .road t lo hi fi se, .str hi, rfl, rfl, ⟨dx, x14⟩, .str hi, (fun g15 H15 eg15 ie15 s15 => ?_), (fun z => absurd ((show isE lo hi (.str hi) = false from z).symm.trans eh) (by decide))⟩
        have x15 := s15 _ _ x14
        refine ⟨_, rfl, a, dx, _, rfl, x15, no_Road_leads _ _ _ _ _, _, rfl, rfl, a, .road t lo hi fi se, .str lo, rfl, rfl, ⟨dx, x15⟩, .str lo, (fun g16 H16 eg16 ie16 s16 => ?_), (fun z => absurd ((show isE lo hi (.str lo) = false from z).symm.trans el) (by decide))⟩
        have S16 := ((S13.trans s14).trans s15).trans s16
        clear S13 x13 x14 x15 s14 s15 S12
        refine ⟨(by show 3 ≤ sizeLine; decide), fun l17 n17 => ?_⟩
        have S17 := S16.trans (new_same n17 (.lst [.bl false, .bl false, .bl false]))
        have ff : fine (.list [.bool false, .bool false, .bool false]) = true := by decide
        refine ⟨_, .list [.bool false, .bool false, .bool false], rfl, .lst (SqL.of upd_same) (.cons (.bl false) (.cons (.bl false) (.cons (.bl false) .nil))), fine_len ff, ?_⟩
        refine ⟨(by show 1 ≤ sizeLine; decide), fun k1 n18 => ?_⟩
        have S18 := S17.trans (new_same n18 (.lst [.bl false]))
        refine ⟨k1, 3, [.bl false], rfl, rfl, upd_same, by decide, by decide, (by show 3 ≤ sizeLine; decide), fun dl n19 => ?_⟩
        have S19 := S18.trans (new_same n19 (.lst [.bl false, .bl false, .bl false]))
        refine ⟨_, .list [.bool false, .bool false, .bool false], rfl, .lst (SqL.of (xs := [.bl false, .bl false, .bl false]) upd_same) (.cons (.bl false) (.cons (.bl false) (.cons (.bl false) .nil))), fine_len ff, rfl, _, rfl, iteFe (by rw [decide_eq_true rfl]; rfl) ?_⟩
        have x19 := S19 _ _ x6
        -- the same road
        refine ⟨_, rfl, _, rfl, _, rfl, _, rfl, _, rfl, _, rfl, fun x9 dx9 n9 m9 _ => ⟨x9, dx9, t, lo, hi, fi, se, rfl, ok, pf, ps, upd_same, fun H20 b20 h20 => ⟨rfl, ?_⟩⟩⟩
        have mm : mkRd t lo hi fi se = .road t lo hi fi se := if_pos lt
        rw [mm] at h20
        have s20 := made_same n9 m9 b20
        have S20 := S19.trans s20
        refine ⟨a, .road t lo hi fi se, some (.road t lo hi fi se), rfl, ⟨dx, s20 _ _ x19⟩, ⟨x9, rfl, dx9, h20⟩, _, rfl, iteFe (by rw [decide_eq_true rfl]; rfl) ?_⟩
        have x20 := S20 _ _ x6
        refine ⟨_, rfl, a, t, lo, hi, .road t lo hi fi se, rfl, ⟨dx, x20⟩, .rd fi se pf ps, fun H21 k21 s21 h21 => ⟨(by show 6 ≤ sizeLine; decide), fun k22 n22 => ?_⟩⟩
        have s22 := new_same n22 (.lst [.bl true, .bl false, .bl true, .bl false, .bl false, .bl true])
        have S22 := (S20.trans s21).trans s22
        exact eqD_same (SqL.of (s22 _ _ h21)) (SqL.of upd_same) (.cons (.bl _) (.cons (.bl _) (.cons (.bl _) (.cons (.bl _) (.cons (.bl _) (.cons (.bl _) .nil)))))) (by decide) (k _ (E6.trans (EB.same S22)) (p6.same S22) (tab_same t6 S22))
      · refine iteFe (decide_eq_false (fun z => o4 ((V.str.inj z).symm.trans fl))) ⟨_, rfl, r, _, _, rfl, SqT.of r1, fun rv nrv => ⟨rv, _, rfl, SqT.of upd_same, rfl, _, _, rfl, _, _, rfl, rfl, ?_⟩⟩
        have s1 := s1.trans (new_same nrv (.tup [.int fi, .int se]))
        generalize upd H1 rv (.tup [.int fi, .int se]) = H1 at s1
        have pf : priceOk fi := by assumption
        have ps : priceOk se := by assumption
        have el : isE lo hi (.str lo) = true := by simp [isE]
        have eh : isE lo hi (.str hi) = true := by simp [isE]
        have f1 : (Sv.road t lo hi fi se).pay hi = fi := if_pos rfl
        have f2 : (Sv.road t lo hi fi se).pay lo = se := if_neg o4
        have x1 := s1 _ _ hx
        refine ⟨_, rfl, _, rfl, _, rfl, _, rfl, a, t, lo, hi, .road t lo hi fi se, rfl, ⟨dx, x1⟩, .rd fi se pf ps, ok, fun H5 s5 => ⟨_, rfl, iteF ?_⟩⟩
        have x5 := s5 _ _ x1
        refine ⟨_, rfl, _, rfl, _, rfl, _, rfl, p, a, _, t, lo, hi, .road t lo hi fi se, rfl, (hp.same s1).same s5, by omega, ⟨dx, x5⟩, .rd fi se pf ps, ok, tab_same (tab_same tb s1) s5, fun H6 e6 p6 t6 => ⟨_, rfl, iteF ?_⟩⟩
        have x6 := e6 _ _ ane x5 (fun ps z => by cases z)
        have E6 : EB p H H6 := (EB.same (s1.trans s5)).trans e6
        -- there, back
        refine ⟨_, rfl, a, _, dx, _, _, rfl, x6, c_Road T, na_Road_there T, rf_there _ _ _ _ _, _, rfl, a, _, dx, _, _, rfl, x6, c_Road T, na_Road_back T, rf_back _ _ _ _ _, (by show 2 ≤ sizeLine; decide), fun l7 n7 => ?_⟩
        have s7 := new_same n7 (.lst [.int fi, .int se])
        refine ⟨_, _, rfl, .lst (SqL.of upd_same) (.cons (.int _) (.cons (.int _) .nil)), pays2 (pay1 pf) (pay1 ps), ?_⟩
        generalize upd H6 l7 (.lst [.int fi, .int se]) = H7 at s7
        refine ⟨_, rfl, _, rfl, (by show 2 ≤ sizeLine; decide), fun l8 n8 => ?_⟩
        have s8 := new_same n8 (.lst [.int fi, .int se])
        refine ⟨_, _, rfl, .lst (SqL.of upd_same) (.cons (.int _) (.cons (.int _) .nil)), pays2 (pay1 pf) (pay1 ps), rfl, _, rfl, iteFe (by rw [decide_eq_true rfl]; rfl) ?_⟩
        have S8 := s7.trans s8
        generalize upd H7 l8 (.lst [.int fi, .int se]) = H8 at S8
        have x8 := S8 _ _ x6
        -- prices
        refine ⟨_, rfl, a, dx, _, rfl, x8, no_Road_price _ _ _ _ _, _, rfl, a, .road t lo hi fi se, .str hi, rfl, rfl, ⟨dx, x8⟩, .str hi, (fun g9 H9 eg9 ie9 s9 => ?_), (fun z => absurd ((show isE lo hi (.str hi) = false from z).symm.trans eh) (by decide))⟩
        cases eg9
        have x9 := s9 _ _ x8
        refine ⟨_, rfl, a, dx, _, rfl, x9, no_Road_price _ _ _ _ _, _, rfl, a, .road t lo hi fi se, .str lo, rfl, rfl, ⟨dx, x9⟩, .str lo, (fun g10 H10 eg10 ie10 s10 => ?_), (fun z => absurd ((show isE lo hi (.str lo) = false from z).symm.trans el) (by decide))⟩
        cases eg10
        have x10 := s10 _ _ x9
        refine ⟨_, rfl, a, dx, _, rfl, x10, no_Road_price _ _ _ _ _, _, rfl, rfl, a, .road t lo hi fi se, .str hi, rfl, rfl, ⟨dx, x10⟩, .str hi, (fun g11 H11 eg11 ie11 s11 => ?_), (fun z => absurd ((show isE lo hi (.str hi) = false from z).symm.trans eh) (by decide))⟩
        cases eg11
        have S11 := ((S8.trans s9).trans s10).trans s11
        refine ⟨(by show 3 ≤ sizeLine; decide), fun l12 n12 => ?_⟩
        have S12 := S11.trans (new_same n12 (.lst [.int ((Sv.road t lo hi fi se).pay hi), .int ((Sv.road t lo hi fi se).pay lo), .int ((Sv.road t lo hi fi se).pay hi)]))
        refine ⟨_, .list [.int fi, .int se, .int fi], rfl, .lst (SqL.of upd_same) (.cons (by show Dq _ _ (.int ((Sv.road t lo hi fi se).pay hi)) _; rw [f1]; exact .int _) (.cons (by show Dq _ _ (.int ((Sv.road t lo hi fi se).pay lo)) _; rw [f2]; exact .int _) (.cons (by show Dq _ _ (.int ((Sv.road t lo hi fi se).pay hi)) _; rw [f1]; exact .int _) .nil))), pays3 (pay1 pf) (pay1 ps) (pay1 pf), ?_⟩
        refine ⟨_, rfl, _, rfl, _, rfl, (by show 3 ≤ sizeLine; decide), fun l13 n13 => ?_⟩
        have S13 := S12.trans (new_same n13 (.lst [.int fi, .int se, .int fi]))
        refine ⟨_, _, rfl, .lst (SqL.of upd_same) (.cons (.int _) (.cons (.int _) (.cons (.int _) .nil))), pays3 (pay1 pf) (pay1 ps) (pay1 pf), rfl, _, rfl, iteFe (by rw [decide_eq_true rfl]; rfl) ?_⟩
        have x13 := S13 _ _ x6
        -- leads
        refine ⟨_, rfl, a, dx, _, rfl, x13, no_Road_leads _ _ _ _ _, _, rfl, a, .road t lo hi fi se, .str lo, rfl, rfl, ⟨dx, x13⟩, .str lo, (fun g14 H14 eg14 ie14 s14 => ?_), (fun z => absurd ((show isE lo hi (.str lo) = false from z).symm.trans el) (by decide))⟩
        have x14 := s14 _ _ x13
        refine ⟨_, rfl, a, dx, _, rfl, x14, no_Road_leads _ _ _ _ _, _, rfl, a, .road t lo hi fi se, .str hi, rfl, rfl, ⟨dx, x14⟩, .str hi, (fun g15 H15 eg15 ie15 s15 => ?_), (fun z => absurd ((show isE lo hi (.str hi) = false from z).symm.trans eh) (by decide))⟩
        have x15 := s15 _ _ x14
        refine ⟨_, rfl, a, dx, _, rfl, x15, no_Road_leads _ _ _ _ _, _, rfl, rfl, a, .road t lo hi fi se, .str lo, rfl, rfl, ⟨dx, x15⟩, .str lo, (fun g16 H16 eg16 ie16 s16 => ?_), (fun z => absurd ((show isE lo hi (.str lo) = false from z).symm.trans el) (by decide))⟩
        have S16 := ((S13.trans s14).trans s15).trans s16
        clear S13 x13 x14 x15 s14 s15 S12
        refine ⟨(by show 3 ≤ sizeLine; decide), fun l17 n17 => ?_⟩
        have S17 := S16.trans (new_same n17 (.lst [.bl false, .bl false, .bl false]))
        have ff : fine (.list [.bool false, .bool false, .bool false]) = true := by decide
        refine ⟨_, .list [.bool false, .bool false, .bool false], rfl, .lst (SqL.of upd_same) (.cons (.bl false) (.cons (.bl false) (.cons (.bl false) .nil))), fine_len ff, ?_⟩
        refine ⟨(by show 1 ≤ sizeLine; decide), fun k1 n18 => ?_⟩
        have S18 := S17.trans (new_same n18 (.lst [.bl false]))
        refine ⟨k1, 3, [.bl false], rfl, rfl, upd_same, by decide, by decide, (by show 3 ≤ sizeLine; decide), fun dl n19 => ?_⟩
        have S19 := S18.trans (new_same n19 (.lst [.bl false, .bl false, .bl false]))
        refine ⟨_, .list [.bool false, .bool false, .bool false], rfl, .lst (SqL.of (xs := [.bl false, .bl false, .bl false]) upd_same) (.cons (.bl false) (.cons (.bl false) (.cons (.bl false) .nil))), fine_len ff, rfl, _, rfl, iteFe (by rw [decide_eq_true rfl]; rfl) ?_⟩
        have x19 := S19 _ _ x6
        -- the same road
        refine ⟨_, rfl, _, rfl, _, rfl, _, rfl, _, rfl, _, rfl, fun x9 dx9 n9 m9 _ => ⟨x9, dx9, t, lo, hi, fi, se, rfl, ok, pf, ps, upd_same, fun H20 b20 h20 => ⟨rfl, ?_⟩⟩⟩
        have mm : mkRd t lo hi fi se = .road t lo hi fi se := if_pos lt
        rw [mm] at h20
        have s20 := made_same n9 m9 b20
        have S20 := S19.trans s20
        refine ⟨a, .road t lo hi fi se, some (.road t lo hi fi se), rfl, ⟨dx, s20 _ _ x19⟩, ⟨x9, rfl, dx9, h20⟩, _, rfl, iteFe (by rw [decide_eq_true rfl]; rfl) ?_⟩
        have x20 := S20 _ _ x6
        refine ⟨_, rfl, a, t, lo, hi, .road t lo hi fi se, rfl, ⟨dx, x20⟩, .rd fi se pf ps, fun H21 k21 s21 h21 => ⟨(by show 6 ≤ sizeLine; decide), fun k22 n22 => ?_⟩⟩
        have s22 := new_same n22 (.lst [.bl true, .bl false, .bl true, .bl false, .bl false, .bl true])
        have S22 := (S20.trans s21).trans s22
        exact eqD_same (SqL.of (s22 _ _ h21)) (SqL.of upd_same) (.cons (.bl _) (.cons (.bl _) (.cons (.bl _) (.cons (.bl _) (.cons (.bl _) (.cons (.bl _) .nil)))))) (by decide) (k _ (E6.trans (EB.same S22)) (p6.same S22) (tab_same t6 S22))
end
end K05
namespace K05
open PySem PySem.Spec PyProof.Rows L2 Hx Gx Nx KX LamX
theorem same_upd {H H' : Hp} {D : Addr} {o : HO} (nD : H D = none) (s : Same H H') : Same H (upd H' D o) := fun b u e => by
  rw [upd_ne (ne_of_none e nD)]
  exact s b u e
section
variable {P : Program} {w : World} {K : PySem.W.Frag} {mg : Str → Option Value} {base : Heap}
theorem kb_Road {fd : FuncData} (F : Fd K d_Road_init fd) : ∃ its : List Value, KBn K fd ["self", "name", "one", "other", "there", "back"] 1 ["back", "there", "other", "one", "name"] (fun us ws => us ++ ws.reverse) (fun vs zs => vs ++ zs.reverse) := by
  obtain ⟨its, h⟩ := FunD.kbindsD (ps := ["self", "name", "one", "other", "there", "back"]) F 1 ["back", "there", "other", "one", "name"] (fun us _ ws => us ++ ws.reverse) (by intro z; cases z) (fun r1 _ r2 => r1.append (Vals.reverse r2))
    (fun T kV doc pm an cdv ct us its ws h1 h2 h3 => match us, its, ws, h1, h2, h3 with | [_], [_, _], [_, _, _, _, _], _, _, _ => ⟨_, rfl, rfl⟩)
  exact ⟨its, h⟩
theorem kb1_Road {fd : FuncData} (F : Fd K d_Road_init fd) : ∃ its : List Value, KBn K fd ["self", "name", "one", "other", "there", "back"] 4 ["back"] (fun us ws => us ++ its.take 1 ++ ws) (fun vs zs => vs ++ [.int 0] ++ zs) := by
  obtain ⟨its, h⟩ := FunD.kbindsD (ps := ["self", "name", "one", "other", "there", "back"]) F 4 ["back"] (fun us ds ws => us ++ ds.take 1 ++ ws) (by intro z; cases z) (fun r1 r2 r3 => (r1.append (r2.take 1)).append r3)
    (fun T kV doc pm an cdv ct us its ws h1 h2 h3 => match us, its, ws, h1, h2, h3 with | [_, _, _, _], [_, _], [_], _, _, _ => ⟨_, rfl, rfl⟩)
  exact ⟨its, h⟩
theorem br3_Road {fd : FuncData} (F : Fd K d_Road_init fd) : ∃ ds, Vals [.int 0, .int 0] ds ∧ Binds K fd ["self", "name", "one", "other", "there", "back"] ds := by
  obtain ⟨ds, hv, hb⟩ := FunD.binds1 (ps := ["self", "name", "one", "other", "there", "back"]) F 4 0 (by intro z; cases z) rfl (fun T kV doc pm an cdv ct us its hl h2 => match us, its, hl, h2 with | [_, _, _, _], [_, _], _, _ => ⟨_, rfl, rfl⟩)
  exact ⟨ds, hv, hb⟩
theorem st_mkRd {H : Hp} {x dx : Addr} {t f g : Str} {i j : Int} (h : H x = some (.ins (He.ga K "Road") dx (mkRd t f g i j).fs)) : StAt K H x (mkRd t f g i j) := ⟨dx, by rw [cls_mkRd]; exact h⟩
theorem st_pen {H : Hp} {p x : Addr} {n : Nat} {v : Sv} (h : StAt K H x v) (g : PenAt H p n) : x ≠ p := by
  obtain ⟨dx, h⟩ := h
  obtain ⟨c2, ns, a2, r, g1, _⟩ := g
  exact ne_of h g1 (by intro z; cases z)
theorem st_EB {H H' : Hp} {p x : Addr} {n : Nat} {v : Sv} (h : StAt K H x v) (g : PenAt H p n) (e : EB p H H') : StAt K H' x v := by
  have z := st_pen h g
  obtain ⟨dx, h⟩ := h
  exact ⟨dx, e _ _ z h (fun ps z => by cases z)⟩
def spLaw (K : PySem.W.Frag) : Sp := fun vs H Q _ => ∃ (a : Addr) (ns : List Int), vs = [.ref a] ∧ SqL K H a (ns.map V.int) ∧ ns.length ≤ 63 ∧ TabS H (TP K) TQ ∧ ∀ H', Q (.bl true) H'
theorem sc_law : FnScope ["_law_script", "_law_pen_here", "_law_turn", "_law_two_here", "_law_pays", "_law_title", "_law_some", "_law_lone", "_law_road"] ["_law_script"] (defScope s_law) := ⟨rfl, rfl, rfl, by decide +kernel, rfl, by decide +kernel, by decide +kernel⟩
theorem p_law (T : Tx K mg) (TB : TabB base mg (He.cT K ("_law_odd_right", none)).1 (TP K)) : ∃ fd, Fd K d_law fd ∧ FnG P w K mg base CX0 11 (d_law.adr K) fd ["_law_script"] (spLaw K) := by
  obtain ⟨fd, F⟩ := f_law T
  obtain ⟨fdE, FE, GE, BE⟩ := p_pen (P := P) (w := w) (base := base) T
  obtain ⟨fdW, FW, GW, BW⟩ := p_word (P := P) (w := w) (base := base) T
  obtain ⟨fdT, FT, GT, BT⟩ := p_two (P := P) (w := w) (base := base) T
  obtain ⟨fdY, FY, GY, BY⟩ := p_price (P := P) (w := w) (base := base) T
  obtain ⟨fdK, FK, GK, BK⟩ := p_pick (P := P) (w := w) (base := base) T
  obtain ⟨fdR, FR, GR⟩ := p_Road_init (P := P) (w := w) (base := base) T
  obtain ⟨fdD, FD, GD, BD⟩ := p_road (P := P) (w := w) (base := base) T TB
  obtain ⟨fdV, FV, GV, BV⟩ := p_avenue (P := P) (w := w) (base := base) T TB
  have BR := br_Road FR
  obtain ⟨ds3, DR3, BR3⟩ := br3_Road FR
  obtain ⟨its, KR⟩ := kb_Road FR
  obtain ⟨its1, KR1⟩ := kb1_Road FR
  refine ⟨fd, F, FnG.body F sc_law (fun vs H Q E h => ?_) (fun cdv A outer s H vs Q E hr gu h => ?_)⟩
  · obtain ⟨a, ns, rfl, _⟩ := h
    rfl
  · obtain ⟨a, ns, rfl, hs, hl, tb, k⟩ := h
    refine ⟨_, PSs.nox (pss_cons (ps_set (i := 1) sc_law.nd rfl (Or.inr rfl) (pe_call GE (hr.mono (by decide)) rfl (g__law_pen T) FE.kp BE .nil pass0 (pa_cons (pv 0) pa_nil)))
      (pss_cons (ps_for PassesOwn.never rfl (pi_range1 (by rfl) (n_range T) (pa_cons pe_int pa_nil)) (pg_name (i := 2) sc_law.nd rfl (Or.inl rfl)) (pss_cons (ps_asg (pe_tup (pa_cons (pe_call GT (hr.mono (by decide)) rfl (g__law_two T) FT.kp BT .nil pass0 (pa_cons (pv 1) pa_nil)) (pa_cons (pe_tup (pa_cons (pe_call GY (hr.mono (by decide)) rfl (g__law_price T) FY.kp BY .nil pass0 (pa_cons (pv 1) pa_nil)) (pa_cons (pe_call GY (hr.mono (by decide)) rfl (g__law_price T) FY.kp BY .nil pass0 (pa_cons (pv 1) pa_nil)) pa_nil))) pa_nil))) (pg_tup (by rfl) (pgs_cons (pg_name (i := 3) sc_law.nd rfl (Or.inr rfl)) (pgs_cons (pg_name (i := 4) sc_law.nd rfl (Or.inr rfl)) pgs_nil))))
      (pss_cons (ps_set (i := 5) sc_law.nd rfl (Or.inr rfl) (pe_call GK (hr.mono (by decide)) rfl (g__law_pick T) FK.kp BK .nil pass0 (pa_cons (pv 1) (pa_cons (pe_lst (pa_cons (pe_call GW (hr.mono (by decide)) rfl (g__law_word T) FW.kp BW .nil pass0 (pa_cons (pv 1) pa_nil)) (pa_cons (pe_ix ix_tup (pv 3) pe_int (fun _ _ => rfl)) pa_nil))) pa_nil))))
      (pss_cons (ps_set (i := 6) sc_law.nd rfl (Or.inl rfl) (pe_lst (pa_cons (pe_make (mk_Road T) GR (hr.mono (by decide)) rfl (g_Road T) BR .nil pass0 (pa_cons (pv 5) (pa_cons (pe_ix ix_tup (pv 3) pe_int (fun _ _ => rfl)) (pa_cons (pe_ix ix_tup (pv 3) pe_int (fun _ _ => rfl)) (pa_cons (pe_ix ix_tup (pv 4) pe_int (fun _ _ => rfl)) (pa_cons (pe_ix ix_tup (pv 4) pe_int (fun _ _ => rfl)) pa_nil)))))) pa_nil)))
      (pss_cons (ps_expr (pe_bm PySem.F.plainAttrs_list PySem.F.slot_list_append PySem.F.type_list_append mt_append (pv 6) (pa_cons (pe_makeK0 (mk_Road T) GR (hr.mono (by decide)) rfl (g_Road T) KR pass0 (pk_cons (pe_ix ix_tup (pv 4) pe_int (fun _ _ => rfl)) (pk_cons (pe_ix ix_tup (pv 4) pe_int (fun _ _ => rfl)) (pk_cons (pe_ix ix_tup (pv 3) pe_int (fun _ _ => rfl)) (pk_cons (pe_ix ix_tup (pv 3) pe_int (fun _ _ => rfl)) (pk_cons (pv 5) pk_nil)))))) pa_nil)))
      (pss_cons (ps_if (pt_cmpR (op_neE (hu64 hr)) (pe_lc (own := [("_law_road", 8)]) (g := gName 8) (by rfl) sc_law.nd (pi_list (pv 6)) (blkOk_by (own := [("_law_road", 8)]) (N := ["_law_script", "_law_pen_here", "_law_turn", "_law_two_here", "_law_pays", "_law_title", "_law_some", "_law_lone", "_law_road"]) (sc := defScope s_law) (by decide +kernel)) (fun _ _ _ _ _ => pg_name (i := 8) sc_law.nd rfl (Or.inl rfl)) (fun _ _ _ _ _ => (pts_one (pt_not (pt_val (pe_callG gu GD hr rfl (g__law_road_right T) FD.kp BD .nil pass0 (pa_cons (pv 1) (pa_cons (pv 8) (pa_cons (pv 5) (pa_cons (pv 3) (pa_cons (pv 4) pa_nil)))))))))) (fun _ _ _ _ _ => (pv 8))) (pe_lst pa_nil) (nomark _)) (pss_one (ps_ret pe_bl)) pss_nil)
      (pss_cons (ps_set (i := 7) sc_law.nd rfl (Or.inl rfl) (pe_makeK (mk_Road T) GR (hr.mono (by decide)) rfl (g_Road T) KR1 pass0 (pa_cons (pv 5) (pa_cons (pe_ix ix_tup (pv 3) pe_int (fun _ _ => rfl)) (pa_cons (pe_ix ix_tup (pv 3) pe_int (fun _ _ => rfl)) pa_nil))) (pk_cons (pe_ix ix_tup (pv 4) pe_int (fun _ _ => rfl)) pk_nil)))
      (pss_cons (ps_if (pt_not (pt_val (pe_callG gu GD hr rfl (g__law_road_right T) FD.kp BD .nil pass0 (pa_cons (pv 1) (pa_cons (pv 7) (pa_cons (pv 5) (pa_cons (pv 3) (pa_cons (pe_tup (pa_cons pe_int (pa_cons (pe_ix ix_tup (pv 4) pe_int (fun _ _ => rfl)) pa_nil))) pa_nil)))))))) (pss_one (ps_ret pe_bl)) pss_nil)
      (pss_cons (ps_if (pt_not (pt_val (pe_callG gu GD hr rfl (g__law_road_right T) FD.kp BD .nil pass0 (pa_cons (pv 1) (pa_cons (pe_make (mk_Road T) GR (hr.mono (by decide)) rfl (g_Road T) BR3 DR3 pass0 (pa_cons (pv 5) (pa_cons (pe_ix ix_tup (pv 3) pe_int (fun _ _ => rfl)) (pa_cons (pe_ix ix_tup (pv 3) pe_int (fun _ _ => rfl)) pa_nil)))) (pa_cons (pv 5) (pa_cons (pv 3) (pa_cons (pe_tup (pa_cons pe_int (pa_cons pe_int pa_nil))) pa_nil)))))))) (pss_one (ps_ret pe_bl)) pss_nil)
      (pss_one (ps_if (pt_not (pt_val (pe_callG gu GV hr rfl (g__law_avenue_right T) FV.kp BV .nil pass0 (pa_cons (pv 1) (pa_cons (pv 5) (pa_cons (pv 3) pa_nil)))))) (pss_one (ps_ret pe_bl)) pss_nil)))))))))))
      (pss_one (ps_ret pe_bl)))), ?_⟩
    refine ⟨_, rfl, a, ns, rfl, hs, hl, fun H1 p s1 np p1 => ?_⟩
    refine ⟨8, rfl, by decide, by decide, for_range (n := 8) (fun c σ H' => PenAt H' p (50 * c) ∧ TabS H' (TP K) TQ ∧ ∃ v2 v3 v4 v5 v6 v7 v8, σ = [some (.ref a), some (.ref p), v2, v3, v4, v5, v6, v7, v8]) ⟨p1, tab_same tb s1, none, none, none, none, none, none, none, rfl⟩ ?_ ?_⟩
    · rintro c σ H2 hc ⟨p2, t2, v2, v3, v4, v5, v6, v7, v8, rfl⟩
      refine ⟨_, rfl, p, _, rfl, p2, by omega, fun H3 q f g b3 p3 hq nf ng nfg => ?_⟩
      have t3 := tab_but t2 b3 p2
      have qne : q ≠ p := by
        obtain ⟨c, ns, a2, r, h1, _⟩ := p3
        exact ne_of hq h1 (by intro z; cases z)
      refine ⟨_, rfl, p, _, rfl, p3, by omega, fun H4 i b4 p4 oi => ?_⟩
      have t4 := tab_but t3 b4 p3
      have q4 := b4 _ _ qne hq
      refine ⟨_, rfl, p, _, rfl, p4, by omega, fun H5 j b5 p5 oj => ?_⟩
      have t5 := tab_but t4 b5 p4
      have q5 := b5 _ _ qne q4
      clear t3 t4 q4 hq b3 b4 b5 p3 p4
      refine ⟨(by show 2 ≤ sizeLine; decide), fun r nr => ⟨(by show 2 ≤ sizeLine; decide), fun u nu => ?_⟩⟩
      have s6 := new_same nr (.tup [.int i, .int j])
      have r6 : upd H5 r (.tup [.int i, .int j]) r = some (.tup [.int i, .int j]) := upd_same
      have rne : r ≠ p := (p5.ne nr).symm
      generalize upd H5 r (.tup [.int i, .int j]) = H6 at s6 r6 nu
      have s7 := new_same nu (.tup [.ref q, .ref r])
      refine ⟨u, _, rfl, SqT.of upd_same, rfl, _, _, rfl, _, _, rfl, rfl, ?_⟩
      generalize upd H6 u (.tup [.ref q, .ref r]) = H7 at s7
      have s57 := s6.trans s7
      have p7 := p5.same s57
      have t7 := tab_same t5 s57
      have q7 := s57 _ _ q5
      have r7 := s7 _ _ r6
      clear s6 s7 s57 t5 q5 r6 p5 nr nu
      -- the title
      refine ⟨_, rfl, _, rfl, p, _, rfl, p7, by omega, fun H8 wd b8 p8 nw => ?_⟩
      have q8 := b8 _ _ qne q7
      have r8 := b8 _ _ rne r7
      have t8 := tab_but t7 b8 p7
      refine ⟨_, rfl, q, _, 0, _, rfl, rfl, SqT.of q8, atI_nat (j := 0) rfl, (by show 2 ≤ sizeLine; decide), fun L nL => ?_⟩
      have s9 := new_same nL (.lst [.str wd, .str f])
      have L9 : upd H8 L (.lst [.str wd, .str f]) L = some (.lst [.str wd, .str f]) := upd_same
      generalize upd H8 L (.lst [.str wd, .str f]) = H9 at s9 L9
      have p9 := p8.same s9
      refine ⟨p, L, _, _, rfl, p9, by omega, SqL.of L9, (p8.ne nL).symm, (by show 0 < 2; omega), (by show 2 ≤ 1000; omega), fun G v bG pG mv => ?_⟩
      have vn : ∃ t, v = .str t ∧ nameB t = true := by
        simp only [List.mem_cons, List.not_mem_nil, or_false] at mv
        rcases mv with rfl | rfl
        · exact ⟨_, rfl, nw⟩
        · exact ⟨_, rfl, nf⟩
      obtain ⟨t, rfl, nt⟩ := vn
      have qG := bG _ _ qne (s9 _ _ q8)
      have rG := bG _ _ rne (s9 _ _ r8)
      have tG := tab_but (tab_same t8 s9) bG p9
      have ok0 : okEnds t f g = true := by
        unfold okEnds
        rw [nt, nf, ng, decide_eq_false nfg]
        rfl
      clear mv q7 r7 q8 r8 t7 t8 s9 L9 p7 p8 p9 b8 bG nL
      -- roads
      refine ⟨_, rfl, _, rfl, q, _, 0, _, rfl, rfl, SqT.of qG, atI_nat (j := 0) rfl, _, rfl, q, _, 1, _, rfl, rfl, SqT.of qG, atI_nat (j := 1) rfl, _, rfl, r, _, 0, _, rfl, rfl, SqT.of rG, atI_nat (j := 0) rfl, _, rfl, r, _, 1, _, rfl, rfl, SqT.of rG, atI_nat (j := 1) rfl, fun x1 dx1 n1 m1 _ => ⟨x1, dx1, t, f, g, i, j, rfl, ok0, oi, oj, upd_same, fun G1 b1 h1 => ⟨rfl, ?_⟩⟩⟩
      have s1 := made_same n1 m1 b1
      have x1r := st_mkRd h1
      refine ⟨(by show 1 ≤ sizeLine; decide), fun Ls nLs => ?_⟩
      have s2 := new_same nLs (.lst [.ref x1])
      have L2 : upd G1 Ls (.lst [.ref x1]) Ls = some (.lst [.ref x1]) := upd_same
      generalize upd G1 Ls (.lst [.ref x1]) = G2 at s2 L2
      have q2 := s2 _ _ (s1 _ _ qG)
      have r2 := s2 _ _ (s1 _ _ rG)
      refine ⟨_, rfl, .inl ⟨rfl, _, SqL.of L2⟩, _, rfl, r, _, 1, _, rfl, rfl, SqT.of r2, atI_nat (j := 1) rfl, _, rfl, r, _, 0, _, rfl, rfl, SqT.of r2, atI_nat (j := 0) rfl, _, rfl, q, _, 1, _, rfl, rfl, SqT.of q2, atI_nat (j := 1) rfl, _, rfl, q, _, 0, _, rfl, rfl, SqT.of q2, atI_nat (j := 0) rfl, _, rfl, rfl, rfl, fun x2 dx2 n2 m2 _ => ⟨x2, dx2, t, f, g, i, j, rfl, ok0, oi, oj, upd_same, fun G3 b3 h3 => ⟨rfl, ?_⟩⟩⟩
      have s3 := made_same n2 m2 b3
      have L3 := s3 _ _ L2
      refine ⟨Ls, _, _, rfl, rfl, L3, (by show 1 < sizeLine; decide), ?_⟩
      have s4 : Same G1 (upd G3 Ls (.lst ([.ref x1] ++ [.ref x2]))) := same_upd nLs (s2.trans s3)
      have x2r : StAt K (upd G3 Ls (.lst ([.ref x1] ++ [.ref x2]))) x2 (mkRd t f g i j) := st_mkRd (dx := dx2) (by rw [upd_ne (ne_of h3 L3 (by intro z; cases z))]; exact h3)
      have L4 : upd G3 Ls (.lst ([.ref x1] ++ [.ref x2])) Ls = some (.lst [.ref x1, .ref x2]) := upd_same
      generalize upd G3 Ls (.lst ([.ref x1] ++ [.ref x2])) = G4 at s4 x2r L4
      have x1r := x1r.same s4
      have sG4 := s1.trans s4
      have pen4 := pG.same sG4
      have tab4 := tab_same tG sG4
      have q4 := sG4 _ _ qG
      have r4 := sG4 _ _ rG
      have Lne : Ls ≠ p := ((pG.same s1).ne nLs).symm
      clear s1 s2 s3 s4 sG4 L2 L3 h1 h3 b1 b3 q2 r2 n1 m1 n2 m2 nLs qG rG tG pG
      refine ⟨_, rfl, Ls, rfl, ⟨_, SqL.of L4⟩, fun D nD => ?_⟩
      have Dne : D ≠ p := (pen4.ne nD).symm
      have sD := new_same nD (.lst [])
      refine lc_list (K := K) (a := Ls) (xs := [.ref x1, .ref x2]) (fun c2 H' => EB p G4 H' ∧ PenAt H' p (50 * c + 20 + 2 + 2 + 9 + 1 + c2) ∧ TabS H' (TP K) TQ ∧ H' D = some (.lst [])) ⟨EB.same sD, pen4.same sD, tab_same tab4 sD, upd_same⟩ (fun c2 H' _ z => SqL.of (z.1 _ _ Lne L4 (fun ps z => by cases z))) ?_ ?_
      · rintro c2 v G5 hv ⟨e5, p5, t5, d5⟩
        have lc2 : c2 < 2 := by
          rcases Nat.lt_or_ge c2 2 with h | h
          · exact h
          · rw [List.getElem?_eq_none (by simpa using h)] at hv
            cases hv
        have vr : ∃ x, v = .ref x ∧ StAt K G4 x (mkRd t f g i j) := by
          have mv := List.mem_of_getElem? hv
          simp only [List.mem_cons, List.not_mem_nil, or_false] at mv
          rcases mv with rfl | rfl
          · exact ⟨_, rfl, x1r⟩
          · exact ⟨_, rfl, x2r⟩
        obtain ⟨x, rfl, hx⟩ := vr
        exact ⟨rfl, _, rfl, _, rfl, _, rfl, _, rfl, _, rfl, p, x, q, r, _, t, f, g, i, j, rfl, p5, by omega, st_EB hx pen4 e5, ok0, oi, oj, e5 _ _ qne q4 (fun ps z => by cases z), e5 _ _ rne r4 (fun ps z => by cases z), t5, fun G6 e6 p6 t6 => ⟨_, rfl, iteF ⟨e5.trans e6, p6, t6, e6 _ _ Dne d5 (fun ps z => by cases z)⟩⟩⟩
      · rintro G5 ⟨e5, p5, t5, d5⟩
        refine ⟨by decide, fun l nl => ⟨D, l, [], rfl, rfl, SqL.of (new_same nl _ _ _ d5), SqL.of upd_same, _, rfl, iteFe (by simp) ?_⟩⟩
        have s6 := new_same nl (.lst [])
        generalize upd G5 l (.lst []) = G6 at s6
        have q6 := s6 _ _ (e5 _ _ qne q4 (fun ps z => by cases z))
        have r6 := s6 _ _ (e5 _ _ rne r4 (fun ps z => by cases z))
        have p6 : PenAt G6 p (50 * c + 20 + 2 + 2 + 9 + 1 + 2) := p5.same s6
        have t6 := tab_same t5 s6
        have zero : priceOk 0 := ⟨by decide, by decide⟩
        clear e5 p5 t5 d5 s6 nl
        -- one price
        refine ⟨_, rfl, _, rfl, q, _, 0, _, rfl, rfl, SqT.of q6, atI_nat (j := 0) rfl, _, rfl, q, _, 1, _, rfl, rfl, SqT.of q6, atI_nat (j := 1) rfl, _, rfl, r, _, 1, _, rfl, rfl, SqT.of r6, atI_nat (j := 1) rfl, rfl, rfl, fun x3 dx3 n3 m3 _ => ⟨x3, dx3, t, f, g, 0, j, rfl, ok0, zero, oj, upd_same, fun G7 b7 h7 => ⟨rfl, ?_⟩⟩⟩
        have s7 := made_same n3 m3 b7
        have x3r := st_mkRd h7
        have q7 := s7 _ _ q6
        have r7 := s7 _ _ r6
        have p7 := p6.same s7
        have t7 := tab_same t6 s7
        refine ⟨_, rfl, _, rfl, _, rfl, _, rfl, _, rfl, r, _, 1, _, rfl, rfl, SqT.of r7, atI_nat (j := 1) rfl, (by show 2 ≤ sizeLine; decide), fun u1 nu1 => ?_⟩
        have s8 := new_same nu1 (.tup [.int 0, .int j])
        have u8 : upd G7 u1 (.tup [.int 0, .int j]) u1 = some (.tup [.int 0, .int j]) := upd_same
        generalize upd G7 u1 (.tup [.int 0, .int j]) = G8 at s8 u8
        have q8 := s8 _ _ q7
        refine ⟨p, x3, q, u1, _, t, f, g, 0, j, rfl, p7.same s8, by omega, x3r.same s8, ok0, zero, oj, q8, u8, tab_same t7 s8, fun G9 e9 p9 t9 => ⟨_, rfl, iteF ?_⟩⟩
        have q9 := e9 _ _ qne q8 (fun ps z => by cases z)
        -- no price
        refine ⟨_, rfl, _, rfl, _, rfl, q, _, 0, _, rfl, rfl, SqT.of q9, atI_nat (j := 0) rfl, _, rfl, q, _, 1, _, rfl, rfl, SqT.of q9, atI_nat (j := 1) rfl, fun x4 dx4 n4 m4 _ => ⟨x4, dx4, t, f, g, 0, 0, rfl, ok0, zero, zero, upd_same, fun G10 b10 h10 => ⟨rfl, ?_⟩⟩⟩
        have s10 := made_same n4 m4 b10
        have x4r := st_mkRd h10
        have q10 := s10 _ _ q9
        refine ⟨_, rfl, _, rfl, (by show 2 ≤ sizeLine; decide), fun u2 nu2 => ?_⟩
        have s11 := new_same nu2 (.tup [.int 0, .int 0])
        have u11 : upd G10 u2 (.tup [.int 0, .int 0]) u2 = some (.tup [.int 0, .int 0]) := upd_same
        generalize upd G10 u2 (.tup [.int 0, .int 0]) = G11 at s11 u11
        have q11 := s11 _ _ q10
        refine ⟨p, x4, q, u2, _, t, f, g, 0, 0, rfl, (p9.same s10).same s11, by omega, x4r.same s11, ok0, zero, zero, q11, u11, tab_same (tab_same t9 s10) s11, fun G12 e12 p12 t12 => ⟨_, rfl, iteF ?_⟩⟩
        have q12 := e12 _ _ qne q11 (fun ps z => by cases z)
        -- the avenue
        exact ⟨_, rfl, _, rfl, _, rfl, p, q, _, t, f, g, rfl, p12, by omega, ok0, q12, t12, fun G13 e13 p13 t13 => ⟨_, rfl, iteF ⟨p13.mono (by omega), t13, _, _, _, _, _, _, _, rfl⟩⟩⟩
    · rintro σ H2 ⟨p2, t2, v2, v3, v4, v5, v6, v7, v8, rfl⟩
      exact k _
end
end K05
namespace K05
open PySem PySem.Spec PyProof.Rows L2 Hx
theorem run (w : World) : HandSHeadRun.RunEq R (PySem.W.view R.prog [48]) hk ob 20000 loose w := by
  intro os
  kernel_rfl
end K05
namespace Hx
open PySem L2
theorem fd_one {K : PySem.W.Frag} {d : Dx} {f g : FuncData} (F : Fd K d f) (G : Fd K d g) : f = g := by
  obtain ⟨oc, od, dV, kV, doc, pm, an, cdv, ct, osl, _, h, _⟩ := F.ex
  obtain ⟨oc2, od2, dV2, kV2, doc2, pm2, an2, cdv2, ct2, osl2, _, h2, _⟩ := G.ex
  have e := h.symm.trans h2
  simp only [Option.some.injEq, Obj.mk.injEq, Data.func.injEq] at e
  exact e.2.2.1
end Hx
open PySem PySem.W PySem.Calls PyProof.Rows
set_option maxRecDepth 100000 in
set_option maxHeartbeats 8000000 in
theorem PySem.Challenge.cw_signtown_k05_avenues_and_roads_made_holds : PySem.Challenge.rw_signtown_k05_avenues_and_roads_made.Holds := by
  w_on; o_law
  refine HandSHeadRun.head_any (r := OpenLaw.row PySem.Challenge.rw_signtown_k05_avenues_and_roads_made) (q := view (OpenLaw.row PySem.Challenge.rw_signtown_k05_avenues_and_roads_made).prog [48]) (H := K05.hk) (ob := K05.ob) (M := 20000) (loose := K05.loose)
    (d := HandSHeadRun.topDef (OpenLaw.row PySem.Challenge.rw_signtown_k05_avenues_and_roads_made).prog 48) (kwd := []) K05.ob_eq
    (by kernel_rfl) (fun s => by kernel_rfl) K05.run (by kernel_rfl) (by kernel_rfl) (by kernel_rfl) (by rfl)
    (by first | assumption | decide +kernel) (by decide +kernel) ⟨rfl, rfl, rfl, rfl, rfl, by decide +kernel⟩ ?hw ?hc
  case hw => w_witness2
  case hc =>
    refine KX.walk_tG (l := PySem.Challenge.rw_signtown_k05_avenues_and_roads_made) (n := 63) (k := 11) (x := "_law_script") (CX := fun _ => L2.CX0) rfl (by decide) (by kernel_rfl) ⟨rfl, by decide, by decide⟩ ?F (fun _ _ _ _ _ z => z)
    intro w mg fa h Y G hmg0
    obtain ⟨K, KX, c, tabs⟩ := Y
    have T : K05.Tx K mg := ⟨h, KX, G, c⟩
    have hmg : mg ("law" : PySem.Str) = some (.ref fa) := by
      have e : (HandSHeadRun.topDef (OpenLaw.row PySem.Challenge.rw_signtown_k05_avenues_and_roads_made).prog 48).name = ("law" : PySem.Str) := by kernel_rfl
      rw [← e]
      exact hmg0
    have e := hmg.symm.trans (K05.g_law T)
    cases e
    obtain ⟨fd0, F0⟩ := K05.f_law T
    have b := L2.FunD.bindsA (ps := ["_law_script"]) F0 fun _ _ _ _ _ _ us hl => match us, hl with | [_], _ => rfl
    have one : ∀ p ∈ [He.cT K (("_law_odd_right" : PySem.Str), none)], p = He.cT K (("_law_odd_right" : PySem.Str), none) := fun p hp => List.mem_singleton.mp hp
    obtain ⟨t1, t2, t3⟩ := tabs (("_law_odd_right" : PySem.Str), none) (List.mem_singleton.mpr rfl)
    refine ⟨K, KX, fd0, [He.cT K (("_law_odd_right" : PySem.Str), none)], K05.spLaw K, fun p hp => by rw [one p hp]; exact t3, fun p hp => by rw [one p hp]; exact t2, fun p hp => by rw [one p hp]; exact codeHd_of_K KX t1, fun s v => b s [v] rfl,
      fun H a ns hl _ ht hS => ⟨a, ns, rfl, hS, hl, LamX.TabS.nil (ht _ (List.mem_singleton.mpr rfl)), fun _ => rfl⟩, fun base _ _ tb => ?_⟩
    obtain ⟨fd, F, Gf⟩ := K05.p_law (P := (PySem.Challenge.rw_signtown_k05_avenues_and_roads_made).prog) (w := w) (base := base) T (tb _ (List.mem_singleton.mpr rfl))
    have e : fd = fd0 := Hx.fd_one F F0
    rw [← e]
    exact Gf
