import PyProof.Rows.All
import Wide.All
import OpenK.AllK
import Wide.FinOn
import HandS.ForMost
import HandS.Defaults
import HandS.HeadHook3
import HandS.HeadWalk
import HandS.HeadEnd
import HandS.Head2
import HandS.IsInst
import HandS.Property
import HandS.FStr
import HandS.ClsMeth
import HandS.HeadHook4
import HandS.ExcInit
import HandS.ExcIs
import HandS.ExcField
import HandS.Lambda
import PySem.Challenge.RW_signtown_k15_wards_written_and_read
import HandS.Exc
import PyProof.ReprRoads
import HandS.Wide
import HandS.OwnEq
import HandS.Flow
import HandS.Walk
import HandS.Style
import HandS.Zip
import HandS.Conv
import HandS.RaiseMore
import PyProof.NeKinds
import HandS.MakeKw
import HandS.MakeKwOnly
import PyProof.EqKinds
import PyProof.ReprLen
import HandS.Strs
import HandS.TupSets
import HandS.Star
import HandS.TupAny
import HandS.Deep
import HandS.ExcOwn
import HandS.Call
import KE.KOpsOwn
import HandS.StrMore
import HandS.TryOnly
import HandS.IterVal
import HandS.NoneIn
import KE.KCallOwn
import HandS.Comp
import HandS.DictComp
import PyProof.Rows.StrIntSpec
import PyProof.StrLawsTight
import PyProof.StrLawsChain
import PyProof.Rows.StrSplitJoin
import PyProof.Rows.StrSplitAre
import PyProof.Rows.StrItems
set_option Elab.async false
set_option linter.all false
set_option maxRecDepth 100000
set_option maxHeartbeats 4000000
namespace Hx
open PySem PySem.Spec PyProof.Rows L2
/-- where the getter of a property of a class stands -/
def getA (K : PySem.W.Frag) (C : Addr) (f : Str) : Addr :=
  match PySem.W.recIn K (He.ma K C f) "property" with
  | some (.ref g :: _) => g
  | _ => 0
def propB (K : PySem.W.Frag) (x f : Str) : Bool :=
  let p := He.ma K (He.ga K x) f
  He.eqO (PySem.W.findIn K (.ref (He.ga K x)) f) (some (some (.ref p))) &&
  (He.eqO (PySem.W.specialIn K (.ref p) "__get__") (some (some (.builtin "property.__get__"))) &&
  (decide (PySem.W.takesIn K (.ref p) = some true) &&
  (match PySem.W.recIn K p "property" with
    | some (.ref _ :: _) => true
    | _ => false)))
theorem propB_ok {K : PySem.W.Frag} {x f : Str} (h : propB K x f = true) : PropOf K (He.ga K x) f (He.ma K (He.ga K x) f) (getA K (He.ga K x) f) := by
  obtain ⟨h1, h2⟩ := He.ba h
  obtain ⟨h3, h4⟩ := He.ba h2
  obtain ⟨h5, h6⟩ := He.ba h4
  refine ⟨He.eqO_ok h1, He.eqO_ok h3, of_decide_eq_true h5, ?_⟩
  unfold getA
  split at h6
  · rename_i g r e
    rw [e]
    exact ⟨r, rfl⟩
  · cases h6
/-- what isinstance and != ask of a class of the text -/
def clsB (K : PySem.W.Frag) (x : Str) : Bool :=
  He.eqO (PySem.W.findIn K (.ref (He.ga K x)) "__class__") (some (some (.builtin "object.__class__"))) &&
  (He.eqO (PySem.W.specialIn K (.builtin "object.__class__") "__get__") (some (some (.builtin "getset_descriptor.__get__"))) &&
  (decide (PySem.W.takesIn K (.builtin "object.__class__") = some true) &&
  (decide (PySem.W.mroIn K (He.ga K x) (.type "object") = some true) &&
  He.eqO (PySem.W.findIn K (.ref (He.ga K x)) "__ne__") (some (some (.builtin "object.__ne__"))))))
structure ClsI (K : PySem.W.Frag) (C : Addr) : Prop where
  ca : PySem.W.findIn K (.ref C) "__class__" = some (some (.builtin "object.__class__"))
  cn : PySem.W.specialIn K (.builtin "object.__class__") "__get__" = some (some (.builtin "getset_descriptor.__get__"))
  ct : PySem.W.takesIn K (.builtin "object.__class__") = some true
  cm : PySem.W.mroIn K C (.type "object") = some true
  ne : PySem.W.findIn K (.ref C) "__ne__" = some (some (.builtin "object.__ne__"))
theorem clsB_ok {K : PySem.W.Frag} {x : Str} (h : clsB K x = true) : ClsI K (He.ga K x) := by
  obtain ⟨h1, h⟩ := He.ba h
  obtain ⟨h2, h⟩ := He.ba h
  obtain ⟨h3, h⟩ := He.ba h
  obtain ⟨h4, h5⟩ := He.ba h
  exact ⟨He.eqO_ok h1, He.eqO_ok h2, of_decide_eq_true h3, of_decide_eq_true h4, He.eqO_ok h5⟩
/-- a def of the text: where it stands, what it is -/
structure Dx where
  adr : PySem.W.Frag → Addr
  nm : Str
  ql : Str
  st : Stmt
  dfl : List He.Dv := []
  kwd : List (Str × He.Dv) := []
abbrev Vx : Type := Option (Str × Str × Arguments × FuncBody × Scope × Addr × List (Str × Addr) × Addr)
def seen (K : PySem.W.Frag) (a : Addr) : Vx :=
  match K.lookup a with
  | some ⟨_, _, .func d, _⟩ => some (d.name, d.qualname, d.params, d.body, d.scope, d.globals, d.closure, d.builtins)
  | _ => none
def Dx.due (d : Dx) : Vx := some (d.nm, d.ql, defArgs d.st, .stmts (defBody d.st), defScope d.st, mainGlobals, [], builtinsNs)
def Dx.ok (K : PySem.W.Frag) (d : Dx) : Bool :=
  PySem.W.keepIn K (.ref (d.adr K)) &&
  (match K.lookup (d.adr K) with
    | some ⟨_, _, .func y, _⟩ => PySem.W.codeIn K y.code d.ql && (He.dflB K y.defaults (d.dfl.map (He.Dv.v K)) && He.kwdB K y.kwdefaults (d.kwd.map fun q => (q.1, q.2.v K)))
    | _ => false)
/-- a def as it stands behind the top -/
abbrev Fd (K : PySem.W.Frag) (d : Dx) (fd : FuncData) : Prop := FunD K d.nm d.ql (defArgs d.st) (defBody d.st) (defScope d.st) (d.dfl.map (He.Dv.v K)) (d.kwd.map fun q => (q.1, q.2.v K)) (d.adr K) fd
theorem Dx.fun_ {K : PySem.W.Frag} {d : Dx} (e : seen K (d.adr K) = d.due) (c : d.ok K = true) : ∃ fd, Fd K d fd := by
  obtain ⟨kp, c2⟩ := He.ba c
  unfold seen at e
  cases q : K.lookup (d.adr K) with
  | none => rw [q] at c2; cases c2
  | some o =>
    obtain ⟨oc, od, dt, osl⟩ := o
    rw [q] at c2 e
    cases dt with
    | func fd =>
      obtain ⟨n1, n2, n3, n4, n5, n6, n7, n8, n9, n10, n11, n12, n13, n14, n15⟩ := fd
      have z : (some (n1, n2, n3, n4, n5, n6, n7, n15) : Vx) = d.due := e
      unfold Dx.due at z
      simp only [Option.some.injEq, Prod.mk.injEq] at z
      obtain ⟨z1, z2, z3, z4, z5, z6, z7, z8⟩ := z
      subst z1 z2 z3 z4 z5 z6 z7 z8
      obtain ⟨k1, k2⟩ := He.ba (show (PySem.W.codeIn K n13 d.ql && (He.dflB K n8 (d.dfl.map (He.Dv.v K)) && He.kwdB K n9 (d.kwd.map fun q => (q.1, q.2.v K)))) = true from c2)
      obtain ⟨k3, k4⟩ := He.ba k2
      exact ⟨_, ⟨oc, od, n8, n9, n10, n11, n12, n13, n14, osl, rfl, q, k1, He.dflB_ok k3, He.kwdB_ok k4⟩, kp⟩
    | _ => cases c2
/-- the getter of a classmethod of a class -/
def getC (K : PySem.W.Frag) (C : Addr) (f : Str) : Addr :=
  match PySem.W.recIn K (He.ma K C f) "classmethod" with
  | some (.ref g :: _) => g
  | _ => 0
/-- a class's attributes are read in the usual way -/
def creadB (K : PySem.W.Frag) (x : Str) : Bool :=
  PySem.W.readsIn K (He.ga K x) (.type "type") && He.eqO (PySem.W.specialIn K (.ref (He.ga K x)) "__getattribute__") (some (some (.builtin "type.__getattribute__")))
def cmetB (K : PySem.W.Frag) (x f : Str) : Bool :=
  let p := He.ma K (He.ga K x) f
  (match PySem.W.findCls K (.ref (He.ga K x)) (.type "type") f with
    | some (.get (.builtin i) (.ref q) .none (.ref c)) => decide (i = "classmethod.__get__") && (decide (q = p) && decide (c = He.ga K x))
    | _ => false) &&
  ((match PySem.W.recIn K p "classmethod" with
    | some (.ref _ :: _) => true
    | _ => false) && PySem.W.fnIn K (getC K (He.ga K x) f))
theorem cread_ok {K : PySem.W.Frag} {x : Str} (h : creadB K x = true) : ClX.CRead K (He.ga K x) (.type "type") := ⟨(He.ba h).1, He.eqO_ok (He.ba h).2⟩
theorem cmet_ok {K : PySem.W.Frag} {x f : Str} (h : cmetB K x f = true) : ClX.CMet K (He.ga K x) (.type "type") f (He.ma K (He.ga K x) f) (getC K (He.ga K x) f) := by
  obtain ⟨h1, h2⟩ := He.ba h
  obtain ⟨h3, h4⟩ := He.ba h2
  refine ⟨?_, ?_, h4⟩
  · split at h1
    · rename_i i q c e
      obtain ⟨a1, a2⟩ := He.ba h1
      obtain ⟨a3, a4⟩ := He.ba a2
      rw [e, of_decide_eq_true a1, of_decide_eq_true a3, of_decide_eq_true a4]
    · cases h1
  · unfold getC
    split at h3
    · rename_i g r e
      rw [e]
      exact ⟨r, rfl⟩
    · cases h3
/-- a class's constant is a tuple of these -/
def ctupB (K : PySem.W.Frag) (x f : Str) (vs : List He.Dv) : Bool :=
  (match PySem.W.findCls K (.ref (He.ga K x)) (.type "type") f with
    | some (.val (.ref q)) => decide (q = He.ma K (He.ga K x) f)
    | _ => false) &&
  (match K.lookup (He.ma K (He.ga K x) f) with
    | some ⟨.type c, _, .seq its _, _⟩ => decide (c = "tuple") && (decide (its.size ≤ sizeLine) && He.relAll (vs.map (He.Dv.v K)) its.toList)
    | _ => false)
theorem ctup_ok {K : PySem.W.Frag} {x f : Str} {vs : List He.Dv} (h : ctupB K x f vs = true) :
    ClX.CVal K (He.ga K x) (.type "type") f (.ref (He.ma K (He.ga K x) f)) (.ref (He.ma K (He.ga K x) f)) ∧ ∀ H, SqT K H (He.ma K (He.ga K x) f) (vs.map (He.Dv.v K)) := by
  obtain ⟨h1, h2⟩ := He.ba h
  refine ⟨⟨?_, rfl⟩, fun H => ?_⟩
  · split at h1
    · rename_i q e
      rw [e, of_decide_eq_true h1]
    · cases h1
  · split at h2
    · rename_i c dd its n sl e
      obtain ⟨a1, a2⟩ := He.ba h2
      obtain ⟨a3, a4⟩ := He.ba a2
      exact .inr ⟨_, its, n, e, congrArg Value.type (of_decide_eq_true a1), rfl, of_decide_eq_true a3, He.relAll_ok a4⟩
    · cases h2
/-- what is looked at behind the top -/
abbrev Look : Type := Bool × List Vx
def looks (fa : List (PySem.W.Frag → Bool)) (fn : List Dx) (K : PySem.W.Frag) : Look :=
  ((fa.all fun f => f K) && fn.all fun d => d.ok K, fn.map fun d => seen K (d.adr K))
def good (fn : List Dx) : Look := (true, fn.map Dx.due)
/-- the addresses among these that are not yet among the seen ones -/
def newO (bs : List Addr) (acc : List Addr × Nat) : List Addr × Nat :=
  bs.foldl (fun r b => bif Nat.testBit r.2 b then r else (b :: r.1, Nat.lor r.2 (Nat.shiftLeft 1 b))) acc
def lvlX (g : Addr → Option Obj) (fr : List Addr) (seen : Nat) : List Addr × Nat :=
  fr.foldl (fun r a => match g a with
    | some o => newO (He.refsD o) r
    | none => r) ([], seen)
def asX (g : Addr → Option Obj) : Nat → List Addr → List Addr → Nat → List Addr
  | 0, all, _, _ => all
  | n + 1, all, fr, seen => match lvlX g fr seen with
    | (new, seen2) => asX g n (all ++ new) new seen2
def lookG (n : Nat) (fa : List (PySem.W.Frag → Bool)) (fn : List Dx) (g : Addr → Option Obj) : Look := looks fa fn (He.frG g (cStatics :: asX g n [mainGlobals] [mainGlobals] (Nat.shiftLeft 1 mainGlobals)))
def hook (n : Nat) (fa : List (PySem.W.Frag → Bool)) (fn : List Dx) : PySem.W.Hook where
  α := Look
  obs := fun s => lookG n fa fn s.heap.get?
  val := fun _ => good fn
  says := fun _ h => ∃ K : PySem.W.Frag, K.In h ∧ looks fa fn K = good fn
  of := fun _ _ e => ⟨_, He.frG_in, e⟩
  keeps := fun _ _ _ ⟨K, kin, c⟩ k => ⟨K, PySem.W.Frag.In.keeps kin k, c⟩
theorem fact {fa : List (PySem.W.Frag → Bool)} {fn : List Dx} {K : PySem.W.Frag} (c : looks fa fn K = good fn) (i : Nat) {f : PySem.W.Frag → Bool} (h : fa[i]? = some f := by rfl) : f K = true := by
  have c1 := (He.ba (show ((fa.all fun f => f K) && fn.all fun d => d.ok K) = true from congrArg Prod.fst c)).1
  exact List.all_eq_true.mp c1 f (List.mem_of_getElem? h)
theorem defn {fa : List (PySem.W.Frag → Bool)} {fn : List Dx} {K : PySem.W.Frag} (c : looks fa fn K = good fn) (i : Nat) {d : Dx} (h : fn[i]? = some d := by rfl) : ∃ fd, Fd K d fd := by
  have c2 := (He.ba (show ((fa.all fun f => f K) && fn.all fun d => d.ok K) = true from congrArg Prod.fst c)).2
  have e : fn.map (fun d => seen K (d.adr K)) = fn.map Dx.due := congrArg Prod.snd c
  have e2 : (fn.map fun d => seen K (d.adr K))[i]? = (fn.map Dx.due)[i]? := by rw [e]
  rw [List.getElem?_map, List.getElem?_map, h] at e2
  exact Dx.fun_ (Option.some.inj e2) (List.all_eq_true.mp c2 d (List.mem_of_getElem? h))
end Hx
namespace Hx
open PySem PySem.Spec PyProof.Rows L2
/-- an own error class over ValueError: its object is of the usual form -/
def excB (K : PySem.W.Frag) (C : Addr) : Bool := match K.lookup C with
  | some ⟨.type "type", _, .cls cd, sl⟩ => (match cd.mro, sl.toList with
    | .ref c :: bm, [_, _, _, _, some (.builtin n), _] => decide (c = C) && (decide (n = "ValueError.__new__") && ((!cd.hasDel) && (cd.hasDict && PySem.HandSPX.refsVE bm)))
    | _, _ => false)
  | _ => false
theorem excB_ok {K : PySem.W.Frag} {C : Addr} (h : excB K C = true) :
    ∃ nm q N bs bm sn sub ab col dd k0 k1 k2 k3 k5, K.lookup C = some (excClassObj nm q C N bs bm true sn sub ab col dd k0 k1 k2 k3 k5 "ValueError.__new__") ∧ PySem.HandSPX.refsVE bm = true := by
  unfold excB at h
  split at h
  · rename_i dd cd sl look
    split at h
    · rename_i c bm k0 k1 k2 k3 n k5 em es
      obtain ⟨e1, h⟩ := He.ba h
      obtain ⟨e2, h⟩ := He.ba h
      obtain ⟨e3, h⟩ := He.ba h
      obtain ⟨e4, e5⟩ := He.ba h
      obtain ⟨nm, bs, mro, ns, qn, hd, sn, sub, ab, col, dl⟩ := cd
      obtain ⟨l⟩ := sl
      cases (show c = C from of_decide_eq_true e1)
      cases (show n = _ from of_decide_eq_true e2)
      cases (show mro = _ from em)
      cases (show l = _ from es)
      cases (show hd = true from e4)
      cases dl with
      | true => cases e3
      | false => exact ⟨nm, qn, ns, bs, bm, sn, sub, ab, col, dd, k0, k1, k2, k3, k5, look, e5⟩
    · cases h
  · cases h
/-- all that is asked of an own error class: made, its fields read, isinstance -/
structure Er (K : PySem.W.Frag) (C : Addr) : Prop where
  o : OexC K C
  c : ExcC K C
  f : XfC K C
def erB (K : PySem.W.Frag) (C : Addr) : Bool :=
  excB K C && (He.eqO (PySem.W.findIn K (.ref C) "__setattr__") (some (some (.builtin "object.__setattr__"))) && (decide (PySem.W.subIn K (.ref C) (.type "BaseException") = some true) && (decide (PySem.W.typeIn K (.ref C) = some (.type "type")) && (PySem.W.keepIn K (.ref C) &&
  (xfB K C && (He.eqO (PySem.W.findIn K (.ref C) "__class__") (some (some (.builtin "object.__class__"))) && (He.eqO (PySem.W.specialIn K (.builtin "object.__class__") "__get__") (some (some (.builtin "getset_descriptor.__get__"))) &&
  (decide (PySem.W.takesIn K (.builtin "object.__class__") = some true) && decide (PySem.W.mroIn K C (.type "object") = some true)))))))))
theorem erB_ok {K : PySem.W.Frag} {C : Addr} (h : erB K C = true) : Er K C := by
  obtain ⟨h1, h⟩ := He.ba h
  obtain ⟨h2, h⟩ := He.ba h
  obtain ⟨h3, h⟩ := He.ba h
  obtain ⟨h4, h⟩ := He.ba h
  obtain ⟨h5, h⟩ := He.ba h
  obtain ⟨h6, h⟩ := He.ba h
  obtain ⟨h7, h⟩ := He.ba h
  obtain ⟨h8, h⟩ := He.ba h
  obtain ⟨h9, h10⟩ := He.ba h
  have x := xfB_ok h6
  exact ⟨⟨excB_ok h1, He.eqO_ok h2, of_decide_eq_true h3, of_decide_eq_true h4, h5⟩,
    ⟨x.ga, x.gg, x.exC, x.hdC, He.eqO_ok h7, He.eqO_ok h8, of_decide_eq_true h9, of_decide_eq_true h10⟩, x⟩
/-- its __init__ is a function -/
def iniB (K : PySem.W.Frag) (C : Addr) : Bool :=
  He.eqO (PySem.W.findIn K (.ref C) "__init__") (some (some (.ref (He.ma K C "__init__")))) && decide (PySem.W.typeIn K (.ref (He.ma K C "__init__")) = some (.type "function"))
theorem iniB_ok {K : PySem.W.Frag} {C : Addr} (h : iniB K C = true) : PySem.W.findIn K (.ref C) "__init__" = some (some (.ref (He.ma K C "__init__"))) ∧ PySem.W.typeIn K (.ref (He.ma K C "__init__")) = some (.type "function") :=
  ⟨He.eqO_ok (He.ba h).1, of_decide_eq_true (He.ba h).2⟩
/-! the head's hook with the tables of the defs' code objects -/
abbrev LookT : Type := Look × Bool
def frX (n : Nat) (g : Addr → Option Obj) : PySem.W.Frag := He.frT g (cStatics :: sysModules :: asX g n [mainGlobals] [mainGlobals] (Nat.shiftLeft 1 mainGlobals))
def lookT (n : Nat) (fa : List (PySem.W.Frag → Bool)) (fn : List Dx) (tf : List He.Defn) (g : Addr → Option Obj) : LookT :=
  (looks fa fn (frX n g), He.tabsB g tf (frX n g))
/-- each of these defs' code object, and its table: empty, out of K -/
def TabsAt (K : PySem.W.Frag) (tf : List He.Defn) (h : Heap) : Prop := ∀ p ∈ tf, PySem.W.codeHdIn K (He.cT K p).1 (He.cT K p).2 = true ∧ K.lookup (He.cT K p).2 = none ∧ h.get? (He.cT K p).2 = some { cls := .none, data := .fields #[] }
theorem tabs_of {n : Nat} {tf : List He.Defn} {h : Heap} (e : He.tabsB h.get? tf (frX n h.get?) = true) : TabsAt (frX n h.get?) tf h := fun p hp => by
  obtain ⟨h3, h4⟩ := He.ba (List.all_eq_true.mp e p hp)
  cases q : h.get? (He.cT (frX n h.get?) p).2 with
  | none => rw [q] at h4; cases h4
  | some o =>
    rw [q] at h4
    have h4 : He.emptyTab o = true := h4
    exact ⟨h3, He.frT_none q h4, congrArg some (He.emptyTab_eq h4)⟩
def hookT (n : Nat) (fa : List (PySem.W.Frag → Bool)) (fn : List Dx) (tf : List He.Defn) : PySem.W.Hook where
  α := LookT
  obs := fun s => lookT n fa fn tf s.heap.get?
  val := fun _ => (good fn, true)
  says := fun _ h => ∃ K : PySem.W.Frag, K.In h ∧ looks fa fn K = good fn ∧ TabsAt K tf h
  of := fun _ _ e => ⟨_, He.frT_in, congrArg Prod.fst e, tabs_of (congrArg Prod.snd e)⟩
  keeps := fun _ _ _ ⟨K, kin, c, t⟩ k => ⟨K, PySem.W.Frag.In.keeps kin k, c, fun p hp => ⟨(t p hp).1, (t p hp).2.1, k _ _ (t p hp).2.2⟩⟩
end Hx
namespace Hx
open PySem PySem.Spec PyProof.Rows L2
def kinds : List String := ["NoneType", "bool", "int", "str", "tuple", "list", "dict"]
/-- what | & - ask of a class -/
def binB (K : PySem.W.Frag) (C : Addr) (nm rn : Str) : Bool :=
  PySem.W.selfFirst K C && ((match PySem.W.findIn K (.ref C) rn with
    | some none => true
    | some (some (.ref _)) => true
    | _ => false) && kinds.all fun T => (PySem.W.findIn K (.type T) nm).isSome && ((PySem.W.findIn K (.type T) rn).isSome && decide (PySem.W.subIn K (.type T) (.ref C) = some false)))
theorem binB_ok {K : PySem.W.Frag} {C : Addr} {nm rn : Str} (h : binB K C nm rn = true) : (PySem.W.selfFirst K C = true ∧ ∃ rc, PySem.W.findIn K (.ref C) rn = some rc ∧ (rc = none ∨ ∃ g : Addr, rc = some (.ref g))) ∧
    ∀ T ∈ kinds, ∃ fo ro, PySem.W.findIn K (.type T) nm = some fo ∧ PySem.W.findIn K (.type T) rn = some ro ∧ PySem.W.subIn K (.type T) (.ref C) = some false := by
  obtain ⟨h1, h⟩ := He.ba h
  obtain ⟨h2, h3⟩ := He.ba h
  refine ⟨⟨h1, ?_⟩, fun T hT => ?_⟩
  · split at h2
    · rename_i e
      exact ⟨none, e, .inl rfl⟩
    · rename_i g e
      exact ⟨some (.ref g), e, .inr ⟨g, rfl⟩⟩
    · cases h2
  · obtain ⟨q1, q⟩ := He.ba (List.all_eq_true.mp h3 T hT)
    obtain ⟨q2, q3⟩ := He.ba q
    obtain ⟨fo, e1⟩ := Option.isSome_iff_exists.mp q1
    obtain ⟨ro, e2⟩ := Option.isSome_iff_exists.mp q2
    exact ⟨fo, ro, e1, e2, of_decide_eq_true q3⟩
/-- no class of it has a way in place -/
def inplB (K : PySem.W.Frag) (C : Addr) (i : Str) : Bool := (PySem.W.clsIn K C).any fun cd => cd.mro.all fun c => PySem.W.findIn K c i == some none
/-- on the right of its own ==, <, .. -/
def rightB (K : PySem.W.Frag) (cs : List Str) (C : Addr) : Bool := (cs.all fun c => PySem.W.notFirst K C (.ref (He.ga K c))) && kinds.all fun T => PySem.W.notFirst K C (.type T)
theorem rightB_ok {K : PySem.W.Frag} {cs : List Str} {C : Addr} (h : rightB K cs C = true) : (∀ c ∈ cs, PySem.W.notFirst K C (.ref (He.ga K c)) = true) ∧ ∀ T ∈ kinds, PySem.W.notFirst K C (.type T) = true :=
  ⟨fun c hc => List.all_eq_true.mp (He.ba h).1 c hc, fun T hT => List.all_eq_true.mp (He.ba h).2 T hT⟩
end Hx
namespace K15
open PySem PySem.Spec PyProof.Rows L2 Hx
def top (i : Nat) : Stmt := PySem.Challenge.pw_signtown_k15_wards_written_and_read.main.body.getD i (.Pass ⟨0, 0, 0, 0⟩)
abbrev s__law_pen : Stmt := top 25
abbrev s__law_draw : Stmt := top 26
abbrev s__law_corners : Stmt := top 28
abbrev s__law_pick : Stmt := top 27
abbrev s_ascending : Stmt := top 17
abbrev s_check_ward : Stmt := top 19
abbrev s_are_among : Stmt := top 21
abbrev s_is_name : Stmt := top 16
abbrev s__law_ward : Stmt := top 29
abbrev s__law_bent : Stmt := top 32
abbrev s__law_heard : Stmt := top 33
abbrev s_is_ward_text : Stmt := top 22
abbrev s__law_is_name : Stmt := top 30
abbrev s__law_due : Stmt := top 31
abbrev s__law_right : Stmt := top 34
abbrev s_law : Stmt := top 35
abbrev s_Ward_iter : Stmt := inClass (top 23) 4
abbrev s_Ward_eq : Stmt := inClass (top 23) 13
abbrev s_Ward_str : Stmt := inClass (top 23) 14
abbrev s_Ward_len : Stmt := inClass (top 23) 2
abbrev s_Ward_contains : Stmt := inClass (top 23) 3
abbrev s_Ward_le : Stmt := inClass (top 23) 8
abbrev s_Ward_init : Stmt := inClass (top 23) 0
abbrev s_Ward_or : Stmt := inClass (top 23) 5
abbrev s_Ward_corners : Stmt := inClass (top 23) 1
abbrev s_Ward_read : Stmt := inClass (top 23) 15
abbrev s_Ward_sub : Stmt := inClass (top 23) 7
abbrev s_BadTown_init : Stmt := inClass (top 5) 0
abbrev s_BadWard_init : Stmt := inClass (top 6) 0
abbrev s_BadText_init : Stmt := inClass (top 7) 0
abbrev s_TooMany_init : Stmt := inClass (top 8) 0
def dxs : List Hx.Dx := [
  ⟨fun K => He.ga K "_law_pen", "_law_pen", "_law_pen", s__law_pen, [], []⟩,
  ⟨fun K => He.ga K "_law_draw", "_law_draw", "_law_draw", s__law_draw, [], []⟩,
  ⟨fun K => He.ga K "_law_corners", "_law_corners", "_law_corners", s__law_corners, [], []⟩,
  ⟨fun K => He.ga K "_law_pick", "_law_pick", "_law_pick", s__law_pick, [], []⟩,
  ⟨fun K => He.ga K "ascending", "ascending", "ascending", s_ascending, [], []⟩,
  ⟨fun K => He.ga K "check_ward", "check_ward", "check_ward", s_check_ward, [], []⟩,
  ⟨fun K => He.ga K "are_among", "are_among", "are_among", s_are_among, [], []⟩,
  ⟨fun K => He.ga K "is_name", "is_name", "is_name", s_is_name, [], []⟩,
  ⟨fun K => He.ga K "_law_ward", "_law_ward", "_law_ward", s__law_ward, [], []⟩,
  ⟨fun K => He.ga K "_law_bent", "_law_bent", "_law_bent", s__law_bent, [], []⟩,
  ⟨fun K => He.ga K "_law_heard", "_law_heard", "_law_heard", s__law_heard, [], []⟩,
  ⟨fun K => He.ga K "is_ward_text", "is_ward_text", "is_ward_text", s_is_ward_text, [], []⟩,
  ⟨fun K => He.ga K "_law_is_name", "_law_is_name", "_law_is_name", s__law_is_name, [], []⟩,
  ⟨fun K => He.ga K "_law_due", "_law_due", "_law_due", s__law_due, [], []⟩,
  ⟨fun K => He.ga K "_law_right", "_law_right", "_law_right", s__law_right, [], []⟩,
  ⟨fun K => He.ga K "law", "law", "law", s_law, [], []⟩,
  ⟨fun K => He.ma K (He.ga K "Ward") "__iter__", "__iter__", "Ward.__iter__", s_Ward_iter, [], []⟩,
  ⟨fun K => He.ma K (He.ga K "Ward") "__eq__", "__eq__", "Ward.__eq__", s_Ward_eq, [], []⟩,
  ⟨fun K => He.ma K (He.ga K "Ward") "__str__", "__str__", "Ward.__str__", s_Ward_str, [], []⟩,
  ⟨fun K => He.ma K (He.ga K "Ward") "__len__", "__len__", "Ward.__len__", s_Ward_len, [], []⟩,
  ⟨fun K => He.ma K (He.ga K "Ward") "__contains__", "__contains__", "Ward.__contains__", s_Ward_contains, [], []⟩,
  ⟨fun K => He.ma K (He.ga K "Ward") "__le__", "__le__", "Ward.__le__", s_Ward_le, [], []⟩,
  ⟨fun K => He.ma K (He.ga K "Ward") "__init__", "__init__", "Ward.__init__", s_Ward_init, [], []⟩,
  ⟨fun K => He.ma K (He.ga K "Ward") "__or__", "__or__", "Ward.__or__", s_Ward_or, [], []⟩,
  ⟨fun K => getA K (He.ga K "Ward") "corners", "corners", "Ward.corners", s_Ward_corners, [], []⟩,
  ⟨fun K => getC K (He.ga K "Ward") "read", "read", "Ward.read", s_Ward_read, [], []⟩,
  ⟨fun K => He.ma K (He.ga K "Ward") "__sub__", "__sub__", "Ward.__sub__", s_Ward_sub, [], []⟩,
  ⟨fun K => He.ma K (He.ga K "BadTown") "__init__", "__init__", "BadTown.__init__", s_BadTown_init, [], []⟩,
  ⟨fun K => He.ma K (He.ga K "BadWard") "__init__", "__init__", "BadWard.__init__", s_BadWard_init, [], []⟩,
  ⟨fun K => He.ma K (He.ga K "BadText") "__init__", "__init__", "BadText.__init__", s_BadText_init, [], []⟩,
  ⟨fun K => He.ma K (He.ga K "TooMany") "__init__", "__init__", "TooMany.__init__", s_TooMany_init, [], []⟩]
def fas : List (PySem.W.Frag → Bool) := [
  (He.Fa.glo "_law_pen").ok,
  (He.Fa.glo "_law_draw").ok,
  (He.Fa.glo "_law_corners").ok,
  (He.Fa.glo "_law_pick").ok,
  (He.Fa.glo "ascending").ok,
  (He.Fa.glo "check_ward").ok,
  (He.Fa.glo "are_among").ok,
  (He.Fa.glo "is_name").ok,
  (He.Fa.glo "_law_ward").ok,
  (He.Fa.glo "_law_bent").ok,
  (He.Fa.glo "_law_heard").ok,
  (He.Fa.glo "is_ward_text").ok,
  (He.Fa.glo "_law_is_name").ok,
  (He.Fa.glo "_law_due").ok,
  (He.Fa.glo "_law_right").ok,
  (He.Fa.glo "law").ok,
  (He.Fa.glo "AnyTown").ok,
  (He.Fa.glo "Ward").ok,
  (He.Fa.glo "TownError").ok,
  (He.Fa.glo "BadInput").ok,
  (He.Fa.glo "Refused").ok,
  (He.Fa.glo "BadTown").ok,
  (He.Fa.glo "BadWard").ok,
  (He.Fa.glo "BadText").ok,
  (He.Fa.glo "TooMany").ok,
  (He.Fa.free "sorted").ok,
  (He.Fa.free "set").ok,
  (He.Fa.free "isinstance").ok,
  (He.Fa.free "str").ok,
  (He.Fa.free "int").ok,
  (He.Fa.free "bool").ok,
  (He.Fa.free "len").ok,
  (He.Fa.free "all").ok,
  (He.Fa.free "list").ok,
  (He.Fa.free "tuple").ok,
  (He.Fa.free "range").ok,
  (He.Fa.free "repr").ok,
  (He.Fa.free "abs").ok,
  (He.Fa.free "iter").ok,
  (He.Fa.free "dict").ok,
  (He.Fa.int "MOST_CORNERS" (7)).ok,
  (He.Fa.int "NAME_LENGTH" (8)).ok,
  (He.Fa.str "LETTERS" "abcdefghijklmnopqrstuvwxyz").ok,
  (He.Fa.cls "Ward").ok,
  (He.Fa.noat "Ward" "_corners").ok,
  (He.Fa.meth "Ward" "__len__").ok,
  (He.Fa.meth "Ward" "__contains__").ok,
  (He.Fa.meth "Ward" "__iter__").ok,
  (He.Fa.meth "Ward" "__or__").ok,
  (He.Fa.meth "Ward" "__sub__").ok,
  (He.Fa.meth "Ward" "__le__").ok,
  (He.Fa.meth "Ward" "__eq__").ok,
  (He.Fa.meth "Ward" "__str__").ok,
  (He.Fa.mkr "Ward").ok,
  (fun K => Hx.propB K "Ward" "corners"),
  (fun K => Hx.clsB K "Ward"),
  (fun K => decide (PySem.W.kitOne K (.ref (He.ga K "Ward")) (.ref (He.ga K "AnyTown")) = some false)),
  (fun K => decide (PySem.W.kitOne K (.type "NoneType") (.ref (He.ga K "AnyTown")) = some false)),
  (fun K => decide (PySem.W.kitOne K (.type "bool") (.ref (He.ga K "AnyTown")) = some false)),
  (fun K => decide (PySem.W.kitOne K (.type "int") (.ref (He.ga K "AnyTown")) = some false)),
  (fun K => decide (PySem.W.kitOne K (.type "str") (.ref (He.ga K "AnyTown")) = some false)),
  (fun K => decide (PySem.W.kitOne K (.type "tuple") (.ref (He.ga K "AnyTown")) = some false)),
  (fun K => decide (PySem.W.kitOne K (.type "list") (.ref (He.ga K "AnyTown")) = some false)),
  (fun K => decide (PySem.W.kitOne K (.type "dict") (.ref (He.ga K "AnyTown")) = some false)),
  (fun K => decide (PySem.W.kitOne K (.ref (He.ga K "Ward")) (.ref (He.ga K "BadInput")) = some false)),
  (fun K => decide (PySem.W.kitOne K (.type "NoneType") (.ref (He.ga K "BadInput")) = some false)),
  (fun K => decide (PySem.W.kitOne K (.type "bool") (.ref (He.ga K "BadInput")) = some false)),
  (fun K => decide (PySem.W.kitOne K (.type "int") (.ref (He.ga K "BadInput")) = some false)),
  (fun K => decide (PySem.W.kitOne K (.type "str") (.ref (He.ga K "BadInput")) = some false)),
  (fun K => decide (PySem.W.kitOne K (.type "tuple") (.ref (He.ga K "BadInput")) = some false)),
  (fun K => decide (PySem.W.kitOne K (.type "list") (.ref (He.ga K "BadInput")) = some false)),
  (fun K => decide (PySem.W.kitOne K (.type "dict") (.ref (He.ga K "BadInput")) = some false)),
  (fun K => decide (PySem.W.kitOne K (.ref (He.ga K "TownError")) (.ref (He.ga K "BadInput")) = some false)),
  (fun K => decide (PySem.W.kitOne K (.ref (He.ga K "BadInput")) (.ref (He.ga K "BadInput")) = some true)),
  (fun K => decide (PySem.W.kitOne K (.ref (He.ga K "Refused")) (.ref (He.ga K "BadInput")) = some false)),
  (fun K => decide (PySem.W.kitOne K (.ref (He.ga K "BadTown")) (.ref (He.ga K "BadInput")) = some true)),
  (fun K => decide (PySem.W.kitOne K (.ref (He.ga K "BadWard")) (.ref (He.ga K "BadInput")) = some true)),
  (fun K => decide (PySem.W.kitOne K (.ref (He.ga K "BadText")) (.ref (He.ga K "BadInput")) = some true)),
  (fun K => decide (PySem.W.kitOne K (.ref (He.ga K "TooMany")) (.ref (He.ga K "BadInput")) = some false)),
  (fun K => decide (PySem.W.kitOne K (.ref (He.ga K "Ward")) (.ref (He.ga K "BadText")) = some false)),
  (fun K => decide (PySem.W.kitOne K (.type "NoneType") (.ref (He.ga K "BadText")) = some false)),
  (fun K => decide (PySem.W.kitOne K (.type "bool") (.ref (He.ga K "BadText")) = some false)),
  (fun K => decide (PySem.W.kitOne K (.type "int") (.ref (He.ga K "BadText")) = some false)),
  (fun K => decide (PySem.W.kitOne K (.type "str") (.ref (He.ga K "BadText")) = some false)),
  (fun K => decide (PySem.W.kitOne K (.type "tuple") (.ref (He.ga K "BadText")) = some false)),
  (fun K => decide (PySem.W.kitOne K (.type "list") (.ref (He.ga K "BadText")) = some false)),
  (fun K => decide (PySem.W.kitOne K (.type "dict") (.ref (He.ga K "BadText")) = some false)),
  (fun K => decide (PySem.W.kitOne K (.ref (He.ga K "TownError")) (.ref (He.ga K "BadText")) = some false)),
  (fun K => decide (PySem.W.kitOne K (.ref (He.ga K "BadInput")) (.ref (He.ga K "BadText")) = some false)),
  (fun K => decide (PySem.W.kitOne K (.ref (He.ga K "Refused")) (.ref (He.ga K "BadText")) = some false)),
  (fun K => decide (PySem.W.kitOne K (.ref (He.ga K "BadTown")) (.ref (He.ga K "BadText")) = some false)),
  (fun K => decide (PySem.W.kitOne K (.ref (He.ga K "BadWard")) (.ref (He.ga K "BadText")) = some false)),
  (fun K => decide (PySem.W.kitOne K (.ref (He.ga K "BadText")) (.ref (He.ga K "BadText")) = some true)),
  (fun K => decide (PySem.W.kitOne K (.ref (He.ga K "TooMany")) (.ref (He.ga K "BadText")) = some false)),
  (fun K => decide (PySem.W.kitOne K (.ref (He.ga K "Ward")) (.ref (He.ga K "Ward")) = some true)),
  (fun K => decide (PySem.W.kitOne K (.type "NoneType") (.ref (He.ga K "Ward")) = some false)),
  (fun K => decide (PySem.W.kitOne K (.type "bool") (.ref (He.ga K "Ward")) = some false)),
  (fun K => decide (PySem.W.kitOne K (.type "int") (.ref (He.ga K "Ward")) = some false)),
  (fun K => decide (PySem.W.kitOne K (.type "str") (.ref (He.ga K "Ward")) = some false)),
  (fun K => decide (PySem.W.kitOne K (.type "tuple") (.ref (He.ga K "Ward")) = some false)),
  (fun K => decide (PySem.W.kitOne K (.type "list") (.ref (He.ga K "Ward")) = some false)),
  (fun K => decide (PySem.W.kitOne K (.type "dict") (.ref (He.ga K "Ward")) = some false)),
  (fun K => decide (PySem.W.kitOne K (.ref (He.ga K "Ward")) (.type "str") = some false)),
  (fun K => Hx.creadB K "Ward"),
  (fun K => Hx.cmetB K "Ward" "read"),
  (fun K => Hx.erB K (He.ga K "TownError")),
  (fun K => Hx.erB K (He.ga K "BadInput")),
  (fun K => Hx.erB K (He.ga K "Refused")),
  (fun K => Hx.erB K (He.ga K "BadTown")),
  (fun K => Hx.erB K (He.ga K "BadWard")),
  (fun K => Hx.erB K (He.ga K "BadText")),
  (fun K => Hx.erB K (He.ga K "TooMany")),
  (He.Fa.noat "BadTown" "part").ok,
  (He.Fa.noat "BadWard" "part").ok,
  (He.Fa.noat "BadText" "line").ok,
  (He.Fa.noat "BadText" "word").ok,
  (He.Fa.noat "TooMany" "what").ok,
  (He.Fa.noat "TooMany" "most").ok,
  (fun K => decide (PySem.W.exmOne K (.ref (He.ga K "TownError")) (.ref (He.ga K "TownError")) = some true)),
  (fun K => decide (PySem.W.exmOne K (.ref (He.ga K "BadInput")) (.ref (He.ga K "TownError")) = some true)),
  (fun K => decide (PySem.W.exmOne K (.ref (He.ga K "Refused")) (.ref (He.ga K "TownError")) = some true)),
  (fun K => decide (PySem.W.exmOne K (.ref (He.ga K "BadTown")) (.ref (He.ga K "TownError")) = some true)),
  (fun K => decide (PySem.W.exmOne K (.ref (He.ga K "BadWard")) (.ref (He.ga K "TownError")) = some true)),
  (fun K => decide (PySem.W.exmOne K (.ref (He.ga K "BadText")) (.ref (He.ga K "TownError")) = some true)),
  (fun K => decide (PySem.W.exmOne K (.ref (He.ga K "TooMany")) (.ref (He.ga K "TownError")) = some true)),
  (fun K => Hx.iniB K (He.ga K "BadTown")),
  (fun K => Hx.iniB K (He.ga K "BadWard")),
  (fun K => Hx.iniB K (He.ga K "BadText")),
  (fun K => Hx.iniB K (He.ga K "TooMany")),
  (fun K => He.dictB K sysModules),
  (fun K => Hx.binB K (He.ga K "Ward") "__or__" "__ror__"),
  (fun K => Hx.binB K (He.ga K "Ward") "__sub__" "__rsub__"),
  (fun K => Hx.rightB K ["Ward"] (He.ga K "Ward")),
  (fun K => decide (PySem.W.subIn K (.ref (He.ga K "Ward")) (.type "str") = some false)),
  (fun K => decide ((He.cT K ("_law_right", none)).2 ≠ (He.cT K ("law", none)).2)),
  (fun K => decide ((He.cT K ("law", none)).2 ≠ (He.cT K ("_law_right", none)).2))]
abbrev R : PySem.W.OpenRow := PySem.W.OpenLaw.row PySem.Challenge.rw_signtown_k15_wards_written_and_read
def tfs : List He.Defn := [("_law_right", none), ("law", none)]
abbrev hk : PySem.W.Hook := hookT 7 fas dxs tfs
def ob (s : PySem.W.SharedT) : LookT := lookT 7 fas dxs tfs (HandSHeadRun.getT s)
theorem ob_eq (s : PySem.W.SharedT) : ob s = hk.obs s.abs := by
  have e : HandSHeadRun.getT s = s.abs.heap.get? := funext (HandSHeadRun.getT_eq s)
  unfold ob
  rw [e]
  rfl
def loose : List Str := (["_wall", "__name__", "TownError", "BadInput", "Refused", "BadTown", "BadWard", "BadText", "TooMany", "MOST_CORNERS", "AnyTown", "check_town", "LETTERS", "NAME_LENGTH", "is_name", "ascending", "check_ward", "check_ward_of", "are_among", "is_ward_text", "Ward", "_law_pen", "_law_draw", "_law_pick", "_law_corners", "_law_ward", "_law_is_name", "_law_due", "_law_bent", "_law_heard"] : List Str) ++ (["_law_right"] : List Str)
end K15
namespace K15
open PySem PySem.Spec PyProof.Rows L2 Hx
/-- what stands behind the top -/
def Tx (K : PySem.W.Frag) (mg : Str → Option Value) : Prop := ∃ h : Heap, K.In h ∧ h.Ns mainGlobals mg ∧ looks fas dxs K = good dxs
section
variable {K : PySem.W.Frag} {mg : Str → Option Value}
theorem g__law_pen (T : Tx K mg) : mg "_law_pen" = some (.ref (He.ga K "_law_pen")) := by obtain ⟨h, X, G, c⟩ := T; exact He.glo_ok X G (fact c 0)
theorem g__law_draw (T : Tx K mg) : mg "_law_draw" = some (.ref (He.ga K "_law_draw")) := by obtain ⟨h, X, G, c⟩ := T; exact He.glo_ok X G (fact c 1)
theorem g__law_corners (T : Tx K mg) : mg "_law_corners" = some (.ref (He.ga K "_law_corners")) := by obtain ⟨h, X, G, c⟩ := T; exact He.glo_ok X G (fact c 2)
theorem g__law_pick (T : Tx K mg) : mg "_law_pick" = some (.ref (He.ga K "_law_pick")) := by obtain ⟨h, X, G, c⟩ := T; exact He.glo_ok X G (fact c 3)
theorem g_ascending (T : Tx K mg) : mg "ascending" = some (.ref (He.ga K "ascending")) := by obtain ⟨h, X, G, c⟩ := T; exact He.glo_ok X G (fact c 4)
theorem g_check_ward (T : Tx K mg) : mg "check_ward" = some (.ref (He.ga K "check_ward")) := by obtain ⟨h, X, G, c⟩ := T; exact He.glo_ok X G (fact c 5)
theorem g_are_among (T : Tx K mg) : mg "are_among" = some (.ref (He.ga K "are_among")) := by obtain ⟨h, X, G, c⟩ := T; exact He.glo_ok X G (fact c 6)
theorem g_is_name (T : Tx K mg) : mg "is_name" = some (.ref (He.ga K "is_name")) := by obtain ⟨h, X, G, c⟩ := T; exact He.glo_ok X G (fact c 7)
theorem g__law_ward (T : Tx K mg) : mg "_law_ward" = some (.ref (He.ga K "_law_ward")) := by obtain ⟨h, X, G, c⟩ := T; exact He.glo_ok X G (fact c 8)
theorem g__law_bent (T : Tx K mg) : mg "_law_bent" = some (.ref (He.ga K "_law_bent")) := by obtain ⟨h, X, G, c⟩ := T; exact He.glo_ok X G (fact c 9)
theorem g__law_heard (T : Tx K mg) : mg "_law_heard" = some (.ref (He.ga K "_law_heard")) := by obtain ⟨h, X, G, c⟩ := T; exact He.glo_ok X G (fact c 10)
theorem g_is_ward_text (T : Tx K mg) : mg "is_ward_text" = some (.ref (He.ga K "is_ward_text")) := by obtain ⟨h, X, G, c⟩ := T; exact He.glo_ok X G (fact c 11)
theorem g__law_is_name (T : Tx K mg) : mg "_law_is_name" = some (.ref (He.ga K "_law_is_name")) := by obtain ⟨h, X, G, c⟩ := T; exact He.glo_ok X G (fact c 12)
theorem g__law_due (T : Tx K mg) : mg "_law_due" = some (.ref (He.ga K "_law_due")) := by obtain ⟨h, X, G, c⟩ := T; exact He.glo_ok X G (fact c 13)
theorem g__law_right (T : Tx K mg) : mg "_law_right" = some (.ref (He.ga K "_law_right")) := by obtain ⟨h, X, G, c⟩ := T; exact He.glo_ok X G (fact c 14)
theorem g_law (T : Tx K mg) : mg "law" = some (.ref (He.ga K "law")) := by obtain ⟨h, X, G, c⟩ := T; exact He.glo_ok X G (fact c 15)
theorem g_AnyTown (T : Tx K mg) : mg "AnyTown" = some (.ref (He.ga K "AnyTown")) := by obtain ⟨h, X, G, c⟩ := T; exact He.glo_ok X G (fact c 16)
theorem g_Ward (T : Tx K mg) : mg "Ward" = some (.ref (He.ga K "Ward")) := by obtain ⟨h, X, G, c⟩ := T; exact He.glo_ok X G (fact c 17)
theorem g_TownError (T : Tx K mg) : mg "TownError" = some (.ref (He.ga K "TownError")) := by obtain ⟨h, X, G, c⟩ := T; exact He.glo_ok X G (fact c 18)
theorem g_BadInput (T : Tx K mg) : mg "BadInput" = some (.ref (He.ga K "BadInput")) := by obtain ⟨h, X, G, c⟩ := T; exact He.glo_ok X G (fact c 19)
theorem g_Refused (T : Tx K mg) : mg "Refused" = some (.ref (He.ga K "Refused")) := by obtain ⟨h, X, G, c⟩ := T; exact He.glo_ok X G (fact c 20)
theorem g_BadTown (T : Tx K mg) : mg "BadTown" = some (.ref (He.ga K "BadTown")) := by obtain ⟨h, X, G, c⟩ := T; exact He.glo_ok X G (fact c 21)
theorem g_BadWard (T : Tx K mg) : mg "BadWard" = some (.ref (He.ga K "BadWard")) := by obtain ⟨h, X, G, c⟩ := T; exact He.glo_ok X G (fact c 22)
theorem g_BadText (T : Tx K mg) : mg "BadText" = some (.ref (He.ga K "BadText")) := by obtain ⟨h, X, G, c⟩ := T; exact He.glo_ok X G (fact c 23)
theorem g_TooMany (T : Tx K mg) : mg "TooMany" = some (.ref (He.ga K "TooMany")) := by obtain ⟨h, X, G, c⟩ := T; exact He.glo_ok X G (fact c 24)
theorem n_sorted (T : Tx K mg) : mg "sorted" = none := by obtain ⟨h, X, G, c⟩ := T; exact He.free_ok X G (fact c 25)
theorem n_set (T : Tx K mg) : mg "set" = none := by obtain ⟨h, X, G, c⟩ := T; exact He.free_ok X G (fact c 26)
theorem n_isinstance (T : Tx K mg) : mg "isinstance" = none := by obtain ⟨h, X, G, c⟩ := T; exact He.free_ok X G (fact c 27)
theorem n_str (T : Tx K mg) : mg "str" = none := by obtain ⟨h, X, G, c⟩ := T; exact He.free_ok X G (fact c 28)
theorem n_int (T : Tx K mg) : mg "int" = none := by obtain ⟨h, X, G, c⟩ := T; exact He.free_ok X G (fact c 29)
theorem n_bool (T : Tx K mg) : mg "bool" = none := by obtain ⟨h, X, G, c⟩ := T; exact He.free_ok X G (fact c 30)
theorem n_len (T : Tx K mg) : mg "len" = none := by obtain ⟨h, X, G, c⟩ := T; exact He.free_ok X G (fact c 31)
theorem n_all (T : Tx K mg) : mg "all" = none := by obtain ⟨h, X, G, c⟩ := T; exact He.free_ok X G (fact c 32)
theorem n_list (T : Tx K mg) : mg "list" = none := by obtain ⟨h, X, G, c⟩ := T; exact He.free_ok X G (fact c 33)
theorem n_tuple (T : Tx K mg) : mg "tuple" = none := by obtain ⟨h, X, G, c⟩ := T; exact He.free_ok X G (fact c 34)
theorem n_range (T : Tx K mg) : mg "range" = none := by obtain ⟨h, X, G, c⟩ := T; exact He.free_ok X G (fact c 35)
theorem n_repr (T : Tx K mg) : mg "repr" = none := by obtain ⟨h, X, G, c⟩ := T; exact He.free_ok X G (fact c 36)
theorem n_abs (T : Tx K mg) : mg "abs" = none := by obtain ⟨h, X, G, c⟩ := T; exact He.free_ok X G (fact c 37)
theorem n_iter (T : Tx K mg) : mg "iter" = none := by obtain ⟨h, X, G, c⟩ := T; exact He.free_ok X G (fact c 38)
theorem n_dict (T : Tx K mg) : mg "dict" = none := by obtain ⟨h, X, G, c⟩ := T; exact He.free_ok X G (fact c 39)
theorem i_MOST_CORNERS (T : Tx K mg) {v : Int} (e : (He.Fa.int "MOST_CORNERS" v) = (He.Fa.int "MOST_CORNERS" v)) : fas[40]? = some (He.Fa.int "MOST_CORNERS" v).ok → ∃ t, mg "MOST_CORNERS" = some (.int v t) := by intro q; obtain ⟨h, X, G, c⟩ := T; exact He.int_ok X G (fact c 40 q)
theorem i_NAME_LENGTH (T : Tx K mg) {v : Int} (e : (He.Fa.int "NAME_LENGTH" v) = (He.Fa.int "NAME_LENGTH" v)) : fas[41]? = some (He.Fa.int "NAME_LENGTH" v).ok → ∃ t, mg "NAME_LENGTH" = some (.int v t) := by intro q; obtain ⟨h, X, G, c⟩ := T; exact He.int_ok X G (fact c 41 q)
theorem t_LETTERS (T : Tx K mg) {v : Str} : fas[42]? = some (He.Fa.str "LETTERS" v).ok → ∃ t, mg "LETTERS" = some (.str v t) := by intro q; obtain ⟨h, X, G, c⟩ := T; exact He.str_ok X G (fact c 42 q)
theorem c_Ward (T : Tx K mg) : Cls K (He.ga K "Ward") := by obtain ⟨h, X, G, c⟩ := T; exact He.cls_ok (fact c 43)
theorem na_Ward__corners (T : Tx K mg) : NoAttr K (He.ga K "Ward") "_corners" := by obtain ⟨h, X, G, c⟩ := T; exact He.noat_ok (fact c 44)
theorem m_Ward_len (T : Tx K mg) : Meth K (He.ga K "Ward") "__len__" (He.ma K (He.ga K "Ward") "__len__") := by obtain ⟨h, X, G, c⟩ := T; exact He.meth_ok (fact c 45)
theorem m_Ward_contains (T : Tx K mg) : Meth K (He.ga K "Ward") "__contains__" (He.ma K (He.ga K "Ward") "__contains__") := by obtain ⟨h, X, G, c⟩ := T; exact He.meth_ok (fact c 46)
theorem m_Ward_iter (T : Tx K mg) : Meth K (He.ga K "Ward") "__iter__" (He.ma K (He.ga K "Ward") "__iter__") := by obtain ⟨h, X, G, c⟩ := T; exact He.meth_ok (fact c 47)
theorem m_Ward_or (T : Tx K mg) : Meth K (He.ga K "Ward") "__or__" (He.ma K (He.ga K "Ward") "__or__") := by obtain ⟨h, X, G, c⟩ := T; exact He.meth_ok (fact c 48)
theorem m_Ward_sub (T : Tx K mg) : Meth K (He.ga K "Ward") "__sub__" (He.ma K (He.ga K "Ward") "__sub__") := by obtain ⟨h, X, G, c⟩ := T; exact He.meth_ok (fact c 49)
theorem m_Ward_le (T : Tx K mg) : Meth K (He.ga K "Ward") "__le__" (He.ma K (He.ga K "Ward") "__le__") := by obtain ⟨h, X, G, c⟩ := T; exact He.meth_ok (fact c 50)
theorem m_Ward_eq (T : Tx K mg) : Meth K (He.ga K "Ward") "__eq__" (He.ma K (He.ga K "Ward") "__eq__") := by obtain ⟨h, X, G, c⟩ := T; exact He.meth_ok (fact c 51)
theorem m_Ward_str (T : Tx K mg) : Meth K (He.ga K "Ward") "__str__" (He.ma K (He.ga K "Ward") "__str__") := by obtain ⟨h, X, G, c⟩ := T; exact He.meth_ok (fact c 52)
theorem mk_Ward (T : Tx K mg) : Mk K (He.ga K "Ward") (He.ma K (He.ga K "Ward") "__init__") := by obtain ⟨h, X, G, c⟩ := T; exact He.mkr_ok (fact c 53)
theorem pr_Ward_corners (T : Tx K mg) : PropOf K (He.ga K "Ward") "corners" (He.ma K (He.ga K "Ward") "corners") (getA K (He.ga K "Ward") "corners") := by obtain ⟨h, X, G, c⟩ := T; exact propB_ok (fact c 54)
theorem ci_Ward (T : Tx K mg) : ClsI K (He.ga K "Ward") := by obtain ⟨h, X, G, c⟩ := T; exact clsB_ok (fact c 55)
theorem k_Ward_AnyTown (T : Tx K mg) : PySem.W.kitOne K (.ref (He.ga K "Ward")) (.ref (He.ga K "AnyTown")) = some false := by obtain ⟨h, X, G, c⟩ := T; exact of_decide_eq_true (fact c 56)
theorem k_NoneType_AnyTown (T : Tx K mg) : PySem.W.kitOne K (.type "NoneType") (.ref (He.ga K "AnyTown")) = some false := by obtain ⟨h, X, G, c⟩ := T; exact of_decide_eq_true (fact c 57)
theorem k_bool_AnyTown (T : Tx K mg) : PySem.W.kitOne K (.type "bool") (.ref (He.ga K "AnyTown")) = some false := by obtain ⟨h, X, G, c⟩ := T; exact of_decide_eq_true (fact c 58)
theorem k_int_AnyTown (T : Tx K mg) : PySem.W.kitOne K (.type "int") (.ref (He.ga K "AnyTown")) = some false := by obtain ⟨h, X, G, c⟩ := T; exact of_decide_eq_true (fact c 59)
theorem k_str_AnyTown (T : Tx K mg) : PySem.W.kitOne K (.type "str") (.ref (He.ga K "AnyTown")) = some false := by obtain ⟨h, X, G, c⟩ := T; exact of_decide_eq_true (fact c 60)
theorem k_tuple_AnyTown (T : Tx K mg) : PySem.W.kitOne K (.type "tuple") (.ref (He.ga K "AnyTown")) = some false := by obtain ⟨h, X, G, c⟩ := T; exact of_decide_eq_true (fact c 61)
theorem k_list_AnyTown (T : Tx K mg) : PySem.W.kitOne K (.type "list") (.ref (He.ga K "AnyTown")) = some false := by obtain ⟨h, X, G, c⟩ := T; exact of_decide_eq_true (fact c 62)
theorem k_dict_AnyTown (T : Tx K mg) : PySem.W.kitOne K (.type "dict") (.ref (He.ga K "AnyTown")) = some false := by obtain ⟨h, X, G, c⟩ := T; exact of_decide_eq_true (fact c 63)
theorem k_Ward_BadInput (T : Tx K mg) : PySem.W.kitOne K (.ref (He.ga K "Ward")) (.ref (He.ga K "BadInput")) = some false := by obtain ⟨h, X, G, c⟩ := T; exact of_decide_eq_true (fact c 64)
theorem k_NoneType_BadInput (T : Tx K mg) : PySem.W.kitOne K (.type "NoneType") (.ref (He.ga K "BadInput")) = some false := by obtain ⟨h, X, G, c⟩ := T; exact of_decide_eq_true (fact c 65)
theorem k_bool_BadInput (T : Tx K mg) : PySem.W.kitOne K (.type "bool") (.ref (He.ga K "BadInput")) = some false := by obtain ⟨h, X, G, c⟩ := T; exact of_decide_eq_true (fact c 66)
theorem k_int_BadInput (T : Tx K mg) : PySem.W.kitOne K (.type "int") (.ref (He.ga K "BadInput")) = some false := by obtain ⟨h, X, G, c⟩ := T; exact of_decide_eq_true (fact c 67)
theorem k_str_BadInput (T : Tx K mg) : PySem.W.kitOne K (.type "str") (.ref (He.ga K "BadInput")) = some false := by obtain ⟨h, X, G, c⟩ := T; exact of_decide_eq_true (fact c 68)
theorem k_tuple_BadInput (T : Tx K mg) : PySem.W.kitOne K (.type "tuple") (.ref (He.ga K "BadInput")) = some false := by obtain ⟨h, X, G, c⟩ := T; exact of_decide_eq_true (fact c 69)
theorem k_list_BadInput (T : Tx K mg) : PySem.W.kitOne K (.type "list") (.ref (He.ga K "BadInput")) = some false := by obtain ⟨h, X, G, c⟩ := T; exact of_decide_eq_true (fact c 70)
theorem k_dict_BadInput (T : Tx K mg) : PySem.W.kitOne K (.type "dict") (.ref (He.ga K "BadInput")) = some false := by obtain ⟨h, X, G, c⟩ := T; exact of_decide_eq_true (fact c 71)
theorem k_TownError_BadInput (T : Tx K mg) : PySem.W.kitOne K (.ref (He.ga K "TownError")) (.ref (He.ga K "BadInput")) = some false := by obtain ⟨h, X, G, c⟩ := T; exact of_decide_eq_true (fact c 72)
theorem k_BadInput_BadInput (T : Tx K mg) : PySem.W.kitOne K (.ref (He.ga K "BadInput")) (.ref (He.ga K "BadInput")) = some true := by obtain ⟨h, X, G, c⟩ := T; exact of_decide_eq_true (fact c 73)
theorem k_Refused_BadInput (T : Tx K mg) : PySem.W.kitOne K (.ref (He.ga K "Refused")) (.ref (He.ga K "BadInput")) = some false := by obtain ⟨h, X, G, c⟩ := T; exact of_decide_eq_true (fact c 74)
theorem k_BadTown_BadInput (T : Tx K mg) : PySem.W.kitOne K (.ref (He.ga K "BadTown")) (.ref (He.ga K "BadInput")) = some true := by obtain ⟨h, X, G, c⟩ := T; exact of_decide_eq_true (fact c 75)
theorem k_BadWard_BadInput (T : Tx K mg) : PySem.W.kitOne K (.ref (He.ga K "BadWard")) (.ref (He.ga K "BadInput")) = some true := by obtain ⟨h, X, G, c⟩ := T; exact of_decide_eq_true (fact c 76)
theorem k_BadText_BadInput (T : Tx K mg) : PySem.W.kitOne K (.ref (He.ga K "BadText")) (.ref (He.ga K "BadInput")) = some true := by obtain ⟨h, X, G, c⟩ := T; exact of_decide_eq_true (fact c 77)
theorem k_TooMany_BadInput (T : Tx K mg) : PySem.W.kitOne K (.ref (He.ga K "TooMany")) (.ref (He.ga K "BadInput")) = some false := by obtain ⟨h, X, G, c⟩ := T; exact of_decide_eq_true (fact c 78)
theorem k_Ward_BadText (T : Tx K mg) : PySem.W.kitOne K (.ref (He.ga K "Ward")) (.ref (He.ga K "BadText")) = some false := by obtain ⟨h, X, G, c⟩ := T; exact of_decide_eq_true (fact c 79)
theorem k_NoneType_BadText (T : Tx K mg) : PySem.W.kitOne K (.type "NoneType") (.ref (He.ga K "BadText")) = some false := by obtain ⟨h, X, G, c⟩ := T; exact of_decide_eq_true (fact c 80)
theorem k_bool_BadText (T : Tx K mg) : PySem.W.kitOne K (.type "bool") (.ref (He.ga K "BadText")) = some false := by obtain ⟨h, X, G, c⟩ := T; exact of_decide_eq_true (fact c 81)
theorem k_int_BadText (T : Tx K mg) : PySem.W.kitOne K (.type "int") (.ref (He.ga K "BadText")) = some false := by obtain ⟨h, X, G, c⟩ := T; exact of_decide_eq_true (fact c 82)
theorem k_str_BadText (T : Tx K mg) : PySem.W.kitOne K (.type "str") (.ref (He.ga K "BadText")) = some false := by obtain ⟨h, X, G, c⟩ := T; exact of_decide_eq_true (fact c 83)
theorem k_tuple_BadText (T : Tx K mg) : PySem.W.kitOne K (.type "tuple") (.ref (He.ga K "BadText")) = some false := by obtain ⟨h, X, G, c⟩ := T; exact of_decide_eq_true (fact c 84)
theorem k_list_BadText (T : Tx K mg) : PySem.W.kitOne K (.type "list") (.ref (He.ga K "BadText")) = some false := by obtain ⟨h, X, G, c⟩ := T; exact of_decide_eq_true (fact c 85)
theorem k_dict_BadText (T : Tx K mg) : PySem.W.kitOne K (.type "dict") (.ref (He.ga K "BadText")) = some false := by obtain ⟨h, X, G, c⟩ := T; exact of_decide_eq_true (fact c 86)
theorem k_TownError_BadText (T : Tx K mg) : PySem.W.kitOne K (.ref (He.ga K "TownError")) (.ref (He.ga K "BadText")) = some false := by obtain ⟨h, X, G, c⟩ := T; exact of_decide_eq_true (fact c 87)
theorem k_BadInput_BadText (T : Tx K mg) : PySem.W.kitOne K (.ref (He.ga K "BadInput")) (.ref (He.ga K "BadText")) = some false := by obtain ⟨h, X, G, c⟩ := T; exact of_decide_eq_true (fact c 88)
theorem k_Refused_BadText (T : Tx K mg) : PySem.W.kitOne K (.ref (He.ga K "Refused")) (.ref (He.ga K "BadText")) = some false := by obtain ⟨h, X, G, c⟩ := T; exact of_decide_eq_true (fact c 89)
theorem k_BadTown_BadText (T : Tx K mg) : PySem.W.kitOne K (.ref (He.ga K "BadTown")) (.ref (He.ga K "BadText")) = some false := by obtain ⟨h, X, G, c⟩ := T; exact of_decide_eq_true (fact c 90)
theorem k_BadWard_BadText (T : Tx K mg) : PySem.W.kitOne K (.ref (He.ga K "BadWard")) (.ref (He.ga K "BadText")) = some false := by obtain ⟨h, X, G, c⟩ := T; exact of_decide_eq_true (fact c 91)
theorem k_BadText_BadText (T : Tx K mg) : PySem.W.kitOne K (.ref (He.ga K "BadText")) (.ref (He.ga K "BadText")) = some true := by obtain ⟨h, X, G, c⟩ := T; exact of_decide_eq_true (fact c 92)
theorem k_TooMany_BadText (T : Tx K mg) : PySem.W.kitOne K (.ref (He.ga K "TooMany")) (.ref (He.ga K "BadText")) = some false := by obtain ⟨h, X, G, c⟩ := T; exact of_decide_eq_true (fact c 93)
theorem k_Ward_Ward (T : Tx K mg) : PySem.W.kitOne K (.ref (He.ga K "Ward")) (.ref (He.ga K "Ward")) = some true := by obtain ⟨h, X, G, c⟩ := T; exact of_decide_eq_true (fact c 94)
theorem k_NoneType_Ward (T : Tx K mg) : PySem.W.kitOne K (.type "NoneType") (.ref (He.ga K "Ward")) = some false := by obtain ⟨h, X, G, c⟩ := T; exact of_decide_eq_true (fact c 95)
theorem k_bool_Ward (T : Tx K mg) : PySem.W.kitOne K (.type "bool") (.ref (He.ga K "Ward")) = some false := by obtain ⟨h, X, G, c⟩ := T; exact of_decide_eq_true (fact c 96)
theorem k_int_Ward (T : Tx K mg) : PySem.W.kitOne K (.type "int") (.ref (He.ga K "Ward")) = some false := by obtain ⟨h, X, G, c⟩ := T; exact of_decide_eq_true (fact c 97)
theorem k_str_Ward (T : Tx K mg) : PySem.W.kitOne K (.type "str") (.ref (He.ga K "Ward")) = some false := by obtain ⟨h, X, G, c⟩ := T; exact of_decide_eq_true (fact c 98)
theorem k_tuple_Ward (T : Tx K mg) : PySem.W.kitOne K (.type "tuple") (.ref (He.ga K "Ward")) = some false := by obtain ⟨h, X, G, c⟩ := T; exact of_decide_eq_true (fact c 99)
theorem k_list_Ward (T : Tx K mg) : PySem.W.kitOne K (.type "list") (.ref (He.ga K "Ward")) = some false := by obtain ⟨h, X, G, c⟩ := T; exact of_decide_eq_true (fact c 100)
theorem k_dict_Ward (T : Tx K mg) : PySem.W.kitOne K (.type "dict") (.ref (He.ga K "Ward")) = some false := by obtain ⟨h, X, G, c⟩ := T; exact of_decide_eq_true (fact c 101)
theorem k_Ward_str (T : Tx K mg) : PySem.W.kitOne K (.ref (He.ga K "Ward")) (.type "str") = some false := by obtain ⟨h, X, G, c⟩ := T; exact of_decide_eq_true (fact c 102)
theorem cr_Ward (T : Tx K mg) : ClX.CRead K (He.ga K "Ward") (.type "type") := by obtain ⟨h, X, G, c⟩ := T; exact cread_ok (fact c 103)
theorem cm_Ward_read (T : Tx K mg) : ClX.CMet K (He.ga K "Ward") (.type "type") "read" (He.ma K (He.ga K "Ward") "read") (getC K (He.ga K "Ward") "read") := by obtain ⟨h, X, G, c⟩ := T; exact cmet_ok (fact c 104)
abbrev d__law_pen : Hx.Dx := ⟨fun K => He.ga K "_law_pen", "_law_pen", "_law_pen", s__law_pen, [], []⟩
theorem f__law_pen (T : Tx K mg) : ∃ fd, Fd K d__law_pen fd := by obtain ⟨h, X, G, c⟩ := T; exact defn c 0
abbrev d__law_draw : Hx.Dx := ⟨fun K => He.ga K "_law_draw", "_law_draw", "_law_draw", s__law_draw, [], []⟩
theorem f__law_draw (T : Tx K mg) : ∃ fd, Fd K d__law_draw fd := by obtain ⟨h, X, G, c⟩ := T; exact defn c 1
abbrev d__law_corners : Hx.Dx := ⟨fun K => He.ga K "_law_corners", "_law_corners", "_law_corners", s__law_corners, [], []⟩
theorem f__law_corners (T : Tx K mg) : ∃ fd, Fd K d__law_corners fd := by obtain ⟨h, X, G, c⟩ := T; exact defn c 2
abbrev d__law_pick : Hx.Dx := ⟨fun K => He.ga K "_law_pick", "_law_pick", "_law_pick", s__law_pick, [], []⟩
theorem f__law_pick (T : Tx K mg) : ∃ fd, Fd K d__law_pick fd := by obtain ⟨h, X, G, c⟩ := T; exact defn c 3
abbrev d_ascending : Hx.Dx := ⟨fun K => He.ga K "ascending", "ascending", "ascending", s_ascending, [], []⟩
theorem f_ascending (T : Tx K mg) : ∃ fd, Fd K d_ascending fd := by obtain ⟨h, X, G, c⟩ := T; exact defn c 4
abbrev d_check_ward : Hx.Dx := ⟨fun K => He.ga K "check_ward", "check_ward", "check_ward", s_check_ward, [], []⟩
theorem f_check_ward (T : Tx K mg) : ∃ fd, Fd K d_check_ward fd := by obtain ⟨h, X, G, c⟩ := T; exact defn c 5
abbrev d_are_among : Hx.Dx := ⟨fun K => He.ga K "are_among", "are_among", "are_among", s_are_among, [], []⟩
theorem f_are_among (T : Tx K mg) : ∃ fd, Fd K d_are_among fd := by obtain ⟨h, X, G, c⟩ := T; exact defn c 6
abbrev d_is_name : Hx.Dx := ⟨fun K => He.ga K "is_name", "is_name", "is_name", s_is_name, [], []⟩
theorem f_is_name (T : Tx K mg) : ∃ fd, Fd K d_is_name fd := by obtain ⟨h, X, G, c⟩ := T; exact defn c 7
abbrev d__law_ward : Hx.Dx := ⟨fun K => He.ga K "_law_ward", "_law_ward", "_law_ward", s__law_ward, [], []⟩
theorem f__law_ward (T : Tx K mg) : ∃ fd, Fd K d__law_ward fd := by obtain ⟨h, X, G, c⟩ := T; exact defn c 8
abbrev d__law_bent : Hx.Dx := ⟨fun K => He.ga K "_law_bent", "_law_bent", "_law_bent", s__law_bent, [], []⟩
theorem f__law_bent (T : Tx K mg) : ∃ fd, Fd K d__law_bent fd := by obtain ⟨h, X, G, c⟩ := T; exact defn c 9
abbrev d__law_heard : Hx.Dx := ⟨fun K => He.ga K "_law_heard", "_law_heard", "_law_heard", s__law_heard, [], []⟩
theorem f__law_heard (T : Tx K mg) : ∃ fd, Fd K d__law_heard fd := by obtain ⟨h, X, G, c⟩ := T; exact defn c 10
abbrev d_is_ward_text : Hx.Dx := ⟨fun K => He.ga K "is_ward_text", "is_ward_text", "is_ward_text", s_is_ward_text, [], []⟩
theorem f_is_ward_text (T : Tx K mg) : ∃ fd, Fd K d_is_ward_text fd := by obtain ⟨h, X, G, c⟩ := T; exact defn c 11
abbrev d__law_is_name : Hx.Dx := ⟨fun K => He.ga K "_law_is_name", "_law_is_name", "_law_is_name", s__law_is_name, [], []⟩
theorem f__law_is_name (T : Tx K mg) : ∃ fd, Fd K d__law_is_name fd := by obtain ⟨h, X, G, c⟩ := T; exact defn c 12
abbrev d__law_due : Hx.Dx := ⟨fun K => He.ga K "_law_due", "_law_due", "_law_due", s__law_due, [], []⟩
theorem f__law_due (T : Tx K mg) : ∃ fd, Fd K d__law_due fd := by obtain ⟨h, X, G, c⟩ := T; exact defn c 13
abbrev d__law_right : Hx.Dx := ⟨fun K => He.ga K "_law_right", "_law_right", "_law_right", s__law_right, [], []⟩
theorem f__law_right (T : Tx K mg) : ∃ fd, Fd K d__law_right fd := by obtain ⟨h, X, G, c⟩ := T; exact defn c 14
abbrev d_law : Hx.Dx := ⟨fun K => He.ga K "law", "law", "law", s_law, [], []⟩
theorem f_law (T : Tx K mg) : ∃ fd, Fd K d_law fd := by obtain ⟨h, X, G, c⟩ := T; exact defn c 15
abbrev d_Ward_iter : Hx.Dx := ⟨fun K => He.ma K (He.ga K "Ward") "__iter__", "__iter__", "Ward.__iter__", s_Ward_iter, [], []⟩
theorem f_Ward_iter (T : Tx K mg) : ∃ fd, Fd K d_Ward_iter fd := by obtain ⟨h, X, G, c⟩ := T; exact defn c 16
abbrev d_Ward_eq : Hx.Dx := ⟨fun K => He.ma K (He.ga K "Ward") "__eq__", "__eq__", "Ward.__eq__", s_Ward_eq, [], []⟩
theorem f_Ward_eq (T : Tx K mg) : ∃ fd, Fd K d_Ward_eq fd := by obtain ⟨h, X, G, c⟩ := T; exact defn c 17
abbrev d_Ward_str : Hx.Dx := ⟨fun K => He.ma K (He.ga K "Ward") "__str__", "__str__", "Ward.__str__", s_Ward_str, [], []⟩
theorem f_Ward_str (T : Tx K mg) : ∃ fd, Fd K d_Ward_str fd := by obtain ⟨h, X, G, c⟩ := T; exact defn c 18
abbrev d_Ward_len : Hx.Dx := ⟨fun K => He.ma K (He.ga K "Ward") "__len__", "__len__", "Ward.__len__", s_Ward_len, [], []⟩
theorem f_Ward_len (T : Tx K mg) : ∃ fd, Fd K d_Ward_len fd := by obtain ⟨h, X, G, c⟩ := T; exact defn c 19
abbrev d_Ward_contains : Hx.Dx := ⟨fun K => He.ma K (He.ga K "Ward") "__contains__", "__contains__", "Ward.__contains__", s_Ward_contains, [], []⟩
theorem f_Ward_contains (T : Tx K mg) : ∃ fd, Fd K d_Ward_contains fd := by obtain ⟨h, X, G, c⟩ := T; exact defn c 20
abbrev d_Ward_le : Hx.Dx := ⟨fun K => He.ma K (He.ga K "Ward") "__le__", "__le__", "Ward.__le__", s_Ward_le, [], []⟩
theorem f_Ward_le (T : Tx K mg) : ∃ fd, Fd K d_Ward_le fd := by obtain ⟨h, X, G, c⟩ := T; exact defn c 21
abbrev d_Ward_init : Hx.Dx := ⟨fun K => He.ma K (He.ga K "Ward") "__init__", "__init__", "Ward.__init__", s_Ward_init, [], []⟩
theorem f_Ward_init (T : Tx K mg) : ∃ fd, Fd K d_Ward_init fd := by obtain ⟨h, X, G, c⟩ := T; exact defn c 22
abbrev d_Ward_or : Hx.Dx := ⟨fun K => He.ma K (He.ga K "Ward") "__or__", "__or__", "Ward.__or__", s_Ward_or, [], []⟩
theorem f_Ward_or (T : Tx K mg) : ∃ fd, Fd K d_Ward_or fd := by obtain ⟨h, X, G, c⟩ := T; exact defn c 23
abbrev d_Ward_corners : Hx.Dx := ⟨fun K => getA K (He.ga K "Ward") "corners", "corners", "Ward.corners", s_Ward_corners, [], []⟩
theorem f_Ward_corners (T : Tx K mg) : ∃ fd, Fd K d_Ward_corners fd := by obtain ⟨h, X, G, c⟩ := T; exact defn c 24
abbrev d_Ward_read : Hx.Dx := ⟨fun K => getC K (He.ga K "Ward") "read", "read", "Ward.read", s_Ward_read, [], []⟩
theorem f_Ward_read (T : Tx K mg) : ∃ fd, Fd K d_Ward_read fd := by obtain ⟨h, X, G, c⟩ := T; exact defn c 25
abbrev d_Ward_sub : Hx.Dx := ⟨fun K => He.ma K (He.ga K "Ward") "__sub__", "__sub__", "Ward.__sub__", s_Ward_sub, [], []⟩
theorem f_Ward_sub (T : Tx K mg) : ∃ fd, Fd K d_Ward_sub fd := by obtain ⟨h, X, G, c⟩ := T; exact defn c 26
abbrev d_BadTown_init : Hx.Dx := ⟨fun K => He.ma K (He.ga K "BadTown") "__init__", "__init__", "BadTown.__init__", s_BadTown_init, [], []⟩
theorem f_BadTown_init (T : Tx K mg) : ∃ fd, Fd K d_BadTown_init fd := by obtain ⟨h, X, G, c⟩ := T; exact defn c 27
abbrev d_BadWard_init : Hx.Dx := ⟨fun K => He.ma K (He.ga K "BadWard") "__init__", "__init__", "BadWard.__init__", s_BadWard_init, [], []⟩
theorem f_BadWard_init (T : Tx K mg) : ∃ fd, Fd K d_BadWard_init fd := by obtain ⟨h, X, G, c⟩ := T; exact defn c 28
abbrev d_BadText_init : Hx.Dx := ⟨fun K => He.ma K (He.ga K "BadText") "__init__", "__init__", "BadText.__init__", s_BadText_init, [], []⟩
theorem f_BadText_init (T : Tx K mg) : ∃ fd, Fd K d_BadText_init fd := by obtain ⟨h, X, G, c⟩ := T; exact defn c 29
abbrev d_TooMany_init : Hx.Dx := ⟨fun K => He.ma K (He.ga K "TooMany") "__init__", "__init__", "TooMany.__init__", s_TooMany_init, [], []⟩
theorem f_TooMany_init (T : Tx K mg) : ∃ fd, Fd K d_TooMany_init fd := by obtain ⟨h, X, G, c⟩ := T; exact defn c 30
theorem er_TownError (T : Tx K mg) : Er K (He.ga K "TownError") := by obtain ⟨h, X, G, c⟩ := T; exact erB_ok (fact c 105)
theorem er_BadInput (T : Tx K mg) : Er K (He.ga K "BadInput") := by obtain ⟨h, X, G, c⟩ := T; exact erB_ok (fact c 106)
theorem er_Refused (T : Tx K mg) : Er K (He.ga K "Refused") := by obtain ⟨h, X, G, c⟩ := T; exact erB_ok (fact c 107)
theorem er_BadTown (T : Tx K mg) : Er K (He.ga K "BadTown") := by obtain ⟨h, X, G, c⟩ := T; exact erB_ok (fact c 108)
theorem er_BadWard (T : Tx K mg) : Er K (He.ga K "BadWard") := by obtain ⟨h, X, G, c⟩ := T; exact erB_ok (fact c 109)
theorem er_BadText (T : Tx K mg) : Er K (He.ga K "BadText") := by obtain ⟨h, X, G, c⟩ := T; exact erB_ok (fact c 110)
theorem er_TooMany (T : Tx K mg) : Er K (He.ga K "TooMany") := by obtain ⟨h, X, G, c⟩ := T; exact erB_ok (fact c 111)
theorem xn_BadTown_part (T : Tx K mg) : PySem.W.findIn K (.ref (He.ga K "BadTown")) "part" = some none := by obtain ⟨h, X, G, c⟩ := T; exact He.eqO_ok (fact c 112)
theorem xn_BadWard_part (T : Tx K mg) : PySem.W.findIn K (.ref (He.ga K "BadWard")) "part" = some none := by obtain ⟨h, X, G, c⟩ := T; exact He.eqO_ok (fact c 113)
theorem xn_BadText_line (T : Tx K mg) : PySem.W.findIn K (.ref (He.ga K "BadText")) "line" = some none := by obtain ⟨h, X, G, c⟩ := T; exact He.eqO_ok (fact c 114)
theorem xn_BadText_word (T : Tx K mg) : PySem.W.findIn K (.ref (He.ga K "BadText")) "word" = some none := by obtain ⟨h, X, G, c⟩ := T; exact He.eqO_ok (fact c 115)
theorem xn_TooMany_what (T : Tx K mg) : PySem.W.findIn K (.ref (He.ga K "TooMany")) "what" = some none := by obtain ⟨h, X, G, c⟩ := T; exact He.eqO_ok (fact c 116)
theorem xn_TooMany_most (T : Tx K mg) : PySem.W.findIn K (.ref (He.ga K "TooMany")) "most" = some none := by obtain ⟨h, X, G, c⟩ := T; exact He.eqO_ok (fact c 117)
theorem ex_TownError_TownError (T : Tx K mg) : PySem.W.exmOne K (.ref (He.ga K "TownError")) (.ref (He.ga K "TownError")) = some true := by obtain ⟨h, X, G, c⟩ := T; exact of_decide_eq_true (fact c 118)
theorem ex_BadInput_TownError (T : Tx K mg) : PySem.W.exmOne K (.ref (He.ga K "BadInput")) (.ref (He.ga K "TownError")) = some true := by obtain ⟨h, X, G, c⟩ := T; exact of_decide_eq_true (fact c 119)
theorem ex_Refused_TownError (T : Tx K mg) : PySem.W.exmOne K (.ref (He.ga K "Refused")) (.ref (He.ga K "TownError")) = some true := by obtain ⟨h, X, G, c⟩ := T; exact of_decide_eq_true (fact c 120)
theorem ex_BadTown_TownError (T : Tx K mg) : PySem.W.exmOne K (.ref (He.ga K "BadTown")) (.ref (He.ga K "TownError")) = some true := by obtain ⟨h, X, G, c⟩ := T; exact of_decide_eq_true (fact c 121)
theorem ex_BadWard_TownError (T : Tx K mg) : PySem.W.exmOne K (.ref (He.ga K "BadWard")) (.ref (He.ga K "TownError")) = some true := by obtain ⟨h, X, G, c⟩ := T; exact of_decide_eq_true (fact c 122)
theorem ex_BadText_TownError (T : Tx K mg) : PySem.W.exmOne K (.ref (He.ga K "BadText")) (.ref (He.ga K "TownError")) = some true := by obtain ⟨h, X, G, c⟩ := T; exact of_decide_eq_true (fact c 123)
theorem ex_TooMany_TownError (T : Tx K mg) : PySem.W.exmOne K (.ref (He.ga K "TooMany")) (.ref (He.ga K "TownError")) = some true := by obtain ⟨h, X, G, c⟩ := T; exact of_decide_eq_true (fact c 124)
theorem in_BadTown (T : Tx K mg) : PySem.W.findIn K (.ref (He.ga K "BadTown")) "__init__" = some (some (.ref (He.ma K (He.ga K "BadTown") "__init__"))) ∧ PySem.W.typeIn K (.ref (He.ma K (He.ga K "BadTown") "__init__")) = some (.type "function") := by obtain ⟨h, X, G, c⟩ := T; exact iniB_ok (fact c 125)
theorem in_BadWard (T : Tx K mg) : PySem.W.findIn K (.ref (He.ga K "BadWard")) "__init__" = some (some (.ref (He.ma K (He.ga K "BadWard") "__init__"))) ∧ PySem.W.typeIn K (.ref (He.ma K (He.ga K "BadWard") "__init__")) = some (.type "function") := by obtain ⟨h, X, G, c⟩ := T; exact iniB_ok (fact c 126)
theorem in_BadText (T : Tx K mg) : PySem.W.findIn K (.ref (He.ga K "BadText")) "__init__" = some (some (.ref (He.ma K (He.ga K "BadText") "__init__"))) ∧ PySem.W.typeIn K (.ref (He.ma K (He.ga K "BadText") "__init__")) = some (.type "function") := by obtain ⟨h, X, G, c⟩ := T; exact iniB_ok (fact c 127)
theorem in_TooMany (T : Tx K mg) : PySem.W.findIn K (.ref (He.ga K "TooMany")) "__init__" = some (some (.ref (He.ma K (He.ga K "TooMany") "__init__"))) ∧ PySem.W.typeIn K (.ref (He.ma K (He.ga K "TooMany") "__init__")) = some (.type "function") := by obtain ⟨h, X, G, c⟩ := T; exact iniB_ok (fact c 128)
theorem sm_ok (T : Tx K mg) : ∃ (es : Array DictEntry) (n : Nat) (sl : Array (Option Value)), K.lookup sysModules = some { cls := .type "dict", dict := none, data := .dict es n, slots := sl } := by obtain ⟨h, X, G, c⟩ := T; exact He.dictB_ok (fact c 129)
theorem bi_Ward_or (T : Tx K mg) : (PySem.W.selfFirst K (He.ga K "Ward") = true ∧ ∃ rc, PySem.W.findIn K (.ref (He.ga K "Ward")) "__ror__" = some rc ∧ (rc = none ∨ ∃ g : Addr, rc = some (.ref g))) ∧ ∀ T ∈ kinds, ∃ fo ro, PySem.W.findIn K (.type T) "__or__" = some fo ∧ PySem.W.findIn K (.type T) "__ror__" = some ro ∧ PySem.W.subIn K (.type T) (.ref (He.ga K "Ward")) = some false := by obtain ⟨h, X, G, c⟩ := T; exact binB_ok (fact c 130)
theorem bi_Ward_sub (T : Tx K mg) : (PySem.W.selfFirst K (He.ga K "Ward") = true ∧ ∃ rc, PySem.W.findIn K (.ref (He.ga K "Ward")) "__rsub__" = some rc ∧ (rc = none ∨ ∃ g : Addr, rc = some (.ref g))) ∧ ∀ T ∈ kinds, ∃ fo ro, PySem.W.findIn K (.type T) "__sub__" = some fo ∧ PySem.W.findIn K (.type T) "__rsub__" = some ro ∧ PySem.W.subIn K (.type T) (.ref (He.ga K "Ward")) = some false := by obtain ⟨h, X, G, c⟩ := T; exact binB_ok (fact c 131)
theorem rb_Ward (T : Tx K mg) : rightB K ["Ward"] (He.ga K "Ward") = true := by obtain ⟨h, X, G, c⟩ := T; exact fact c 132
theorem su_Ward (T : Tx K mg) : PySem.W.subIn K (.ref (He.ga K "Ward")) (.type "str") = some false := by obtain ⟨h, X, G, c⟩ := T; exact of_decide_eq_true (fact c 133)
theorem ct__law_right_law (T : Tx K mg) : (He.cT K ("_law_right", none)).2 ≠ (He.cT K ("law", none)).2 := by obtain ⟨h, X, G, c⟩ := T; exact of_decide_eq_true (fact c 134)
theorem ct_law__law_right (T : Tx K mg) : (He.cT K ("law", none)).2 ≠ (He.cT K ("_law_right", none)).2 := by obtain ⟨h, X, G, c⟩ := T; exact of_decide_eq_true (fact c 135)
end
end K15
/-! a caught error that is kept behind its clause: the statements behind the try know it -/
namespace KX
open PySem PySem.Spec PyProof.Rows L2
/-- what the clause 'except x as n' wishes, the rest of the block following it: t1, where the error is kept -/
def wKeep (K : PySem.W.Frag) (c : Value) (i : Nat) (ts t1 : Addr → Value → Option Addr → TS) (Wout : WX) (D : Ends) : WX := fun cls d σ H =>
  ∃ b, PySem.W.exmOne K cls c = some b ∧ (b = true → ∀ a, H a = none → ts a cls d { nx := fun σ' H' => t1 a cls d D (σ'.set i none) H', rt := D.rt, bk := fun σ' H' => D.bk (σ'.set i none) H', ct := fun σ' H' => D.ct (σ'.set i none) H' } (σ.set i (some (.ref a))) H) ∧
    (b = false → Wout cls d σ H)
section
variable {X : Cx} {x n : Str} {c : Value} {i : Nat} {body suite rest : List Stmt} {b₀ : Stmt} {np pos pos' : Pos} {tb : WX → TS} {ts t1 : Addr → Value → Option Addr → TS} {t0 : TS} {Wout : WX}
theorem pss_try_keep (hs : X.stack = X.env :: X.outer) (hf : X.env.frame = some X.env.locals) (hN : X.N.Nodup) (hi : X.N[i]? = some n) (hln : X.env.kindOf n = some .local) (hc : Names X x c) (tk : Takes X Wout)
    (hb : ∀ (W : WX) (pn : List (Addr × Obj)) (xe : Value → Shared → Prop), Takes (X.tr pn xe) W → PassesOwn (model X.prog X.w) X.A X.env xe → PSs (X.tr pn xe) body (tb W))
    (hsu : ∀ (a : Addr) (oe : Obj) (cls : Value) (d : Option Addr) (pn : List (Addr × Obj)), Zc cls d oe → (∃ vs, oe.data = .fields vs) → PSs (X.suite a ((a, oe) :: pn)) (b₀ :: suite) (ts a cls d))
    (h0 : PSs X rest t0)
    (h1 : ∀ (a : Addr) (oe : Obj) (cls : Value) (d : Option Addr) (pn : List (Addr × Obj)), Zc cls d oe → (∃ vs, oe.data = .fields vs) → PSs (X.tr ((a, oe) :: pn) X.xe) rest (t1 a cls d)) :
    PSs X (.Try body [.ExceptHandler (some (.Name x np)) (some n) (b₀ :: suite) pos'] [] [] pos :: rest) (fun D σ H => tb (wKeep X.K c i ts t1 Wout D) { D with nx := t0 D } σ H) := by
  refine ⟨fun pins s σ H D I h => ?_⟩
  have okX := I.ok
  have fr0 : X.A.frames = some (X.env :: X.outer) := by rw [okX.frames, hs]
  have lc0 : Loc X.env.scope n := .inl hln
  -- what stands behind the try: the rest where nothing was caught; the ends where the rest was run already
  let SPr : Flow → Shared → Prop := fun f w1 => match f with
    | .next => wpAny (model X.prog X.w) X.A (execs rest X.env) (SP X pins D) X.xe w1
    | f => SP X pins D f w1
  refine wpAny_execs_cons (wpAny_mono (Q := SPr) ?_ (fun f w2 q => ?_) (fun _ _ z => z))
  · refine wpAny_Try_except ?_
    refine wpAny_mono ((hb (wKeep X.K c i ts t1 Wout D) (X.pn ++ pins) (fun e s₁ => wpAny (model X.prog X.w) X.A (noteFrame e X.env) (fun _ s₂ => wpAny (model X.prog X.w) X.A (setFlight e none) (fun _ s₃ =>
      wpAny (model X.prog X.w) X.A (handleBy e X.env [.ExceptHandler (some (.Name x np)) (some n) (b₀ :: suite) pos']) SPr X.xe s₃) X.xe s₂) X.xe s₁) (fun u w1 hx => ?_) PassesOwn.looking).run [] s σ H { D with nx := t0 D } (I.toTry _) h) (fun f w2 hq => ?_) (fun e w2 he => he)
    · -- the catch
      obtain ⟨a, B, sg, pz, τ, G, cls, d, rfl, Jt, gb, us, s0, nn, oo, bb, b, eb1, yes, no⟩ := hx
      have J : Inv X pins τ G sg := Jt.ofTry okX
      have sk : Sky B (X.env :: X.outer) a (Zc cls d) X.env.locals w1.heap := by rw [← hs]; exact s0
      show wpAny (model X.prog X.w) X.A (noteFrame (.ref a) X.env) _ _ _
      refine Sky.land Zc.steady fr0 hf sk fun ha fa ua => ?_
      have Ja : Inv X pins τ G { w1 with heap := ha } := J.landed gb fa.1 (us.trans ua) oo bb
      obtain ⟨oa, va, ea, za, da⟩ := fa.there
      have offFr : ∀ {h : Heap} {o : Obj} {vs : Array Value}, h.FunFrames B (X.env :: X.outer) → h.get? a = some o → o.data = .fields vs → a ∉ frs (X.env :: X.outer) := fun {h o vs} ff e dd hm => by
        obtain ⟨_, o', e', hnf⟩ := ff.mem hm
        rw [e] at e'; cases e'
        exact hnf _ dd
      have nf := offFr fa.2.2.1 ea da
      have nl : a ≠ X.env.locals := fun z => nf (List.mem_filterMap.mpr ⟨X.env, List.mem_cons_self, by rw [hf, z]⟩)
      have ng : a ∉ X.fs := fun hm => by
        obtain ⟨e, he, q⟩ := List.mem_filterMap.mp hm
        exact nf (List.mem_filterMap.mpr ⟨e, List.mem_cons_of_mem _ he, q⟩)
      have Sa := Ja.suite ea da nn nl ng
      refine wpAny_handleBy_cons (codeAny_handlers_test ?_) (by intro q; cases q)
      have ty0 : PySem.W.Looks (model X.prog X.w) ha (typeOf (.ref a)) cls := fun A Q E s k q => wpAny_typeOf_ref (k _ _ ea) (by rw [za.1]; exact q)
      have mt := PySem.W.exm_one (M := model X.prog X.w) (Ja.kIn) ty0 eb1
      have ask : ∀ {Q : Value → Shared → Prop} {E : Value → Shared → Prop}, Q c { w1 with heap := ha } → wpAny (model X.prog X.w) (X.A.mark (some (.ref a))) (eval (.Name x np) X.env) Q E { w1 with heap := ha } := fun {Q E} q => by
        obtain ⟨hg, hdbg, hm | ⟨hm, hv, hnn⟩⟩ := hc
        · exact ld_glob (X := X.suite a ((a, oa) :: (X.pn ++ pins))) Sa hg hm q hdbg
        · exact ld_blt (X := X.suite a ((a, oa) :: (X.pn ++ pins))) Sa hg hm hv q hnn hdbg
      refine ask (mt.here ?_)
      cases b with
      | true =>
        refine codeAny_handlers_suite_as ?_
        refine HandSPX.lands_againZ fa fun hb2 fb ub => ?_
        have Jb : Inv X pins τ G { w1 with heap := hb2 } := J.landed gb fb.1 ((us.trans ua).trans ub) oo bb
        obtain ⟨ob, vb, eb, zb, db⟩ := fb.there
        have Sb := Jb.suite eb db nn nl ng
        refine store_ok (X := X.suite a ((a, ob) :: (X.pn ++ pins))) (v := .ref a) Sb hN hi lc0 rfl (fun w5 Sc => ?_) (.inr hln)
        refine wpAny_mono ((hsu a ob cls d (X.pn ++ pins) zb ⟨_, db⟩).run [] w5 _ G _ Sc (yes rfl a nn)) (fun f w6 hq => ?_) (fun _ _ z => False.elim z)
        -- the rest, the error known
        have keep1 : ∀ {τ6 : L2.St} {G6 : Hp} {w6 : Shared}, Inv (X.suite a ((a, ob) :: (X.pn ++ pins))) [] τ6 G6 w6 → Inv (X.tr ((a, ob) :: (X.pn ++ pins)) X.xe) [] τ6 G6 w6 := fun S =>
          ⟨okX.toTry _ _, S.os, S.bare, S.base, S.loc, S.cell, S.free, S.freeC, S.pin, S.hok, S.len⟩
        have back1 : ∀ {τ6 : L2.St} {G6 : Hp} {w6 : Shared}, Inv (X.tr ((a, ob) :: (X.pn ++ pins)) X.xe) [] τ6 G6 w6 → Inv X pins τ6 G6 w6 := fun S =>
          ⟨okX, S.os, S.bare, S.base, S.loc, S.cell, S.free, S.freeC, fun p hp => S.pin p (List.mem_append_left _ (List.mem_cons_of_mem _ hp)), S.hok, S.len⟩
        have after : ∀ {τ6 : L2.St} {G6 : Hp} {Q : Shared → Prop}, Inv (X.suite a ((a, ob) :: (X.pn ++ pins))) [] τ6 G6 w6 → (∀ w7, Inv (X.tr ((a, ob) :: (X.pn ++ pins)) X.xe) [] (τ6.set i none) G6 w7 → Q w7) →
            wpAny (model X.prog X.w) X.A (do bindName X.env n .none; unbindBehindTheSuite X.env n pos') (fun _ w7 => Q w7) X.xe w6 := fun {τ6 G6 Q} Sd hq =>
          gone_ok (X := X.tr ((a, ob) :: (X.pn ++ pins)) X.xe) (keep1 Sd) hN hi hln hq
        cases f with
        | next =>
          obtain ⟨τ6, G6, Sd, k6⟩ := hq
          refine after Sd fun w7 Jz => ?_
          refine wpAny_mono ((h1 a ob cls d (X.pn ++ pins) zb ⟨_, db⟩).run [] w7 _ G6 D Jz k6) (fun f w8 hq8 => ?_) (fun _ _ z => z)
          cases f with
          | next => obtain ⟨τ8, G8, Sz, k8⟩ := hq8; exact ⟨τ8, G8, back1 Sz, k8⟩
          | brk => obtain ⟨τ8, G8, Sz, k8⟩ := hq8; exact ⟨τ8, G8, back1 Sz, k8⟩
          | cont => obtain ⟨τ8, G8, Sz, k8⟩ := hq8; exact ⟨τ8, G8, back1 Sz, k8⟩
          | ret u => obtain ⟨y8, τ8, G8, Sz, rr8, k8⟩ := hq8; exact ⟨y8, τ8, G8, back1 Sz, rr8, k8⟩
        | brk =>
          obtain ⟨τ6, G6, Sd, k6⟩ := hq
          exact after Sd fun w7 Jz => ⟨_, _, back1 Jz, k6⟩
        | cont =>
          obtain ⟨τ6, G6, Sd, k6⟩ := hq
          exact after Sd fun w7 Jz => ⟨_, _, back1 Jz, k6⟩
        | ret u =>
          obtain ⟨y6, τ6, G6, Sd, rr6, k6⟩ := hq
          exact after Sd fun w7 Jz => ⟨_, _, _, back1 Jz, rr6, k6⟩
      | false =>
        show wpAny _ X.A (handleBy (.ref a) X.env []) _ _ _
        refine wpAny_handleBy_nil ?_
        obtain ⟨k1, k2, k3, oe, vs, T, oT, ts', he, hz, hd, h1, hr⟩ := id fa
        unfold PySem.passOn
        refine wpAny_bind (wpAny_field he hd h1 ?_)
        rw [if_neg (show ¬ ((Value.ref T == Value.none) = true) from by simp)]
        have go : wpAny (model X.prog X.w) X.A (setFlight (.ref a) X.env.frame) (fun _ s4 => wpAny (model X.prog X.w) X.A (throw (.ref a) : Sem Flow) SPr X.xe s4) X.xe { w1 with heap := ha } := by
          rw [hf]
          refine HandSPX.setFlight_upZ fa fun hb2 hh4 ub => wpAny_throw (tk _ _ ?_)
          exact ⟨a, B, sg, pins, τ, G, cls, d, rfl, J, gb, (us.trans ua).trans ub, .inr (.inr (by rw [hs]; exact hh4)), nn, oo, bb, no rfl⟩
        first
          | exact wpAny_bind (wpAny_pure (wpAny_bind go))
          | exact wpAny_bind go
    · cases f with
      | next =>
        obtain ⟨τ, G, Jt, q⟩ := hq
        exact wpAny_execs_nil (h0.run pins w2 τ G D (Jt.ofTry okX) q)
      | brk =>
        obtain ⟨τ, G, Jt, q⟩ := hq
        exact ⟨τ, G, Jt.ofTry okX, q⟩
      | cont =>
        obtain ⟨τ, G, Jt, q⟩ := hq
        exact ⟨τ, G, Jt.ofTry okX, q⟩
      | ret u =>
        obtain ⟨v, τ, G, Jt, r, q⟩ := hq
        exact ⟨v, τ, G, Jt.ofTry okX, r, q⟩
  · cases f with
    | next => exact q
    | brk => exact q
    | cont => exact q
    | ret u => exact q
end
end KX
namespace Gx
open PySem PySem.Spec PyProof.Rows L2
/-- a def's promise where no repr is under way -/
structure FnG (P : Program) (w : World) (K : PySem.W.Frag) (mg : Str → Option Value) (base : Heap) (CX : CXT) (k : Nat) (f : Addr) (fd : FuncData) (ps : List Str) (sp : Sp) : Prop where
  len : ∀ vs H Q E, sp vs H Q E → vs.length = ps.length
  run : ∀ (A : Around) (outer : List Env) (s : Shared) (H : Hp) (args : Args) (us : List Value) (vs : List V) (Q : VK) (E : XK),
    A.guards = some [] → Room k A → Env0 P w K mg base A outer s H → BindsTo s fd args (ps.zip us) → Vals vs us → sp vs H Q E →
      codeAny (model P w) A (.call (.ref f) args) (CR CX outer P w H s Q E) s
theorem FnG.of {P : Program} {w : World} {K : PySem.W.Frag} {mg : Str → Option Value} {base : Heap} {CX : CXT} {k : Nat} {f : Addr} {fd : FuncData} {ps : List Str} {sp : Sp}
    (F : FnOk P w K mg base CX k f fd ps sp) : FnG P w K mg base CX k f fd ps sp :=
  ⟨F.len, fun A outer s H args us vs Q E _ => F.run A outer s H args us vs Q E⟩
section
variable {P : Program} {w : World} {K : PySem.W.Frag} {mg : Str → Option Value} {base : Heap}
/-- its body, walked where no repr is under way -/
theorem FnG.body {CX : CXT} {x qual : Str} {params : Arguments} {body : List Stmt} {scope : Scope} {dvs : List V} {kws : List (Str × V)} {f : Addr} {fd : FuncData} {N ps : List Str} {k : Nat} {sp : Sp}
    (F : FunD K x qual params body scope dvs kws f fd) (S : FnScope N ps scope) (len : ∀ vs H Q E, sp vs H Q E → vs.length = ps.length)
    (hb : ∀ (cdv : Value) (A : Around) (outer : List Env) (s : Shared) (H : Hp) (vs : List V) (Q : VK) (E : XK),
      Room k (A.deeper (envOfC qual scope s.heap.objs.size f cdv)) → (cxOf CX P w K mg base N qual scope f cdv A outer s H E).A.guards = some [] → sp vs H Q E →
      ∃ t, PSs (cxOf CX P w K mg base N qual scope f cdv A outer s H E) body t ∧ t { nx := fun _ H' => Q .non H', rt := Q } (start N vs) H) :
    FnG P w K mg base CX (k + 1) f fd ps sp := by
  obtain ⟨oc, od, dV, kV, doc, pm, an, cdv, ct, osl, rfl, lk, hcd, _, _⟩ := F.ex
  refine ⟨len, ?_⟩
  intro A outer s H args us vs Q E gu hr e0 bind r hsp
  have hl := len _ _ _ _ hsp
  have held : ∀ b o, base.get? b = some o → s.heap.get? b = some o := fun b o e => (e0.bs b o e).1
  have KX : K.In s.heap := e0.mod.kin.keeps held
  have par : ∀ y ∈ ps.zip us, scope.names.lookup y.1 = some .local ∨ (scope.names.lookup y.1 = some .cell ∧ ((cellsFrom (s.heap.objs.size + 1) scope.names []).lookup y.1).isSome = true) := by
    rintro ⟨n, v⟩ hy
    rcases S.par n (List.of_mem_zip hy).1 with q | q
    · left; exact q
    · right; exact ⟨q, PySem.W.cellsFrom_some _ _ _ (.inl q)⟩
  refine codeAny_call_function hr.depth (KX _ _ lk) rfl S.co S.gen rfl
    (PySem.W.codeRec_of KX hcd) (bind _ _ _ _ ?_)
  refine wpAny_newFunctionEnv_cells S.kind par ?_
  intro env he s1 x
  subst he
  refine ⟨(e0.mod.nolimit.keeps held).keeps x.toInCall.keep, codeAny_func ?_⟩
  obtain ⟨t, ht, hq⟩ := hb cdv A outer s H vs Q E (hr.deeper _) gu hsp
  have I := inv_start (CX := CX) (mg := mg) (E := E) S hr.hd e0 hl r x
  refine wpAny_mono (ht.run [] s1 (start N vs) H _ I hq) ?_ (fun e s' hs => hs)
  intro fl s' hs
  cases fl with
  | ret u => obtain ⟨v, σ', H', J, rv, q⟩ := hs; exact ⟨v, H', J.os, J.bare, J.base, J.hok, rv, q⟩
  | next => obtain ⟨σ', H', J, q⟩ := hs; exact ⟨V.non, H', J.os, J.bare, J.base, J.hok, rfl, q⟩
  | brk => obtain ⟨_, _, _, q⟩ := hs; cases q
  | cont => obtain ⟨_, _, _, q⟩ := hs; cases q
end
section
variable {X : Cx} {CX : CXT} {k : Nat} {f : Addr} {fd : FuncData} {ps : List Str} {sp : Sp} {dvs : List V} {ds : List Value} {E : XK} {x : Str} {p pos : Pos} {e : Expr} {es : List Expr} {t : TA}
theorem run_g {pins : List (Addr × Obj)} {σ : L2.St} {H : Hp} {s : Shared} {Q : VK} {us : List Value} {vs : List V}
    (gu : X.A.guards = some []) (F : FnG X.prog X.w X.K X.mg X.base CX k f fd ps sp) (hr : Room k X.A) (hb : Binds X.K fd ps ds) (hd : Vals dvs ds) (hx : Passes CX X E)
    (I : Inv X pins σ H s) (r : Vals vs us) (h : sp (vs ++ dvs) H Q E) :
    wpAny (model X.prog X.w) X.A (call (.ref f) us) (EP X pins σ Q) X.xe s := by
  have all := r.append hd
  have hl : (us ++ ds).length = ps.length := all.length ▸ F.len _ _ _ _ h
  have go := F.run X.A X.stack s H ⟨us, []⟩ (us ++ ds) (vs ++ dvs) Q E gu hr I.env0 (hb s us I.kIn hl) all h
  refine wpAny_call (codeAny_mono go ?_)
  intro r s' hq
  match r, hq with
  | .error e, hq => exact hx pins σ H s e s' I hq
  | .ok (.ret u), hq => exact I.after hq
  | .ok .next, hq => exact hq.elim
  | .ok .brk, hq => exact hq.elim
  | .ok .cont, hq => exact hq.elim
/-- f(e, ..) -/
theorem pe_callG (gu : X.A.guards = some []) (F : FnG X.prog X.w X.K X.mg X.base CX k f fd ps sp) (hr : Room k X.A)
    (hg : Gl X x) (hm : X.mg x = some (.ref f)) (hk : PySem.W.keepIn X.K (.ref f) = true) (hb : Binds X.K fd ps ds) (hd : Vals dvs ds) (hx : Passes CX X E) (ha : PA X (e :: es) t)
    (hdb : (x == ("__debug__" : Str)) = false := by decide)
    (he : starEach (e :: es) X.env = (false, eval e X.env) :: starEach es X.env := by rfl)
    (hpl : (backTo pos (starEach es X.env)).any (·.1) = false := by rfl) :
    PE X (.Call (.Name x p) (e :: es) [] pos) (tCall sp dvs E t) := by
  constructor
  intro pins s σ H Q I h
  refine wpAny_Call_Name_kw (ld_glob I hg hm ?_ hdb)
  refine PySem.W.callWith_K (h₀ := X.base) I.ok.mod.kin hk
    (thn (ha.run pos pins s σ H _ I h) ?_) he hpl
  rintro us s1 ⟨vs, H1, I1, r, q⟩
  exact ⟨I1.kIn, run_g gu F hr hb hd hx I1 r q⟩
/-- repr of data: None, bools, ints, texts, lists, tuples -/
def rRepr (K : PySem.W.Frag) : List V → Hp → VK → Prop := fun xs H Q =>
  ∃ (a : Addr) (d : PyData), xs = [.ref a] ∧ Dp K H (.ref a) d ∧ d.showable = true ∧ d.hasDict = false ∧ d.depth ≤ 60 ∧ d.shown.length ≤ sizeLine ∧ Q (.str d.shown) H
theorem call_reprD (gu : X.A.guards = some []) (hu : X.A.units + 64 < cLine) : CallR X (.builtin "repr") (rRepr X.K) := by
  rintro pins s σ H xs us Q I r ⟨a, d, rfl, hd, sh, nd, dp, sz, q⟩
  obtain ⟨u, rfl, ru⟩ := r.one
  cases (show u = Value.ref a from ru)
  obtain ⟨as, rd⟩ := Dp.reads I d _ _ hd rfl
  refine repr_of_reads' rd sh (PyData.noDict_hsm nd) gu (by omega) (fun _ _ e => e) ?_ sz
  intro h' u tk kp
  exact ⟨.str d.shown, H, I.kept kp, ⟨u, rfl⟩, q⟩
end
/-- the law's call -/
theorem law_callG {P : Program} {w : World} {K : PySem.W.Frag} {mg mb : Str → Option Value} {CX : CXT} {k : Nat} {fa a : Addr} {fd : FuncData} {x : Str} {sp : Sp} {s₁ : Shared} {vs : List Value} {ns : List Int}
    (KX : K.In s₁.heap) (hns : s₁.heap.Ns mainGlobals mg) (hb : s₁.heap.Ns builtinsNs mb) (hbb : ∀ x : Str, x ≠ "__name__" → mb x = bootBuiltins x) (hlim : s₁.heap.NoLimit) (hg : s₁.gens = #[])
    (ha : s₁.heap.get? a = some { cls := .type "list", data := .seq vs.toArray })
    (hi : IntsAre vs ns) (hl : ns.length ≤ sizeLine) (hr : Room k callerA)
    (F : ∀ base : Heap, K.In base → base.Ns mainGlobals mg → FnG P w K mg base CX k fa fd [x] sp)
    (hbind : ∀ (s : Shared) (u : Value), BindsTo s fd ⟨[u], []⟩ [(x, u)])
    (hsp : ∀ H : Hp, Only H → SqL K H a (ns.map V.int) → sp [.ref a] H (fun v _ => v = .bl true) fun _ _ _ => False)
    (hCX : ∀ H e s', CX [] H s₁ (fun _ _ _ => False) e s' → False) :
    codeAny (model P w) callerA (.call (.ref fa) ⟨[.ref a], []⟩)
      (fun r s' => r = .ok (.ret (.bool true)) ∧ OldK s₁.heap s'.heap ∧ s'.os = s₁.os ∧ AllBare s'.gens) s₁ := by
  have rv := vals_ints hi
  have go : ∀ H : Hp, Only H → SqL K H a (ns.map V.int) → HOk P w H s₁.heap → (∀ b, H b ≠ none → b = a) → (H a ≠ none → K.lookup a = none) →
      codeAny (model P w) callerA (.call (.ref fa) ⟨[.ref a], []⟩)
        (fun r s' => r = .ok (.ret (.bool true)) ∧ OldK s₁.heap s'.heap ∧ s'.os = s₁.os ∧ AllBare s'.gens) s₁ := by
    intro H hO hS hok only hK
    have isA : ∀ {b : Addr} {u : HO}, H b = some u → b = a := fun {b u} q => only b (by rw [q]; exact Option.some_ne_none u)
    have noDict : ∀ {b : Addr} {o : Obj} {es : Array DictEntry} {ep : Nat}, s₁.heap.get? b = some o → o.data = .dict es ep → H b = none := by
      intro b o es ep e d
      cases q : H b with
      | none => rfl
      | some u =>
        cases isA q
        rw [ha] at e
        cases e
        cases (show Data.seq vs.toArray _ = Data.dict es ep from d)
    have ns' : ∀ {b : Addr} {m : Str → Option Value}, s₁.heap.Ns b m → (hidT s₁.heap H).Ns b m := by
      rintro b m ⟨o, es, ep, e, d, r⟩
      exact ⟨o, es, ep, hidT_get e (noDict e d), d, r⟩
    have kin : K.In (hidT s₁.heap H) := by
      intro b o e
      refine hidT_get (KX b o e) ?_
      cases q : H b with
      | none => rfl
      | some u =>
        cases isA q
        rw [hK (by rw [q]; exact Option.some_ne_none u)] at e
        cases e
    obtain ⟨mc, c1, c2⟩ := hlim
    have md : Mod K mg (hidT s₁.heap H) := ⟨kin, ns' hns, ⟨mb, ns' hb, hbb⟩, ⟨mc, ns' c1, c2⟩⟩
    have none_in : ∀ b : Addr, ¬ b ∈ ([] : List Addr) := fun b z => by cases z
    have e0 : Env0 P w K mg (hidT s₁.heap H) callerA [] s₁ H :=
      ⟨rfl, md, fun b o e => of_hidT e, Nat.le_of_eq (hidT_size _ _), trivial, fun b z => (none_in b z).elim, hok, .of_eq hg⟩
    have run := (F _ kin (ns' hns)).run callerA [] s₁ H ⟨[.ref a], []⟩ [.ref a] [.ref a] _ _ rfl hr e0 (hbind s₁ (.ref a)) (.cons rfl .nil) (hsp H hO hS)
    refine codeAny_mono run ?_
    intro r s' h
    match r, h with
    | .error e, h => exact (hCX H e s' h).elim
    | .ok .next, h => exact h.elim
    | .ok .brk, h => exact h.elim
    | .ok .cont, h => exact h.elim
    | .ok (.ret u), ⟨v, H', os, bare, un, hok', r', q⟩ =>
      cases (show v = .bl true from q)
      cases (show u = Value.bool true from r')
      refine ⟨rfl, OldK.of_keep ?_, os, bare⟩
      intro b o e
      cases hb : H b with
      | none => exact un.keep b o e hb (none_in b) (none_in b)
      | some u =>
        rcases hO b with z | ⟨ob, xs, z⟩
        · rw [hb] at z
          cases z
        · obtain ⟨e1, _⟩ := hok b _ z
          obtain ⟨e2, _⟩ := hok' b _ (un.frzs b ob _ z)
          rw [e] at e1
          cases e1
          exact e2
  cases hk : K.lookup a with
  | some o =>
    have e := (KX a o hk).symm.trans ha
    cases e
    have sq : SqL K (fun _ => none) a (ns.map V.int) :=
      .inr ⟨_, vs.toArray, _, hk, rfl, rfl, rfl, by rw [List.size_toArray, hi.length]; exact hl, by simpa using rv⟩
    exact go (fun _ => none) (fun _ => .inl rfl) sq (fun b u z => by cases z) (fun b z => (z rfl).elim) (fun z => (z rfl).elim)
  | none =>
    let L : HO := .frz { cls := .type "list", data := .seq vs.toArray } (.lst (ns.map V.int))
    have at1 : ∀ {b}, b = a → (fun b => if b = a then some L else none : Hp) b = some L := fun h => if_pos h
    have at0 : ∀ {b}, ¬ b = a → (fun b => if b = a then some L else none : Hp) b = none := fun h => if_neg h
    refine go (fun b => if b = a then some L else none) ?_ (.inl (.inr ⟨_, at1 rfl⟩)) ?_ ?_ (fun _ => hk)
    · intro b
      by_cases h : b = a
      · exact .inr ⟨_, _, at1 h⟩
      · exact .inl (at0 h)
    · intro b u z
      by_cases h : b = a
      · cases (at1 h).symm.trans z
        subst h
        exact ⟨ha, by rw [List.length_map]; exact hl, vs, _, rv, ha⟩
      · cases (at0 h).symm.trans z
    · intro b z
      by_cases h : b = a
      · exact h
      · exact (z (at0 h)).elim
/-- a law's end, over facts of the head -/
theorem walk_G {l : PySem.W.OpenLaw} {n k : Nat} {q : Program} {loose : List Str} {XP : (Str → Option Value) → Heap → Prop} {YP : World → Heap → Prop} {d : DefRec} {CX : CXT} {x : Str}
    (hn : l.most = some n) (hn2 : n ≤ sizeLine) (hdf : d.params.defaults = []) (hr : Room k callerA)
    (F : ∀ (w : World) (mg : Str → Option Value) (fa : Addr) (h : Heap), YP w h → h.Ns mainGlobals mg → mg d.name = some (.ref fa) →
      ∃ (K : PySem.W.Frag) (fd : FuncData) (sp : Sp), K.In h ∧ (∀ (s : Shared) (u : Value), BindsTo s fd ⟨[u], []⟩ [(x, u)]) ∧
        (∀ (H : Hp) (a : Addr) (ns : List Int), ns.length ≤ n → Only H → SqL K H a (ns.map V.int) → sp [.ref a] H (fun v _ => v = .bl true) fun _ _ _ => False) ∧
        ∀ base : Heap, K.In base → base.Ns mainGlobals mg → FnG l.prog w K mg base CX k fa fd [x] sp)
    (hCX : ∀ (H : Hp) (s : Shared) (e : Value) (s' : Shared), CX [] H s (fun _ _ _ => False) e s' → False) :
    PySem.W.WalkO q loose XP YP l.row.toRowW d [] (fun f vs => PySem.call f vs) := by
  refine Att.attach_call hn hdf ?_
  intro w s₀ s₁ mg mb fa o pm cd doc a vs ns G Y ho hd hcd hmg hobj hints hlen hg
  obtain ⟨K, fd, sp, KX, bind, hsp, hF⟩ := F w mg fa _ Y G.T.g hmg
  exact law_callG KX G.T.g G.T.b G.T.builtins G.T.nolimit hg hobj hints (Nat.le_trans hlen hn2) hr hF bind
    (fun H hO hS => hsp H a ns hlen hO hS) (fun H e s' => hCX H s₁ e s')
end Gx
/-! what is asked of a kept error: isinstance, a field; repr of plain values -/
namespace KX
open PySem PySem.Spec PyProof.Rows L2
theorem findObj_any {K : PySem.W.Frag} {C : Addr} {od : Option Obj} {name : Str} {a g : Value} (hc : (PySem.W.clsIn K C).isSome = true) (ha : PySem.W.findIn K (.ref C) name = some (some a))
    (hg : PySem.W.specialIn K a "__get__" = some (some g)) (ht : PySem.W.takesIn K a = some true) : PySem.W.findObj K C od name = some (.bind g a) := by
  cases q : PySem.W.clsIn K C with
  | none => rw [q] at hc; cases hc
  | some cd => simp [PySem.W.findObj, q, ha, hg, ht]
/-- x.__class__, x of an own error class, with a dict or without -/
theorem class_of {prog : Program} {w : World} {A : Around} {E : Value → Shared → Prop} {s : Shared} {K : PySem.W.Frag} {x D : Addr} {ox : Obj} {od : Option Obj} {Q : Option Value → Shared → Prop}
    (c : ExcC K D) (kin : K.In s.heap) (I : PySem.W.InstAt s.heap x ox D od) (h : Q (some (.ref D)) { s with toks := s.toks + 1 }) : wpAny (model prog w) A (getAttr? (.ref x) "__class__") Q E s := by
  have some_ : (PySem.W.clsIn K D).isSome = true := by
    have z := c.hd
    unfold PySem.W.hasDictIn at z
    cases q : PySem.W.clsIn K D with
    | none => rw [q] at z; cases z
    | some _ => rfl
  have found := findObj_any (od := od) some_ c.ha c.hn c.ht
  obtain ⟨hp, g, d, t, os⟩ := s
  have ty := I.type (M := model prog w)
  have own := PySem.W.looks_findIn (M := model prog w) kin c.hg
  have alt := PySem.W.looks_findIn (M := model prog w) kin c.hk
  have it := PySem.W.looks_find (M := model prog w) kin I found
  have exc : PySem.W.Looks (model prog w) hp (isInstance (.ref x) (.type "BaseException")) true := ty.andThen (PySem.W.looks_subIn kin c.hs)
  have n1 : (Value.builtin "BaseException.__getattribute__" == Value.builtin "object.__getattribute__") = false := by decide +kernel
  have n2 : (onTheHeap (Value.ref D) && Value.builtin "BaseException.__getattribute__" == Value.builtin "object.__getattribute__") = false := by rw [n1]; rfl
  have n3 : (false && onTheHeap (Value.builtin "BaseException.__getattribute__")) = false := rfl
  unfold getAttr? getAttrBy? getAttrBy
  refine wpAny_bind (wpAny_mkText (wpAny_bind (wpAny_attempt (wpAny_holding (wpAny_bind (ty.at (wpAny_bind (own.at ?_))))))))
  show wpAny _ _ (if (onTheHeap (Value.ref D) && Value.builtin "BaseException.__getattribute__" == Value.builtin "object.__getattribute__") = true then _ else _) _ _ _
  rw [n2, if_neg Bool.false_ne_true]
  unfold getAttrByItsOwn hookBefore
  refine wpAny_bind ?_
  rw [if_pos (show onTheHeap (Value.ref D) = true from rfl)]
  refine alt.at (wpAny_bind (wpAny_attempt (wpAny_holding ?_)))
  unfold callGetattribute
  rw [n3, if_neg Bool.false_ne_true]
  unfold boundAndCalled
  rw [PySem.F.excAttr_ValueError.ga.bind (.ref x)]
  refine wpAny_bind (wpAny_pure ?_)
  show wpAny _ _ (call (.builtin "BaseException.__getattribute__") [.ref x, .str "__class__" t]) _ _ _
  refine wpAny_call (codeAny_call_builtin PySem.F.excAttr_ValueError.ga.plain PySem.F.entry_bexc_ga ?_)
  refine @PySem.W.check_slot (model prog w) _ _ ⟨hp, g, d, t + 1, os⟩ "BaseException.__getattribute__" "BaseException" "__getattribute__" (.ref x) [.str "__class__" t] [] _ (by decide +kernel) (by decide +kernel) exc (PySem.F.args_bexc_ga (.ref x) (.str "__class__" t)) ?_
  unfold Builtin.«object.__getattribute__»
  refine wpAny_bind (wpAny_of_eq (a := ((Value.ref x : Value), [Value.str "__class__" t])) (by first | rfl | (simp only [slotArgs]; rfl)) ?_)
  refine wpAny_bind (wpAny_pure (wpAny_bind (ty.at (wpAny_bind (it.at ?_)))))
  show wpAny _ _ (holding [Value.builtin "object.__class__"] (call (.builtin "getset_descriptor.__get__") [.builtin "object.__class__", .ref x, .ref D]) >>= ret) _ _ _
  refine wpAny_bind (wpAny_holding (wpAny_call (PySem.W.class_get (s := ⟨hp, g, d, t + 1, os⟩) (ox := ox) (od := od) kin I c.hm (wpAny_pure ?_))))
  show wpAny _ _ (handedOut (.ref D)) _ _ _
  rw [PySem.W.handedOut_of (v := .ref D) rfl]
  first
    | exact wpAny_pure (wpAny_pure h)
    | exact wpAny_pure h
    | exact wpAny_pure (wpAny_bind (wpAny_pure (wpAny_pure h)))

theorem kit_kept {K : PySem.W.Frag} {x D : Addr} {ox : Obj} {od : Option Obj} (c : ExcC K D) : PySem.W.KitX K (.ref x) (.ref D) (fun h => PySem.W.InstAt h x ox D od) where
  ty := fun _ _ _ I => I.type
  it := fun _ _ kin _ => by
    have z := c.hd
    unfold PySem.W.hasDictIn at z
    cases q : PySem.W.clsIn K D with
    | none => rw [q] at z; cases z
    | some cd =>
      unfold PySem.W.clsIn at q
      split at q
      · rename_i ho
        intro _ _ _ _ kp k
        unfold isType loadHead
        exact wpAny_bind (wpAny_loadPart (kp _ _ (kin _ _ ho)) (wpAny_pure k))
      · cases q
  ne := fun h tp dd its n sl kin htp => by
    cases e : (Value.ref D == Value.ref tp) with
    | false => rfl
    | true =>
      have e2 : D = tp := Value.ref.inj (beq_iff_eq.mp e)
      have z := c.hd
      unfold PySem.W.hasDictIn at z
      cases q : PySem.W.clsIn K D with
      | none => rw [q] at z; cases z
      | some cd =>
        unfold PySem.W.clsIn at q
        split at q
        · rename_i ho
          rw [e2] at ho
          cases (kin _ _ ho).symm.trans htp
        · cases q
  ca := fun kin I k => class_of c kin I k
/-- isinstance(e, C), e the kept error -/
def rIsK (K : PySem.W.Frag) (a : Addr) (cls : Value) (d : Option Addr) : List V → Hp → VK → Prop := fun xs H Q =>
  ∃ (c : V) (cv : Value) (b : Bool) (D dd : Addr) (fs : List (Str × V)), xs = [.ref a, c] ∧ cls = .ref D ∧ d = some dd ∧ ExcC K D ∧ H dd = some (.xd fs) ∧ (∀ u, RelV c u → u = cv) ∧ PySem.W.kitOne K (.ref D) cv = some b ∧ Q (.bl b) H
theorem call_isK {X : Cx} {a : Addr} {oe : Obj} {cls : Value} {d : Option Addr} {pn : List (Addr × Obj)} {xe : Value → Shared → Prop} (hz : Zc cls d oe) (hf : ∃ vs, oe.data = .fields vs) :
    CallR (X.tr ((a, oe) :: pn) xe) (.builtin "isinstance") (rIsK X.K a cls d) := by
  intro pins s σ H xs us Q I r h
  obtain ⟨c, cv, b, D, dd, fs, rfl, rfl, rfl, ec, ed, hcv, e, q⟩ := h
  cases r with
  | cons rx rr =>
    cases rr with
    | cons rt rr =>
      cases rr
      cases rx
      have e2 := hcv _ rt
      subst e2
      obtain ⟨hget, _⟩ := I.pin (a, oe) (List.mem_append.mpr (.inl List.mem_cons_self))
      obtain ⟨vs, hv⟩ := hf
      obtain ⟨mA, hns, _⟩ := (show ObjOk X.prog X.w H s.heap dd (.xd fs) from I.hok dd _ ed)
      obtain ⟨od, ho, _⟩ := lookIn_ns hns
      have J : PySem.W.InstAt s.heap a oe D (some od) := ⟨hget, hz.1, by unfold PySem.W.notCls; rw [hv] <;> rfl, by rw [hz.2]; exact ho⟩
      exact PySem.W.kia_one (kit_kept (ox := oe) (od := some od) ec) I.kIn J e (fun z => nomatch z) fun tk => ⟨.bl b, H, I.kept (t' := tk) fun _ _ z => z, rfl, q⟩
/-- e.f, e the kept error -/
def tXk (K : PySem.W.Frag) (a : Addr) (cls : Value) (d : Option Addr) (f : Str) (te : TE) : TE := fun σ H Q => te σ H fun x H1 => x = .ref a ∧ ∃ (C dd : Addr) (fs : List (Str × V)) (v : V),
  cls = .ref C ∧ d = some dd ∧ XfC K C ∧ PySem.W.findIn K (.ref C) f = some none ∧ H1 dd = some (.xd fs) ∧ fs.lookup f = some v ∧ Q v H1
theorem pe_xk {X : Cx} {a : Addr} {oe : Obj} {cls : Value} {d : Option Addr} {pn : List (Addr × Obj)} {xe : Value → Shared → Prop} {e : Expr} {te : TE} {pos : Pos} {n : Str}
    (hz : Zc cls d oe) (hf : ∃ vs, oe.data = .fields vs) (he : PE (X.tr ((a, oe) :: pn) xe) e te) (hb : attributeBase e n X.env (eval e X.env) = eval e X.env := by rfl) :
    PE (X.tr ((a, oe) :: pn) xe) (.Attribute e n pos) (tXk X.K a cls d n te) := by
  refine ⟨fun pins s σ H Q I h => ?_⟩
  refine attr_of hb (thn (he.run pins s σ H _ I h) fun u s1 ⟨x, H1, I1, rx, ex, C, dd, fs, v, ec, ed, T, hno, ea, l, q⟩ => ?_)
  subst ex
  subst ec
  subst ed
  cases (show u = Value.ref a from rx)
  obtain ⟨ha, _⟩ := I1.pin (a, oe) (List.mem_append_left _ List.mem_cons_self)
  obtain ⟨vs, hd⟩ := hf
  obtain ⟨mA, hns, hr⟩ := (show ObjOk X.prog X.w H1 s1.heap dd (.xd fs) from I1.hok dd _ ea)
  obtain ⟨od, ho, hl⟩ := lookIn_ns hns
  obtain ⟨u, hu, ru⟩ := RelO.some_of (v := v) (o := mA n) (by rw [← l]; exact hr n)
  have J : PySem.W.InstAt s1.heap a oe C (some od) := ⟨ha, hz.1, by unfold PySem.W.notCls; rw [hd] <;> rfl, by rw [hz.2]; exact ho⟩
  exact HandSPX.exc_get I1.kIn J T.ga T.gg T.exC (PySem.W.findObj_own T.hdC hno rfl (by rw [hl, hu])) (handed_of ru) ⟨v, H1, I1.tok _, ru, q⟩
end KX
/-! repr of a plain value or a container -/
namespace KX
open PySem PySem.Spec PyProof.Rows L2 Gx
/-- the text of a value's repr -/
inductive Rp (K : PySem.W.Frag) (H : Hp) : V → Str → Prop
  | non : Rp K H .non "None"
  | bl (b : Bool) : Rp K H (.bl b) (if b then ("True" : Str) else "False")
  | int (i : Int) : i.natAbs.log2 < 1920 → Rp K H (.int i) (toString i : String)
  | str (x : Str) : (reprText x).length ≤ sizeLine → Rp K H (.str x) (reprText x)
  | obj {a : Addr} {d : PyData} : Dp K H (.ref a) d → d.showable = true → d.hasDict = false → d.depth ≤ 60 → d.shown.length ≤ sizeLine → Rp K H (.ref a) d.shown
  | dict {a : Addr} : H a = some (.dK []) → Rp K H (.ref a) (PyData.dict []).shown
def rReprV (K : PySem.W.Frag) : List V → Hp → VK → Prop := fun xs H Q => ∃ x t, xs = [x] ∧ Rp K H x t ∧ Q (.str t) H
theorem call_reprV {X : Cx} (gu : X.A.guards = some []) (hu : X.A.units + 64 < cLine) : CallR X (.builtin "repr") (rReprV X.K) := by
  rintro pins s σ H xs us Q I r ⟨x, t, rfl, rp, q⟩
  obtain ⟨u, rfl, ru⟩ := r.one
  cases rp with
  | non =>
    cases (show u = Value.none from ru)
    exact PySem.P.repr_of_none ⟨.str _, H, I.tok _, ⟨_, rfl⟩, q⟩
  | bl b =>
    cases (show u = Value.bool b from ru)
    exact PySem.P.repr_of_bool ⟨.str _, H, I.tok _, ⟨_, rfl⟩, q⟩
  | int i hz =>
    obtain ⟨t, rfl⟩ := ru
    exact PySem.P.repr_of_int hz ⟨.str _, H, I.tok _, ⟨_, rfl⟩, q⟩
  | str x hz =>
    obtain ⟨t, rfl⟩ := ru
    exact PySem.P.repr_of_str ⟨.str _, H, I.tok _, ⟨_, rfl⟩, q⟩ hz
  | @obj a d hd sh nd dp sz =>
    cases (show u = Value.ref a from ru)
    obtain ⟨as, rd⟩ := Dp.reads I d _ _ hd rfl
    refine repr_of_reads' rd sh (PyData.noDict_hsm nd) gu (by omega) (fun _ _ e => e) ?_ sz
    intro h' u tk kp
    exact ⟨.str d.shown, H, I.kept kp, ⟨u, rfl⟩, q⟩
  | @dict a ha =>
    cases (show u = Value.ref a from ru)
    obtain ⟨_, nsys, vs, kv, o, es, ep, ho, ⟨hc, _⟩, hd, _, he, _⟩ := (show ObjOk X.prog X.w H s.heap a (.dK []) from I.hok a _ ha)
    cases kv
    have e0 : es.toList = [] := by
      cases q0 : es.toList with
      | nil => rfl
      | cons e r => rw [q0] at he; cases he
    have rd : Reads s.heap (.ref a) (.dict []) (a :: [] ++ []) := .dict ho hc hd (by rw [e0]; exact .nil) (by rw [e0]; exact .nil)
    have d1 : (PyData.dict []).depth ≤ 2 := by decide
    refine repr_of_reads' rd (by decide) (fun _ z => ?_) gu (Nat.lt_of_le_of_lt (Nat.add_le_add_left (show (PyData.dict []).depth + 1 ≤ 64 by omega) _) hu) (fun _ _ e => e) ?_ (by decide +kernel)
    · have z2 : sysModules = a := by simpa using z
      rw [z2] at nsys
      simp at nsys
    · intro h' u tk kp
      exact ⟨.str _, H, I.kept kp, ⟨u, rfl⟩, q⟩
end KX
/-! a list of anything against the empty list -/
namespace KX
open PySem PySem.Spec PyProof.Rows L2
def rNeE (K : PySem.W.Frag) : R2 := fun x y H Q => ∃ (a b : Addr) (xs : List V), x = .ref a ∧ y = .ref b ∧ SqL K H a xs ∧ SqL K H b [] ∧ Q (.bl (!decide (xs = []))) H
def rEqE (K : PySem.W.Frag) : R2 := fun x y H Q => ∃ (a b : Addr) (xs : List V), x = .ref a ∧ y = .ref b ∧ SqL K H a xs ∧ SqL K H b [] ∧ Q (.bl (decide (xs = []))) H
section
variable {X : Cx}
theorem op_neE (hu : X.A.units + 64 < cLine) : OpR X (compareOp .NotEq) (rNeE X.K) := by
  intro pins s σ H x y v u Q I rx ry h
  obtain ⟨a, b, xs, rfl, rfl, ha, hb, q⟩ := h
  cases (show v = Value.ref a from rx)
  cases (show u = Value.ref b from ry)
  obtain ⟨us, r1, p1, _⟩ := I.list ha
  obtain ⟨ws, r2, p2, _⟩ := I.list hb
  cases r2
  cases xs with
  | nil =>
    cases r1
    refine SeqAt.RcNeAt.lists (e := fun _ => true) p1.isList p2.isList rfl (by omega) (fun j h1 _ => absurd h1 (Nat.not_lt_zero j)) X.prog X.w _ _ ?_
    exact ⟨.bl _, H, I, rfl, q⟩
  | cons z zs =>
    cases r1 with
    | @cons _ u0 _ ur ra rw' =>
      refine SeqAt.RcNeAt.lists_lengths p1.isList p2.isList (by simp) (by omega) X.prog X.w _ _ ?_
      exact ⟨.bl _, H, I, rfl, q⟩
theorem op_eqE (hu : X.A.units + 64 < cLine) : OpR X (compareOp .Eq) (rEqE X.K) := by
  intro pins s σ H x y v u Q I rx ry h
  obtain ⟨a, b, xs, rfl, rfl, ha, hb, q⟩ := h
  cases (show v = Value.ref a from rx)
  cases (show u = Value.ref b from ry)
  obtain ⟨us, r1, p1, _⟩ := I.list ha
  obtain ⟨ws, r2, p2, _⟩ := I.list hb
  cases r2
  cases xs with
  | nil =>
    cases r1
    refine SeqAt.RcAt.lists (e := fun _ => true) p1.isList p2.isList rfl (by omega) (fun j h1 _ => absurd h1 (Nat.not_lt_zero j)) X.prog X.w _ _ ?_
    exact ⟨.bl _, H, I, rfl, q⟩
  | cons z zs =>
    cases r1 with
    | @cons _ u0 _ ur ra rw' =>
      refine SeqAt.RcAt.lists_lengths p1.isList p2.isList (by simp) (by omega) X.prog X.w _ _ ?_
      exact ⟨.bl _, H, I, rfl, q⟩
end
end KX
/-! what was heard: pairs of texts; a list of them; a def that makes lambdas; keywords -/
namespace KX
open PySem PySem.Spec PyProof.Rows L2 LamX Gx
/-- the slots at a raise are as many as the frame's names -/
theorem takes_len {X : Cx} {W : WX} (t : Takes X W) : Takes X (fun c d σ H => σ.length = X.N.length → W c d σ H) := fun u s' ⟨a, B, sI, pins, σ, H, cls, d, e, I, nb, up, sky, na, os, ag, w⟩ =>
  t u s' ⟨a, B, sI, pins, σ, H, cls, d, e, I, nb, up, sky, na, os, ag, w I.len⟩
theorem pss_imp {X : Cx} {b : List Stmt} {t t' : TS} (h : PSs X b t) (k : ∀ D σ H, t' D σ H → t D σ H) : PSs X b t' := ⟨fun pins s σ H D I q => h.run pins s σ H D I (k _ _ _ q)⟩
theorem pe_mono {X : Cx} {e : Expr} {t : TE} (h : PE X e t) : PE X e (fun σ H Q => ∃ Qn : VK, t σ H Qn ∧ ∀ v H', Qn v H' → Q v H') :=
  ⟨fun pins s σ H Q I ⟨Qn, h1, h2⟩ => wpAny_mono (h.run pins s σ H Qn I h1) (fun u s' ⟨v, H', J, r, q⟩ => ⟨v, H', J, r, h2 _ _ q⟩) (fun _ _ z => z)⟩
theorem len4 {σ : L2.St} (h : σ.length = 4) : ∃ a b c d, σ = [a, b, c, d] := by
  match σ, h with
  | [a, b, c, d], _ => exact ⟨a, b, c, d, rfl⟩
theorem new_same {H : Hp} {p : Addr} (n : H p = none) (o : HO) : Same H (upd H p o) := fun b u e => by rw [upd_ne (ne_of_none e n)]; exact e
/-- None, or a new pair of texts -/
inductive Val (H : Hp) : V → PyData → Prop
  | non : Val H .non .none
  | pair {t : Addr} {s u : Str} : H t = some (.tup [.str s, .str u]) → Val H (.ref t) (.tuple [.str s, .str u])
theorem Val.dp {K : PySem.W.Frag} {H : Hp} {v : V} {D : PyData} (h : Val H v D) : Dp K H v D := by
  cases h with
  | non => exact .non
  | pair h => exact .tup (SqT.of h) (.cons (.str _) (.cons (.str _) .nil))
theorem Val.of {H H' : Hp} {v : V} {D : PyData} (h : Val H v D) (s : ∀ b xs, H b = some (.tup xs) → H' b = some (.tup xs)) : Val H' v D := by
  cases h with
  | non => exact .non
  | pair h => exact .pair (s _ _ h)
theorem Val.ext {H H' : Hp} {v : V} {D : PyData} (h : Val H v D) (s : ExtN H H') : Val H' v D := h.of fun b xs e => s b _ e (fun ps z => by cases z)
theorem Val.same {H H' : Hp} {v : V} {D : PyData} (h : Val H v D) (s : Same H H') : Val H' v D := h.of fun b xs e => s b _ e
theorem ExtN.same {H H1 H2 : Hp} (e : ExtN H H1) (s : Same H1 H2) : ExtN H H2 := fun b o h n => s b o (e b o h n)
theorem tab_same {H H' : Hp} {P : Addr} {q : Str} (t : TabS H P q) (s : Same H H') : TabS H' P q := t.ext fun b o e => s b o e
theorem tab_lst {H : Hp} {P l : Addr} {q : Str} {xs ys : List V} (t : TabS H P q) (hl : H l = some (.lst xs)) : TabS (upd H l (.lst ys)) P q := by
  obtain ⟨ps, h1, h2, h3⟩ := t
  have np : P ≠ l := fun z => by rw [z, hl] at h1; cases h1
  refine ⟨ps, by rw [upd_ne np]; exact h1, h2, fun pos cv hc => ?_⟩
  obtain ⟨c, e1, e2⟩ := h3 pos cv hc
  have nc : c ≠ l := fun z => by
    rw [z, hl] at e2
    unfold CodeO at e2
    cases e2
  exact ⟨c, e1, by rw [upd_ne nc]; exact e2⟩
/-- a list at l that is filled with such values -/
structure Stt (H0 H : Hp) (P : Addr) (q : Str) (l : Addr) (vs : List V) (Ds : List PyData) : Prop where
  ext : ExtN H0 H
  tab : TabS H P q
  at_ : H l = some (.lst vs)
  vals : Paired (Val H) vs Ds
  fresh : ∀ o, H0 l = some o → ∃ ps, o = .tbl ps
theorem vals_of {H H' : Hp} (s : ∀ b xs, H b = some (.tup xs) → H' b = some (.tup xs)) {vs : List V} {Ds : List PyData} (h : Paired (Val H) vs Ds) : Paired (Val H') vs Ds := by
  induction h with
  | nil => exact .nil
  | cons a b ih => exact .cons (a.of s) ih
theorem paired_snoc {α β : Type} {R : α → β → Prop} {xs : List α} {ys : List β} {x : α} {y : β} (h : Paired R xs ys) (r : R x y) : Paired R (xs ++ [x]) (ys ++ [y]) := by
  induction h with
  | nil => exact .cons r .nil
  | cons a b ih => exact .cons a ih
/-- a lambda is made, heard, and what was heard is put behind -/
theorem Stt.step {H0 H H1 H2 : Hp} {P l : Addr} {q : Str} {vs : List V} {Ds : List PyData} {v : V} {D : PyData} (S : Stt H0 H P q l vs Ds) (e : ExtN H H1) (t : TabS H1 P q) (s : Same H1 H2) (r : Val H2 v D) :
    H2 l = some (.lst vs) ∧ Stt H0 (upd H2 l (.lst (vs ++ [v]))) P q l (vs ++ [v]) (Ds ++ [D]) := by
  have l2 : H2 l = some (.lst vs) := s _ _ (e _ _ S.at_ (fun ps z => by cases z))
  have ut : ∀ b xs, H2 b = some (.tup xs) → upd H2 l (.lst (vs ++ [v])) b = some (.tup xs) := fun b xs h => by
    rw [upd_ne (fun z => by rw [z, l2] at h; cases h)]
    exact h
  refine ⟨l2, fun b o h nt => ?_, tab_lst (tab_same t s) l2, upd_same, ?_, S.fresh⟩
  · have nb : b ≠ l := fun z => by
      rw [z] at h
      obtain ⟨ps, hp⟩ := S.fresh o h
      exact nt ps hp
    rw [upd_ne nb]
    exact s _ _ (e _ _ (S.ext _ _ h nt) nt)
  · refine paired_snoc (vals_of (fun b xs h => ut b xs (s _ _ (e _ _ h (fun ps z => by cases z)))) S.vals) (r.of ut)
theorem Stt.start {H0 H1 H2 : Hp} {P l : Addr} {q : Str} {v : V} {D : PyData} (e : ExtN H0 H1) (t : TabS H1 P q) (s : Same H1 H2) (r : Val H2 v D) (n : H2 l = none) : Stt H0 (upd H2 l (.lst [v])) P q l [v] [D] := by
  have s2 := s.trans (new_same n (.lst [v]))
  refine ⟨ExtN.same e s2, tab_same t s2, upd_same, .cons (r.same (new_same n _)) .nil, fun o h => ?_⟩
  cases o with
  | tbl ps => exact ⟨ps, rfl⟩
  | _ =>
    have z := s _ _ (e _ _ h (fun ps z => by cases z))
    rw [n] at z
    cases z
theorem Stt.same {H0 H H1 : Hp} {P l : Addr} {q : Str} {vs : List V} {Ds : List PyData} (S : Stt H0 H P q l vs Ds) (s : Same H H1) : Stt H0 H1 P q l vs Ds :=
  ⟨ExtN.same S.ext s, tab_same S.tab s, s _ _ S.at_, vals_of (fun b xs h => s b _ h) S.vals, S.fresh⟩
theorem vals_dp {K : PySem.W.Frag} {H : Hp} {vs : List V} {Ds : List PyData} (h : Paired (Val H) vs Ds) : DpAll K H vs Ds := by
  induction h with
  | nil => exact .nil
  | cons a b ih => exact .cons a.dp ih
section
variable {P : Program} {w : World} {K : PySem.W.Frag} {mg : Str → Option Value} {base : Heap}
/-- a def's body, its code object told, where no repr is under way -/
theorem FnG.bodyT {CX : CXT} {x qual : Str} {params : Arguments} {body : List Stmt} {scope : Scope} {dvs : List V} {kws : List (Str × V)} {f : Addr} {fd : FuncData} {N ps : List Str} {k : Nat} {sp : Sp} {p : He.Defn} (hp : He.fAd K p = f)
    (F : FunD K x qual params body scope dvs kws f fd) (S : FnScope N ps scope) (len : ∀ vs H Q E, sp vs H Q E → vs.length = ps.length)
    (hb : ∀ (A : Around) (outer : List Env) (s : Shared) (H : Hp) (vs : List V) (Q : VK) (E : XK),
      Room k (A.deeper (envOfC qual scope s.heap.objs.size f (.ref (He.cT K p).1))) → (cxOf CX P w K mg base N qual scope f (.ref (He.cT K p).1) A outer s H E).A.guards = some [] → sp vs H Q E →
      ∃ t, PSs (cxOf CX P w K mg base N qual scope f (.ref (He.cT K p).1) A outer s H E) body t ∧ t { nx := fun _ H' => Q .non H', rt := Q } (start N vs) H) :
    FnG P w K mg base CX (k + 1) f fd ps sp := by
  obtain ⟨oc, od, dV, kV, doc, pm, an, cdv, ct, osl, rfl, lk, hcd, _, _⟩ := F.ex
  obtain ⟨c, rfl⟩ := He.codeIn_ref hcd
  have ec : (He.cT K p).1 = c := He.codeOf_eq (by rw [hp]; exact lk) rfl
  refine ⟨len, ?_⟩
  intro A outer s H args us vs Q E gu hr e0 bind r hsp
  have hl := len _ _ _ _ hsp
  have held : ∀ b o, base.get? b = some o → s.heap.get? b = some o := fun b o e => (e0.bs b o e).1
  have KX : K.In s.heap := e0.mod.kin.keeps held
  have par : ∀ y ∈ ps.zip us, scope.names.lookup y.1 = some .local ∨ (scope.names.lookup y.1 = some .cell ∧ ((cellsFrom (s.heap.objs.size + 1) scope.names []).lookup y.1).isSome = true) := by
    rintro ⟨n, v⟩ hy
    rcases S.par n (List.of_mem_zip hy).1 with q | q
    · left; exact q
    · right; exact ⟨q, PySem.W.cellsFrom_some _ _ _ (.inl q)⟩
  refine codeAny_call_function hr.depth (KX _ _ lk) rfl S.co S.gen rfl
    (PySem.W.codeRec_of KX hcd) (bind _ _ _ _ ?_)
  refine wpAny_newFunctionEnv_cells S.kind par ?_
  intro env he s1 x
  subst he
  refine ⟨(e0.mod.nolimit.keeps held).keeps x.toInCall.keep, codeAny_func ?_⟩
  have hb1 := hb A outer s H vs Q E
  rw [ec] at hb1
  obtain ⟨t, ht, hq⟩ := hb1 (hr.deeper _) gu hsp
  have I := inv_start (CX := CX) (mg := mg) (E := E) S hr.hd e0 hl r x
  refine wpAny_mono (ht.run [] s1 (start N vs) H _ I hq) ?_ (fun e s' hs => hs)
  intro fl s' hs
  cases fl with
  | ret u => obtain ⟨v, σ', H', J, rv, q⟩ := hs; exact ⟨v, H', J.os, J.bare, J.base, J.hok, rv, q⟩
  | next => obtain ⟨σ', H', J, q⟩ := hs; exact ⟨V.non, H', J.os, J.bare, J.base, J.hok, rfl, q⟩
  | brk => obtain ⟨_, _, _, q⟩ := hs; cases q
  | cont => obtain ⟨_, _, _, q⟩ := hs; cases q
end
section
variable {K : PySem.W.Frag} {x qual : Str} {params : Arguments} {body : List Stmt} {scope : Scope} {f : Addr} {fd : FuncData} {ps : List Str}
/-- f(e, .., k = v, ..), no defaults: n positional values, keywords named ks -/
theorem kbN (F : FunD K x qual params body scope [] [] f fd) (n : Nat) (ks : List Str) (g : {α : Type} → List α → List α → List α)
    (hrel : ∀ {vs zs : List V} {us ws : List Value}, Vals vs us → Vals zs ws → Vals (g vs zs) (g us ws))
    (h : ∀ (kV doc pm : Value) (an : Option Addr) (cdv ct : Value) (us ws : List Value), us.length = n → ws.length = ks.length → bindArgs (PySem.W.fnOf x qual params body scope .none kV doc pm an cdv ct) ⟨us, ks.zip ws⟩ = pure (ps.zip (g us ws))) :
    KBn K fd ps n ks (fun us ws => g us ws) (fun vs zs => g vs zs) := by
  obtain ⟨oc, od, dV, kV, doc, pm, an, cdv, ct, osl, rfl, lk, hcd, hD, hK⟩ := F.ex
  rcases hD with ⟨_, rfl⟩ | ⟨e, _⟩
  · exact ⟨fun s us ws X l1 l2 => BindsTo.of_looks fun M => .of_pure (h kV doc pm an cdv ct us ws l1 l2), fun r1 r2 => hrel r1 r2⟩
  · exact absurd rfl e
end
end KX
namespace Nx
open PySem PySem.Spec PyProof.Rows L2
section
variable {prog : Program} {w : World} {A : Around} {E : Value → Shared → Prop} {s : Shared} {K : PySem.W.Frag} {x C f : Addr} {ox : Obj} {od : Option Obj} {b tb : Value}
/-- the inherited != asks the class's own == -/
theorem body_ne {Q : Fin → Shared → Prop} (hu : A.units < cLine) (X : K.In s.heap) (I : PySem.W.InstAt s.heap x ox C od)
    (he : PySem.W.findIn K (.ref C) "__eq__" = some (some (.ref f))) (hf : PySem.W.isFn K (.ref f) = true)
    (h : wpAny (model prog w) A (call (.ref f) [.ref x, b]) (fun v s' => ∃ r, v = .bool r ∧ Q (.done (.ret (.bool (!r)))) s') E s) :
    wpAny (model prog w) A (Builtin.«object.__ne__» ⟨[.ref x, b], []⟩) Q E s := by
  unfold Builtin.«object.__ne__»
  repeat (first
    | with_reducible refine wpAny_cRoomFor hu ?_
    | (refine wpAny_bind (m := callSpecialIfBound? (.ref x) (Str.ofString "__eq__") [b]) (PySem.W.ifBound_K X I he hf (wpAny_mono h (fun v s' hv => ?_) fun _ _ e => e))
       obtain ⟨r, rfl, hq⟩ := hv)
    | exact hq
    | exact wpAny_pure hq
    | exact wpAny_truthy_bool hq
    | (refine wpAny_bind (m := truthy (.bool _)) (wpAny_truthy_bool ?_))
    | wp_step)
theorem bound_ne {M : Model} {args : List Value} {Q : Option Value → Shared → Prop} (X : K.In s.heap) (I : PySem.W.InstAt s.heap x ox C od)
    (hs : PySem.W.findIn K (.ref C) "__ne__" = some (some (.builtin "object.__ne__")))
    (h : wpAny M A (call (.builtin "object.__ne__") (.ref x :: args)) (fun v => Q (some v)) E s) : wpAny M A (callSpecialIfBound? (.ref x) "__ne__" args) Q E s := by
  simp only [callSpecialIfBound?, bindSpecialIfBound?]
  refine wpAny_holding (wpAny_bind (wpAny_bind (wpAny_bind (I.type.here ((PySem.W.looks_findIn X hs).here ?_)))))
  refine wpAny_bind (wpAny_askSetting (wpAny_ite ?_))
  have fin : wpAny M A (call (.builtin "object.__ne__") ([.ref x] ++ args) >>= fun v => pure (some v)) Q E s :=
    wpAny_bind (wpAny_mono h (fun v s' h' => wpAny_pure h') fun _ _ h' => h')
  split
  · exact wpAny_bind (wpAny_of_eq (F.cmp_object.ne.bind _) (wpAny_pure (by exact fin)))
  · refine wpAny_tryCatch ?_
    exact wpAny_bind (wpAny_of_eq (F.cmp_object.ne.bind _) (wpAny_pure (by exact fin)))
theorem call_ne {Q : Value → Shared → Prop} (hu : A.units + 1 < cLine) (X : K.In s.heap) (I : PySem.W.InstAt s.heap x ox C od)
    (hm : PySem.W.mroIn K C (.type "object") = some true) (he : PySem.W.findIn K (.ref C) "__eq__" = some (some (.ref f))) (hf : PySem.W.isFn K (.ref f) = true)
    (h : wpAny (model prog w) A.in1 (call (.ref f) [.ref x, b]) (fun v s' => ∃ r, v = .bool r ∧ Q (.bool (!r)) s') E s) :
    wpAny (model prog w) A (call (.builtin "object.__ne__") [.ref x, b]) Q E s := by
  refine wpAny_call (codeAny_call_builtin F.cmp_object.ne.plain F.cmpEntry_ne ?_)
  refine PySem.W.check_slot F.cmpKind_ne F.cmpSplit_ne (I.type.andThen (PySem.W.looks_mroIn X hm)) (F.cmpArgs_ne _ _) ?_
  exact body_ne hu X I he hf h
/-- x != b, where the class of x has an own == and no own != -/
theorem rc_ne {Q : Value → Shared → Prop} (hu : A.units + 1 < cLine) (X : K.In s.heap) (I : PySem.W.InstAt s.heap x ox C od)
    (hb : PySem.W.Looks (model prog w) s.heap (typeOf b) tb) (hn : PySem.W.notFirst K C tb = true)
    (hm : PySem.W.mroIn K C (.type "object") = some true) (hs : PySem.W.findIn K (.ref C) "__ne__" = some (some (.builtin "object.__ne__")))
    (he : PySem.W.findIn K (.ref C) "__eq__" = some (some (.ref f))) (hf : PySem.W.isFn K (.ref f) = true)
    (h : wpAny (model prog w) A.in1 (call (.ref f) [.ref x, b]) (fun v s' => ∃ r, v = .bool r ∧ Q (.bool (!r)) s') E s) :
    wpAny (model prog w) A (richCompare .NotEq (.ref x) b) Q E s := by
  have one : wpAny (model prog w) A (tryCompare (.ref x) "__ne__" b) (fun r s' => ∃ v, r = some v ∧ Q v s') E s := by
    unfold tryCompare
    refine wpAny_bind (bound_ne X I hs (call_ne hu X I hm he hf (wpAny_mono h ?_ fun _ _ e => e)))
    rintro v s' ⟨r, rfl, hq⟩
    exact ⟨r, rfl, wpAny_pure ⟨_, rfl, hq⟩⟩
  unfold richCompare
  simp only [oneThing_ref, cmpInfo_NotEq]
  refine wpAny_holding (wpAny_bind (wpAny_cRoomFor (Nat.lt_of_succ_lt hu) ?_))
  refine wpAny_bind (I.type.here (wpAny_bind (hb.here ?_)))
  split
  · rename_i q
    have e : PySem.W.subIn K tb (.ref C) = some false := by
      rcases Bool.or_eq_true_iff.mp hn with z | z
      · rw [beq_iff_eq.mp z] at q
        simp at q
      · exact beq_iff_eq.mp z
    refine wpAny_bind ((PySem.W.looks_subIn X e).here ?_)
    simp only [Bool.false_eq_true, if_false]
    refine wpAny_bind (wpAny_mono one (fun r s' z => ?_) fun _ _ e => e)
    obtain ⟨v, rfl, hq⟩ := z
    exact wpAny_pure hq
  · refine wpAny_bind (wpAny_pure ?_)
    simp only [Bool.false_eq_true, if_false]
    refine wpAny_bind (wpAny_mono one (fun r s' z => ?_) fun _ _ e => e)
    obtain ⟨v, rfl, hq⟩ := z
    exact wpAny_pure hq
end
/-- what == and != ask of a class -/
structure OwnE (K : PySem.W.Frag) (C f : Addr) : Prop where
  eq : PySem.W.findIn K (.ref C) "__eq__" = some (some (.ref f))
  ne : PySem.W.findIn K (.ref C) "__ne__" = some (some (.builtin "object.__ne__"))
  fn : PySem.W.isFn K (.ref f) = true
  ob : PySem.W.mroIn K C (.type "object") = some true
section
variable {X : Cx} {CX : CXT} {k : Nat} {C f : Addr} {fd : FuncData} {ps : List Str} {sp : Sp} {E : XK}
/-- a callee below the running body -/
theorem run_at {A : Around} {pins : List (Addr × Obj)} {σ : L2.St} {H : Hp} {s : Shared} {Q : VK} {us : List Value} {vs : List V}
    (F : FnOk X.prog X.w X.K X.mg X.base CX k f fd ps sp) (hr : Room k A) (e0 : Env0 X.prog X.w X.K X.mg X.base A X.stack s H) (hb : Binds X.K fd ps []) (hx : Passes CX X E)
    (I : Inv X pins σ H s) (r : Vals vs us) (h : sp vs H Q E) :
    wpAny (model X.prog X.w) A (call (.ref f) us) (EP X pins σ Q) X.xe s := by
  have hl : us.length = ps.length := r.length ▸ F.len _ _ _ _ h
  have bd := hb s us I.kIn (by simpa using hl)
  have go := F.run A X.stack s H ⟨us, []⟩ us vs Q E hr e0 (by simpa using bd) r h
  refine wpAny_call (codeAny_mono go ?_)
  intro r s' hq
  match r, hq with
  | .error e, hq => exact hx pins σ H s e s' I hq
  | .ok (.ret u), hq => exact I.after hq
  | .ok .next, hq => exact hq.elim
  | .ok .brk, hq => exact hq.elim
  | .ok .cont, hq => exact hq.elim
theorem back {P : Value → Shared → Prop} {z : V} {v : Value} {s' : Shared} (r : RelV z v) (h : P v s') : PySem.W.CmpBack P v s' := by
  cases z with
  | non => cases (show v = Value.none from r); exact h
  | bl b => cases (show v = Value.bool b from r); exact h
  | int i => obtain ⟨t, rfl⟩ := (show ∃ t, v = Value.int i t from r); exact h
  | str x => obtain ⟨t, rfl⟩ := (show ∃ t, v = Value.str x t from r); exact h
  | byt b => obtain ⟨t, rfl⟩ := (show ∃ t, v = Value.bytes b t from r); exact h
  | flt b => obtain ⟨t, rfl⟩ := (show ∃ t, v = Value.float b t from r); exact h
  | ref a => cases (show v = Value.ref a from r); exact h
  | ty n => cases (show v = Value.type n from r); exact h
/-- x == y by the own == of the class of x -/
def rEqO (K : PySem.W.Frag) (C : Addr) (sp : Sp) (E : XK) : R2 := fun x y H Q =>
  ∃ (a dx : Addr) (fs : List (Str × V)) (t : Value), x = .ref a ∧ H a = some (.ins C dx fs) ∧ TyX K H y t ∧ PySem.W.notFirst K C t = true ∧ sp [x, y] H Q E
def rNeO (K : PySem.W.Frag) (C : Addr) (sp : Sp) (E : XK) : R2 := fun x y H Q =>
  ∃ (a dx : Addr) (fs : List (Str × V)) (t : Value), x = .ref a ∧ H a = some (.ins C dx fs) ∧ TyX K H y t ∧ PySem.W.notFirst K C t = true ∧ sp [x, y] H (fun z H' => ∃ b, z = .bl b ∧ Q (.bl (!b)) H') E
theorem op_eqO (o : OwnE X.K C f) (F : FnOk X.prog X.w X.K X.mg X.base CX k f fd ps sp) (hb : Binds X.K fd ps []) (hr : Room k X.A) (hx : Passes CX X E) :
    OpR X (compareOp .Eq) (rEqO X.K C sp E) := by
  rintro pins s σ H x y v u Q I rx ry ⟨a, dx, fs, t, rfl, ha, ty, hn, q⟩
  cases (show v = Value.ref a from rx)
  obtain ⟨Z, KZ, z, _⟩ := kit_of I ry ty
  obtain ⟨mA, J, _⟩ := ins_get I.hok ha
  obtain ⟨od, J, _⟩ := J.look
  obtain ⟨m, hF⟩ := I.fr
  show wpAny _ _ (richCompare .Eq _ _) _ _ _
  refine PySem.W.cmp_K (op := .Eq) (hr.units0) hF I.ok.mod.kin J (KZ.ty _ _ I.kIn z) hn o.eq o.fn ?_
  refine wpAny_mono (run_at F hr I.env0 hb hx I (.cons (show RelV (.ref a) (.ref a) from rfl) (.cons ry .nil)) q) ?_ (fun _ _ e => e)
  rintro r s' ⟨c, H', I', rc, qc⟩
  exact back rc ⟨c, H', I', rc, qc⟩
theorem op_neO (o : OwnE X.K C f) (F : FnOk X.prog X.w X.K X.mg X.base CX k f fd ps sp) (hb : Binds X.K fd ps []) (hr : Room (k + 1) X.A) (hx : Passes CX X E) :
    OpR X (compareOp .NotEq) (rNeO X.K C sp E) := by
  rintro pins s σ H x y v u Q I rx ry ⟨a, dx, fs, t, rfl, ha, ty, hn, q⟩
  cases (show v = Value.ref a from rx)
  obtain ⟨Z, KZ, z, _⟩ := kit_of I ry ty
  obtain ⟨mA, J, _⟩ := ins_get I.hok ha
  obtain ⟨od, J, _⟩ := J.look
  show wpAny _ _ (richCompare .NotEq _ _) _ _ _
  refine rc_ne (by have := hr.un; omega) I.kIn J (KZ.ty _ _ I.kIn z) hn o.ob o.ne o.eq o.fn ?_
  refine wpAny_mono (run_at F hr.in1 I.env0.in1 hb hx I (.cons (show RelV (.ref a) (.ref a) from rfl) (.cons ry .nil)) q) ?_ (fun _ _ e => e)
  rintro r s' ⟨c, H', I', rc, b, rfl, qb⟩
  cases (show r = Value.bool b from rc)
  exact ⟨b, rfl, .bl (!b), H', I', rfl, qb⟩
end
end Nx
/-! in by an own __contains__; a value of any kind among texts; repr of data with empty dicts -/
namespace KX
open PySem PySem.Spec PyProof.Rows L2
section
variable {X : Cx} {CX : CXT} {k : Nat} {C f : Addr} {fd : FuncData} {ps : List Str} {sp : Sp} {E : XK}
/-- x in y by the own __contains__ of the class of y -/
def rInO (C : Addr) (sp : Sp) (E : XK) : R2 := fun x y H Q =>
  ∃ (a dx : Addr) (fs : List (Str × V)), y = .ref a ∧ H a = some (.ins C dx fs) ∧ sp [y, x] H (fun z H' => ∃ b, z = .bl b ∧ Q (.bl b) H') E
theorem op_inO (hs : PySem.W.findIn X.K (.ref C) "__contains__" = some (some (.ref f))) (hf : PySem.W.isFn X.K (.ref f) = true) (F : FnOk X.prog X.w X.K X.mg X.base CX k f fd ps sp) (hb : Binds X.K fd ps []) (hr : Room k X.A) (hx : Passes CX X E) :
    OpR X (compareOp .In) (rInO C sp E) := by
  rintro pins s σ H x y v u Q I rx ry ⟨a, dx, fs, rfl, ha, q⟩
  cases (show u = Value.ref a from ry)
  obtain ⟨mA, J, _⟩ := ins_get I.hok ha
  obtain ⟨od, J, _⟩ := J.look
  have ask : ∀ {Q' : Option Value → Shared → Prop} {E'}, Q' (some (.ref f)) s → wpAny (model X.prog X.w) X.A (specialOf (.ref a) "__contains__") Q' E' s := fun {Q' E'} h => by
    unfold specialOf
    exact wpAny_bind (J.type.here ((PySem.W.looks_findIn I.kIn hs).here h))
  show wpAny _ _ (contains (.ref a) v >>= fun r => pure (Value.bool r)) _ _ _
  unfold contains
  refine wpAny_bind (wpAny_holding ?_)
  rw [show stdlibNamesSay? (.ref a) v = none from rfl]
  refine wpAny_bind (ask ?_)
  have n1 : ((some (Value.ref f) : Option Value) == some Value.none) = false := rfl
  rw [n1, if_neg Bool.false_ne_true]
  have n2 : (Value.ref f == Value.none) = false := rfl
  have run : wpAny (model X.prog X.w) X.A (call (.ref f) ([.ref a] ++ [v])) (fun r s' => ∃ b, r = .bool b ∧ ∃ H', Inv X pins σ H' s' ∧ Q (.bl b) H') X.xe s := by
    refine wpAny_mono (Nx.run_at F hr I.env0 hb hx I (.cons (show RelV (.ref a) (.ref a) from rfl) (.cons rx .nil)) q) (fun r s' ⟨c, H', I', rc, b, ec, qb⟩ => ?_) (fun _ _ e => e)
    subst ec
    cases (show r = Value.bool b from rc)
    exact ⟨b, rfl, H', I', qb⟩
  refine wpAny_bind ?_
  unfold callSpecialUnlessNone?
  refine wpAny_bind (ask (wpAny_holding (wpAny_bind ((PySem.W.bind_fn I.kIn _ (beq_iff_eq.mp hf)).here ?_))))
  show wpAny _ _ (if (Value.ref f == Value.none) = true then _ else _) _ _ _
  rw [n2, if_neg Bool.false_ne_true]
  refine wpAny_bind (wpAny_mono run (fun r s' ⟨b, er, H', I', qb⟩ => ?_) (fun _ _ e => e))
  subst er
  refine wpAny_pure ?_
  refine wpAny_truthy_bool (wpAny_pure ?_)
  exact ⟨.bl b, H', I', rfl, qb⟩
end
end KX
namespace PySem.SeqAt
open AutoSeq1 (wpAny_loadPart')
open MeetsSeq
/-! ### texts against values of any kind -/
theorem kx_str_declines (b : Str) (u : Tok) (l : Addr) (dd : Option Addr) (es : Array DictEntry) (n : Nat) (sl : Array (Option Value)) :
    Meets (Builtin.«str.__eq__» ⟨[.str b u, .ref l], []⟩) (fun _ R s => s.heap.get? l = some { cls := .type "dict", dict := dd, data := .dict es n, slots := sl } ∧ R (.ok (.ret .notImplemented)) s) :=
  .of_wp fun prog w A R s h => by obtain ⟨hp, g, d, tk, os⟩ := s; obtain ⟨hl, h⟩ := h; wp_walk using wpAny_loadPart' hl, wpAny_load hl; exact ⟨_, rfl, h⟩
theorem kx_dict_declines (b : Str) (u : Tok) (l : Addr) (dd : Option Addr) (es : Array DictEntry) (n : Nat) (sl : Array (Option Value)) :
    Meets (Builtin.«dict.__eq__» ⟨[.ref l, .str b u], []⟩) (fun _ R s => s.heap.get? l = some { cls := .type "dict", dict := dd, data := .dict es n, slots := sl } ∧ R (.ok (.ret .notImplemented)) s) :=
  .of_wp fun prog w A R s h => by obtain ⟨hp, g, d, tk, os⟩ := s; obtain ⟨hl, h⟩ := h; have f1 := PySem.F.sub_str_dict; wp_walk using wpAny_loadPart' hl; exact ⟨_, rfl, h⟩
theorem kx_str_dict {A : Around} {s : Shared} {l : Addr} {es : Array DictEntry} {n : Nat} {dd : Option Addr} {sl : Array (Option Value)} (b : Str) (u : Tok) (ho : s.heap.get? l = some { cls := .type "dict", dict := dd, data := .dict es n, slots := sl }) (hu : A.units < cLine) : EqAt A s (.str b u) (.ref l) false := fun prog w E Q h => by
  have rc : ∀ (E : Value → Shared → Prop) (Q : Value → Shared → Prop), Q (.bool false) s → wpAny (model prog w) A (richCompare .Eq (.str b u) (.ref l)) Q E s := fun E Q h =>
    rc_eq_decline_or (k := false) (typeIs_str s b u) ⟨_, ho, rfl⟩ (by decide) PySem.F.sub_dict_str F.slot_str_eq PySem.F.slot_dict_eq_refl
      (fun _ hq => call_meets F.slot_str_eq (typeIs_str s b u) F.entry_str_eq (F.args_str_eq_2 _ _) (kx_str_declines b u l dd es n sl) ⟨ho, hq⟩)
      (fun _ hq => call_meets PySem.F.slot_dict_eq_refl ⟨_, ho, rfl⟩ PySem.F.entry_dict_eq (PySem.F.args_dict_eq_2 _ _) (kx_dict_declines b u l dd es n sl) ⟨ho, hq⟩)
      (fun _ hq => wpAny_of_eq (rfl : isSame (.str b u) (.ref l) = pure false) hq) (.inr hu) h
  unfold eqBool
  refine wpAny_holding ?_
  refine wpAny_ite_split (fun hab => absurd (eq_of_beq hab) nofun) (fun _ => ?_)
  exact wpAny_bind (rc E _ (wpAny_truthy_bool h))
end PySem.SeqAt
namespace KX
open PySem PySem.Spec PyProof.Rows L2
/-- a value of a plain kind -/
inductive Kd (H : Hp) : V → Prop
  | str (x : Str) : Kd H (.str x)
  | int (i : Int) : Kd H (.int i)
  | non : Kd H .non
  | bl (b : Bool) : Kd H (.bl b)
  | tup {a : Addr} {xs : List V} : H a = some (.tup xs) → Kd H (.ref a)
  | lst {a : Addr} {xs : List V} : H a = some (.lst xs) → Kd H (.ref a)
  | dct {a : Addr} : H a = some (.dK []) → Kd H (.ref a)
/-- whether it is one of two texts -/
def isE (lo hi : Str) : V → Bool
  | .str g => decide (g = lo) || decide (g = hi)
  | _ => false
/-- x in (lo, hi) -/
def rInK (K : PySem.W.Frag) (n : Bool) : R2 := fun x y H Q => ∃ (t : Addr) (lo hi : Str), y = .ref t ∧ SqT K H t [.str lo, .str hi] ∧ Kd H x ∧ Q (.bl (n ^^ isE lo hi x)) H
section
variable {X : Cx}
theorem eq_kd {pins : List (Addr × Obj)} {σ : L2.St} {H : Hp} {s : Shared} {x : V} {u : Value} {A : Around} (I : Inv X pins σ H s) (kd : Kd H x) (rx : RelV x u) (hu : A.units < cLine) (z : Str) (t : Tok) : SeqAt.EqAt A s (.str z t) u (isE z z x) := by
  cases kd with
  | str g =>
    obtain ⟨t2, rfl⟩ := rx
    have e := SeqAt.EqAt.str_str (A := A) (s := s) z t g t2
    have e2 : (z == g) = isE z z (.str g) := by
      show _ = (decide (g = z) || decide (g = z))
      rw [Bool.or_self, Bool.eq_iff_iff, beq_iff_eq, decide_eq_true_eq]
      exact eq_comm
    rw [← e2]
    exact e
  | int i =>
    obtain ⟨t2, rfl⟩ := rx
    exact SeqAt.EqAt.str_int z t i t2
  | non =>
    cases (show u = Value.none from rx)
    exact SeqAt.EqAt.str_none z t
  | bl b =>
    cases (show u = Value.bool b from rx)
    exact SeqAt.EqAt.str_bool z t b
  | @tup a xs h =>
    cases (show u = Value.ref a from rx)
    obtain ⟨its, r, pl, hz⟩ := I.tuple (SqT.of h)
    exact SeqAt.EqAt.str_tuple z t pl hu
  | @lst a xs h =>
    cases (show u = Value.ref a from rx)
    obtain ⟨its, r, pl, hz⟩ := I.list (SqL.of h)
    exact SeqAt.EqAt.str_list z t pl.isList hu
  | @dct a ha =>
    cases (show u = Value.ref a from rx)
    obtain ⟨_, nsys, vs, kv, o, es, ep, ho, ⟨hc, hs⟩, hd, he, _⟩ := (show ObjOk X.prog X.w H s.heap a (.dK []) from I.hok a _ ha)
    obtain ⟨c, dd, dt, sl⟩ := o
    cases (show c = _ from hc)
    cases (show dt = _ from hd)
    exact SeqAt.kx_str_dict z t ho hu
theorem op_inK (hu : X.A.units + 64 < cLine) : OpR X (compareOp .In) (rInK X.K false) := by
  rintro pins s σ H x y v u Q I rx ry ⟨t, lo, hi, rfl, ht, kd, q⟩
  cases (show u = Value.ref t from ry)
  obtain ⟨its, r, pl, hz⟩ := I.tuple ht
  cases r with
  | @cons _ u1 _ ur ra rr =>
    cases rr with
    | @cons _ u2 _ us rb rc =>
      cases rc
      obtain ⟨t1, rfl⟩ := ra
      obtain ⟨t2, rfl⟩ := rb
      have hu1 : X.A.in1.units < cLine := by show X.A.units + 1 < cLine; omega
      refine SeqAt.in_tupleAt (fun y => match y with | .str z _ => isE z z x | _ => false) pl (fun y hy => ?_) ?_
      · have hy2 : y = .str lo t1 ∨ y = .str hi t2 := by simpa using hy
        rcases hy2 with rfl | rfl
        · exact eq_kd I kd rx hu1 lo t1
        · exact eq_kd I kd rx hu1 hi t2
      · refine ⟨.bl (isE lo hi x), H, I, ?_, by simpa using q⟩
        have e : (#[Value.str lo t1, Value.str hi t2].any fun y => match y with | .str z _ => isE z z x | _ => false) = isE lo hi x := by
          cases x <;> simp [isE]
        show Value.bool _ = Value.bool _
        exact congrArg Value.bool e
theorem op_notInK (hu : X.A.units + 64 < cLine) : OpR X (compareOp .NotIn) (rInK X.K true) := by
  rintro pins s σ H x y v u Q I rx ry ⟨t, lo, hi, rfl, ht, kd, q⟩
  cases (show u = Value.ref t from ry)
  obtain ⟨its, r, pl, hz⟩ := I.tuple ht
  cases r with
  | @cons _ u1 _ ur ra rr =>
    cases rr with
    | @cons _ u2 _ us rb rc =>
      cases rc
      obtain ⟨t1, rfl⟩ := ra
      obtain ⟨t2, rfl⟩ := rb
      have hu1 : X.A.in1.units < cLine := by show X.A.units + 1 < cLine; omega
      refine SeqAt.notIn_tupleAt (fun y => match y with | .str z _ => isE z z x | _ => false) pl (fun y hy => ?_) ?_
      · have hy2 : y = .str lo t1 ∨ y = .str hi t2 := by simpa using hy
        rcases hy2 with rfl | rfl
        · exact eq_kd I kd rx hu1 lo t1
        · exact eq_kd I kd rx hu1 hi t2
      · refine ⟨.bl (!isE lo hi x), H, I, ?_, by simpa using q⟩
        have e : (#[Value.str lo t1, Value.str hi t2].any fun y => match y with | .str z _ => isE z z x | _ => false) = isE lo hi x := by
          cases x <;> simp [isE]
        show Value.bool _ = Value.bool _
        exact congrArg (fun b => Value.bool (!b)) e
end
end KX
/-! repr of data with empty dicts -/
namespace KX
open PySem PySem.Spec PyProof.Rows L2 Gx
def kPy : Key → PyData
  | .inl i => .int i
  | .inr x => .str x
mutual
/-- a value that is this data -/
inductive Dq (K : PySem.W.Frag) (H : Hp) : V → PyData → Prop
  | non : Dq K H .non .none
  | bl (b : Bool) : Dq K H (.bl b) (.bool b)
  | int (i : Int) : Dq K H (.int i) (.int i)
  | str (x : Str) : Dq K H (.str x) (.str x)
  | lst {a : Addr} {xs : List V} {ds : List PyData} : SqL K H a xs → DqAll K H xs ds → Dq K H (.ref a) (.list ds)
  | tup {a : Addr} {xs : List V} {ds : List PyData} : SqT K H a xs → DqAll K H xs ds → Dq K H (.ref a) (.tuple ds)
  | dct {a : Addr} {kv : List (Key × V)} {ks : List (PyData × PyData)} : H a = some (.dK kv) → DqKv K H kv ks → Dq K H (.ref a) (.dict ks)
inductive DqAll (K : PySem.W.Frag) (H : Hp) : List V → List PyData → Prop
  | nil : DqAll K H [] []
  | cons {v : V} {vs : List V} {d : PyData} {ds : List PyData} : Dq K H v d → DqAll K H vs ds → DqAll K H (v :: vs) (d :: ds)
inductive DqKv (K : PySem.W.Frag) (H : Hp) : List (Key × V) → List (PyData × PyData) → Prop
  | nil : DqKv K H [] []
  | cons {k : Key} {v : V} {vs : List (Key × V)} {d : PyData} {ds : List (PyData × PyData)} : Dq K H v d → DqKv K H vs ds → DqKv K H ((k, v) :: vs) ((kPy k, d) :: ds)
end
/-- the modules' dict is known -/
def SmK (K : PySem.W.Frag) : Prop := ∃ (es : Array DictEntry) (n : Nat) (sl : Array (Option Value)), K.lookup sysModules = some { cls := .type "dict", dict := none, data := .dict es n, slots := sl }
theorem key_reads {h : Heap} {k : Key} {v : Value} (e : keyIs k v = true) : Reads h v (kPy k) [] := by
  rcases keyIs_shape e with ⟨i, t, rfl, rfl⟩ | ⟨x, t, rfl, rfl⟩
  · exact Reads.int i t
  · exact Reads.str x t
section
variable {X : Cx} {pins : List (Addr × Obj)} {σ : L2.St} {H : Hp} {s : Shared}
mutual
theorem Dq.reads (I : Inv X pins σ H s) (sm : SmK X.K) : ∀ {d : PyData} {v : V}, Dq X.K H v d → ∀ u, RelV v u → ∃ as, Reads s.heap u d as ∧ sysModules ∉ as
  | _, _, .non, u, r => by
    cases r
    exact ⟨_, Reads.none, by simp⟩
  | _, _, .bl b, u, r => by
    cases r
    exact ⟨_, Reads.bool b, by simp⟩
  | _, _, .int i, u, r => by
    obtain ⟨t, rfl⟩ := r
    exact ⟨_, Reads.int i t, by simp⟩
  | _, _, .str x, u, r => by
    obtain ⟨t, rfl⟩ := r
    exact ⟨_, Reads.str x t, by simp⟩
  | _, _, .lst (a := a) hs ha, u, r => by
    cases (show u = Value.ref a from r)
    obtain ⟨its, rv, ⟨o, n, ho, hc, _, hd⟩, _⟩ := I.list hs
    obtain ⟨as, hr, hn⟩ := DqAll.reads I sm ha its rv
    refine ⟨_, Reads.list ho hc hd hr, fun z => ?_⟩
    rcases List.mem_cons.mp z with e | e
    · obtain ⟨es, n2, sl, e1⟩ := sm
      have e2 := I.kIn _ _ e1
      rw [e, ho] at e2
      cases e2
      cases hd
    · exact hn e
  | _, _, .tup (a := a) hs ha, u, r => by
    cases (show u = Value.ref a from r)
    obtain ⟨its, rv, ⟨o, ho, hc, n, hd⟩, _⟩ := I.tuple hs
    obtain ⟨as, hr, hn⟩ := DqAll.reads I sm ha its rv
    exact ⟨_, Reads.tuple ho hc hd hr, hn⟩
  | _, _, .dct (a := a) (kv := kv) ha hk, u, r => by
    cases (show u = Value.ref a from r)
    obtain ⟨_, nsys, vs, rk, o, es, ep, ho, ⟨hc, _⟩, hd, _, he, _⟩ := (show ObjOk X.prog X.w H s.heap a (.dK kv) from I.hok a _ ha)
    obtain ⟨as, bs, q1, q2, n1, n2⟩ := DqKv.reads I sm hk vs es.toList rk he
    refine ⟨_, Reads.dict ho hc hd q1 q2, fun z => ?_⟩
    rcases List.mem_append.mp z with e | e
    · rcases List.mem_cons.mp e with e | e
      · rw [e] at nsys
        simp at nsys
      · exact n1 e
    · exact n2 e
theorem DqAll.reads (I : Inv X pins σ H s) (sm : SmK X.K) : ∀ {ds : List PyData} {vs : List V}, DqAll X.K H vs ds → ∀ us, Vals vs us → ∃ as, ReadsAll s.heap us ds as ∧ sysModules ∉ as
  | _, _, .nil, _, r => by
    cases r
    exact ⟨_, ReadsAll.nil, by simp⟩
  | _, _, .cons h1 h2, _, r => by
    cases r with
    | cons r1 r2 =>
      obtain ⟨as, q1, n1⟩ := Dq.reads I sm h1 _ r1
      obtain ⟨bs, q2, n2⟩ := DqAll.reads I sm h2 _ r2
      refine ⟨_, ReadsAll.cons q1 q2, fun z => ?_⟩
      rcases List.mem_append.mp z with e | e
      · exact n1 e
      · exact n2 e
theorem DqKv.reads (I : Inv X pins σ H s) (sm : SmK X.K) : ∀ {ks : List (PyData × PyData)} {kv : List (Key × V)}, DqKv X.K H kv ks → ∀ (vs : List (Key × Value)) (es : List DictEntry), KV kv vs → Pairs (mixKind X.prog X.w) es vs →
    ∃ as bs, ReadsAll s.heap (es.map (·.key)) (ks.map (·.1)) as ∧ ReadsAll s.heap (es.map (·.val)) (ks.map (·.2)) bs ∧ sysModules ∉ as ∧ sysModules ∉ bs
  | _, _, .nil, vs, es, r, p => by
    cases r
    cases p
    exact ⟨[], [], .nil, .nil, by simp, by simp⟩
  | _, _, .cons h1 h2, vs, es, r, p => by
    cases r with
    | cons r1 r2 =>
      cases p with
      | cons p1 p2 p3 =>
        obtain ⟨as, q1, n1⟩ := Dq.reads I sm h1 _ (p2 ▸ r1.2)
        obtain ⟨bs, cs, q2, q3, n2, n3⟩ := DqKv.reads I sm h2 _ _ r2 p3
        refine ⟨[] ++ bs, as ++ cs, .cons (key_reads ?_) q2, .cons q1 q3, by simpa using n2, fun z => (List.mem_append.mp z).elim n1 n3⟩
        have e := r1.1
        dsimp only at e
        rw [e]
        exact p1
end
end
mutual
theorem Dq.of {K : PySem.W.Frag} {H H' : Hp} (sl : ∀ a xs, SqL K H a xs → SqL K H' a xs) (st : ∀ a xs, SqT K H a xs → SqT K H' a xs) (sd : ∀ a kv, H a = some (.dK kv) → H' a = some (.dK kv)) : ∀ {d : PyData} {v : V}, Dq K H v d → Dq K H' v d
  | _, _, .non => .non
  | _, _, .bl b => .bl b
  | _, _, .int i => .int i
  | _, _, .str x => .str x
  | _, _, .lst a b => .lst (sl _ _ a) (DqAll.of sl st sd b)
  | _, _, .tup a b => .tup (st _ _ a) (DqAll.of sl st sd b)
  | _, _, .dct a b => .dct (sd _ _ a) (DqKv.of sl st sd b)
theorem DqAll.of {K : PySem.W.Frag} {H H' : Hp} (sl : ∀ a xs, SqL K H a xs → SqL K H' a xs) (st : ∀ a xs, SqT K H a xs → SqT K H' a xs) (sd : ∀ a kv, H a = some (.dK kv) → H' a = some (.dK kv)) : ∀ {ds : List PyData} {v : List V}, DqAll K H v ds → DqAll K H' v ds
  | _, _, .nil => .nil
  | _, _, .cons a b => .cons (Dq.of sl st sd a) (DqAll.of sl st sd b)
theorem DqKv.of {K : PySem.W.Frag} {H H' : Hp} (sl : ∀ a xs, SqL K H a xs → SqL K H' a xs) (st : ∀ a xs, SqT K H a xs → SqT K H' a xs) (sd : ∀ a kv, H a = some (.dK kv) → H' a = some (.dK kv)) : ∀ {ds : List (PyData × PyData)} {v : List (Key × V)}, DqKv K H v ds → DqKv K H' v ds
  | _, _, .nil => .nil
  | _, _, .cons a b => .cons (Dq.of sl st sd a) (DqKv.of sl st sd b)
end
theorem extL {K : PySem.W.Frag} {H H' : Hp} (e : LamX.ExtN H H') (a : Addr) (xs : List V) (h : SqL K H a xs) : SqL K H' a xs := by
  rcases h with (h | ⟨o, h⟩) | h
  · exact .inl (.inl (e _ _ h (fun ps z => by cases z)))
  · exact .inl (.inr ⟨o, e _ _ h (fun ps z => by cases z)⟩)
  · exact .inr h
theorem extT {K : PySem.W.Frag} {H H' : Hp} (e : LamX.ExtN H H') (a : Addr) (xs : List V) (h : SqT K H a xs) : SqT K H' a xs := by
  rcases h with (h | ⟨o, h⟩) | h
  · exact .inl (.inl (e _ _ h (fun ps z => by cases z)))
  · exact .inl (.inr ⟨o, e _ _ h (fun ps z => by cases z)⟩)
  · exact .inr h
theorem Dq.ext {K : PySem.W.Frag} {H H' : Hp} {v : V} {d : PyData} (h : Dq K H v d) (e : LamX.ExtN H H') : Dq K H' v d := Dq.of (extL e) (extT e) (fun a kv h => e _ _ h (fun ps z => by cases z)) h
theorem Dq.same {K : PySem.W.Frag} {H H' : Hp} {v : V} {d : PyData} (h : Dq K H v d) (e : Same H H') : Dq K H' v d := h.ext (fun b o z _ => e b o z)
theorem Kd.ext {H H' : Hp} {v : V} (k : Kd H v) (s : LamX.ExtN H H') : Kd H' v := by
  cases k with
  | str x => exact .str x
  | int i => exact .int i
  | non => exact .non
  | bl b => exact .bl b
  | tup h => exact .tup (s _ _ h (fun ps z => by cases z))
  | lst h => exact .lst (s _ _ h (fun ps z => by cases z))
  | dct h => exact .dct (s _ _ h (fun ps z => by cases z))
theorem Kd.same {H H' : Hp} {v : V} (k : Kd H v) (s : Same H H') : Kd H' v := k.ext (fun b o z _ => s b o z)
/-- short data -/
def fine (d : PyData) : Bool := d.showable && (d.leavesShort 100 && (decide (d.depth ≤ 60) && decide (d.weight ≤ 100000)))
theorem fine_len {d : PyData} (h : fine d = true) : d.showable = true ∧ d.depth ≤ 60 ∧ d.shown.length ≤ sizeLine := by
  unfold fine at h
  simp only [Bool.and_eq_true, decide_eq_true_eq] at h
  obtain ⟨h1, h2, h3, h4⟩ := h
  refine ⟨h1, h3, ?_⟩
  have z := PyData.shown_le 100 (by decide) d h2
  rw [sizeLine_eq]
  omega
def rReprQ (K : PySem.W.Frag) : List V → Hp → VK → Prop := fun xs H Q => ∃ (v : V) (d : PyData), xs = [v] ∧ Dq K H v d ∧ fine d = true ∧ Q (.str d.shown) H
theorem call_reprQ {X : Cx} (sm : SmK X.K) (gu : X.A.guards = some []) (hu : X.A.units + 64 < cLine) : CallR X (.builtin "repr") (rReprQ X.K) := by
  rintro pins s σ H xs us Q I r ⟨v, d, rfl, hd, fn, q⟩
  obtain ⟨u, rfl, ru⟩ := r.one
  obtain ⟨sh, dp, sz⟩ := fine_len fn
  have go : ∀ a, v = .ref a → wpAny (model X.prog X.w) X.A (call (.builtin "repr") [u]) (EP X pins σ Q) X.xe s := fun a e => by
    subst e
    cases (show u = Value.ref a from ru)
    obtain ⟨as, rd, nas⟩ := Dq.reads I sm hd _ rfl
    refine repr_of_reads' rd sh (fun _ => nas) gu (by omega) (fun _ _ e => e) ?_ sz
    intro h' u tk kp
    exact ⟨.str d.shown, H, I.kept kp, ⟨u, rfl⟩, q⟩
  cases hd with
  | non =>
    cases (show u = Value.none from ru)
    exact PySem.P.repr_of_none ⟨.str _, H, I.tok _, ⟨_, rfl⟩, q⟩
  | bl b =>
    cases (show u = Value.bool b from ru)
    exact PySem.P.repr_of_bool ⟨.str _, H, I.tok _, ⟨_, rfl⟩, q⟩
  | int i =>
    obtain ⟨t, rfl⟩ := ru
    exact PySem.P.repr_of_int (of_decide_eq_true sh) ⟨.str _, H, I.tok _, ⟨_, rfl⟩, q⟩
  | str x =>
    obtain ⟨t, rfl⟩ := ru
    exact PySem.P.repr_of_str ⟨.str _, H, I.tok _, ⟨_, rfl⟩, q⟩ sz
  | @lst a xs ds h1 h2 => exact go a rfl
  | @tup a xs ds h1 h2 => exact go a rfl
  | @dct a kv ks h1 h2 => exact go a rfl
end KX
/-! a list of what was heard, each item by a wish of its own -/
namespace KX
open PySem PySem.Spec PyProof.Rows L2 LamX Gx
/-- all but l and the tables stays -/
def EB (l : Addr) (H H' : Hp) : Prop := ∀ b o, b ≠ l → H b = some o → (∀ ps, o ≠ .tbl ps) → H' b = some o
theorem EB.refl (l : Addr) (H : Hp) : EB l H H := fun _ _ _ h _ => h
theorem EB.trans {l : Addr} {H H1 H2 : Hp} (a : EB l H H1) (b : EB l H1 H2) : EB l H H2 := fun c o n h t => b c o n (a c o n h t) t
theorem EB.ext {l : Addr} {H H1 : Hp} (e : ExtN H H1) : EB l H H1 := fun c o _ h t => e c o h t
theorem EB.same {l : Addr} {H H1 : Hp} (e : Same H H1) : EB l H H1 := fun c o _ h _ => e c o h
theorem EB.upd {l : Addr} {H : Hp} {o : HO} : EB l H (upd H l o) := fun c u n h _ => by rw [upd_ne n]; exact h
/-- a wish that what is at l does not touch -/
def Stab (l : Addr) (R : Hp → V → Prop) : Prop := ∀ H H' v, R H v → EB l H H' → R H' v
structure SttG (H0 H : Hp) (P : Addr) (q : Str) (l : Addr) (vs : List V) (Rs : List (Hp → V → Prop)) : Prop where
  ext : ExtN H0 H
  tab : TabS H P q
  at_ : H l = some (.lst vs)
  vals : Paired (fun v R => R H v) vs Rs
  stab : ∀ R ∈ Rs, Stab l R
  fresh : ∀ o, H0 l = some o → ∃ ps, o = .tbl ps
theorem pairs_of {l : Addr} {H H' : Hp} (e : EB l H H') : ∀ {vs : List V} {Rs : List (Hp → V → Prop)}, (∀ R ∈ Rs, Stab l R) → Paired (fun v R => R H v) vs Rs → Paired (fun v R => R H' v) vs Rs := by
  intro vs Rs st h
  induction h with
  | nil => exact .nil
  | cons a b ih => exact .cons (st _ List.mem_cons_self _ _ _ a e) (ih fun R hR => st R (List.mem_cons_of_mem _ hR))
theorem SttG.step {H0 H H1 H2 : Hp} {P l : Addr} {q : Str} {vs : List V} {Rs : List (Hp → V → Prop)} {v : V} {R : Hp → V → Prop} (S : SttG H0 H P q l vs Rs) (e : ExtN H H1) (t : TabS H1 P q) (s : Same H1 H2) (r : R H2 v) (st : Stab l R) :
    H2 l = some (.lst vs) ∧ SttG H0 (upd H2 l (.lst (vs ++ [v]))) P q l (vs ++ [v]) (Rs ++ [R]) := by
  have l2 : H2 l = some (.lst vs) := s _ _ (e _ _ S.at_ (fun ps z => by cases z))
  have eb : EB l H (upd H2 l (.lst (vs ++ [v]))) := ((EB.ext e).trans (EB.same s)).trans EB.upd
  refine ⟨l2, fun b o h nt => ?_, tab_lst (tab_same t s) l2, upd_same, paired_snoc (pairs_of eb S.stab S.vals) (st _ _ _ r EB.upd), fun R' hR => ?_, S.fresh⟩
  · have nb : b ≠ l := fun z => by
      rw [z] at h
      obtain ⟨ps, hp⟩ := S.fresh o h
      exact nt ps hp
    rw [upd_ne nb]
    exact s _ _ (e _ _ (S.ext _ _ h nt) nt)
  · rcases List.mem_append.mp hR with h | h
    · exact S.stab _ h
    · rw [List.mem_singleton.mp h]
      exact st
theorem SttG.start {H0 H1 H2 : Hp} {P l : Addr} {q : Str} {v : V} {R : Hp → V → Prop} (e : ExtN H0 H1) (t : TabS H1 P q) (s : Same H1 H2) (r : R H2 v) (st : Stab l R) (n : H2 l = none) : SttG H0 (upd H2 l (.lst [v])) P q l [v] [R] := by
  have s2 := s.trans (new_same n (.lst [v]))
  refine ⟨ExtN.same e s2, tab_same t s2, upd_same, .cons (st _ _ _ r EB.upd) .nil, fun R' hR => by rw [List.mem_singleton.mp hR]; exact st, fun o h => ?_⟩
  cases o with
  | tbl ps => exact ⟨ps, rfl⟩
  | _ =>
    have z := s _ _ (e _ _ h (fun ps z => by cases z))
    rw [n] at z
    cases z
theorem SttG.same {H0 H H1 : Hp} {P l : Addr} {q : Str} {vs : List V} {Rs : List (Hp → V → Prop)} (S : SttG H0 H P q l vs Rs) (s : Same H H1) : SttG H0 H1 P q l vs Rs :=
  ⟨ExtN.same S.ext s, tab_same S.tab s, s _ _ S.at_, pairs_of (EB.same s) S.stab S.vals, S.stab, S.fresh⟩
/-- ("corner", x) -/
def ItC (x : V) : Hp → V → Prop := fun H v => ∃ t, v = .ref t ∧ H t = some (.tup [.str "corner", x])
/-- [y], apart from l -/
def ItA (l : Addr) (y : V) : Hp → V → Prop := fun H v => ∃ t, v = .ref t ∧ t ≠ l ∧ H t = some (.lst [y])
theorem stab_C (l : Addr) (x : V) : Stab l (fun H v => ItC x H v ∧ ∀ t, v = .ref t → t ≠ l) := by
  rintro H H' v ⟨⟨t, rfl, h⟩, n⟩ e
  exact ⟨⟨t, rfl, e _ _ (n t rfl) h (fun ps z => by cases z)⟩, n⟩
theorem stab_A (l : Addr) (y : V) : Stab l (ItA l y) := by
  rintro H H' v ⟨t, rfl, n, h⟩ e
  exact ⟨t, rfl, n, e _ _ n h (fun ps z => by cases z)⟩
/-- what is heard, by whether x is an end -/
def Heard (l : Addr) (e : Bool) (x y : V) : Hp → V → Prop := fun H v => (e = false ∧ ItC x H v ∧ ∀ t, v = .ref t → t ≠ l) ∨ (e = true ∧ ItA l y H v)
theorem stab_H (l : Addr) (e : Bool) (x y : V) : Stab l (Heard l e x y) := by
  rintro H H' v (⟨a, b⟩ | ⟨a, b⟩) k
  · exact .inl ⟨a, stab_C l x _ _ _ b k⟩
  · exact .inr ⟨a, stab_A l y _ _ _ b k⟩
theorem Dq.tupC {K : PySem.W.Frag} {H : Hp} {v x : V} {D : PyData} (h : ItC x H v) (hx : Dq K H x D) : Dq K H v (.tuple [.str "corner", D]) := by
  obtain ⟨t, rfl, h⟩ := h
  exact .tup (SqT.of h) (.cons (.str _) (.cons hx .nil))
theorem Dq.lstA {K : PySem.W.Frag} {H : Hp} {v y : V} {l : Addr} {D : PyData} (h : ItA l y H v) (hx : Dq K H y D) : Dq K H v (.list [D]) := by
  obtain ⟨t, rfl, _, h⟩ := h
  exact .lst (SqL.of h) (.cons hx .nil)
/-- short data for a thing -/
structure Tiny (D : PyData) : Prop where
  sh : D.showable = true
  lv : D.leavesShort 100 = true
  dp : D.depth ≤ 2
  wt : D.weight ≤ 200
theorem Tiny.pair {D : PyData} (h : Tiny D) : PyData.showable (.tuple [.str "corner", D]) = true ∧ PyData.leavesShort 100 (.tuple [.str "corner", D]) = true ∧ PyData.depth (.tuple [.str "corner", D]) ≤ 3 ∧ PyData.weight (.tuple [.str "corner", D]) ≤ 300 := by
  have c1 : PyData.leavesShort 100 (.str "corner") = true := by decide +kernel
  have c2 : PyData.weight (.str "corner") = 6 := by decide +kernel
  refine ⟨?_, ?_, ?_, ?_⟩
  · simp [PyData.showable, PyData.showableAll, h.sh]
  · simp only [PyData.leavesShort, PyData.leavesShortAll, h.lv, Bool.and_true]
    exact c1
  · have := h.dp
    simp only [PyData.depth, PyData.depthAll]
    omega
  · have := h.wt
    have e : PyData.weight (.tuple [.str "corner", D]) = PyData.weight (.str "corner") + 1 + (PyData.weight D + 1 + 0) := rfl
    rw [e, c2]
    omega
theorem fine4 {a b c d : PyData} (ha : a.showable = true ∧ a.leavesShort 100 = true ∧ a.depth ≤ 3 ∧ a.weight ≤ 300) (hb : b.showable = true ∧ b.leavesShort 100 = true ∧ b.depth ≤ 3 ∧ b.weight ≤ 300)
    (hc : c.showable = true ∧ c.leavesShort 100 = true ∧ c.depth ≤ 3 ∧ c.weight ≤ 300) (hd : d.showable = true ∧ d.leavesShort 100 = true ∧ d.depth ≤ 3 ∧ d.weight ≤ 300) : fine (.list [a, b, c, d]) = true := by
  unfold fine
  simp only [Bool.and_eq_true, decide_eq_true_eq]
  refine ⟨?_, ?_, ?_, ?_⟩
  · simp [PyData.showable, PyData.showableAll, ha.1, hb.1, hc.1, hd.1]
  · simp [PyData.leavesShort, PyData.leavesShortAll, ha.2.1, hb.2.1, hc.2.1, hd.2.1]
  · have := ha.2.2.1
    have := hb.2.2.1
    have := hc.2.2.1
    have := hd.2.2.1
    simp only [PyData.depth, PyData.depthAll]
    omega
  · have e : PyData.weight (.list [a, b, c, d]) = a.weight + 1 + (b.weight + 1 + (c.weight + 1 + (d.weight + 1 + 0))) := rfl
    have := ha.2.2.2
    have := hb.2.2.2
    have := hc.2.2.2
    have := hd.2.2.2
    rw [e]
    omega
theorem one_str {x : Str} (h1 : x.cps.toList.length ≤ 100) (h2 : x.cps.toList.all (fun c => decide (c < 16 ^ 8)) = true) : PyData.showable (.list [.str x]) = true ∧ PyData.leavesShort 100 (.list [.str x]) = true ∧ PyData.depth (.list [.str x]) ≤ 3 ∧ PyData.weight (.list [.str x]) ≤ 300 := by
  refine ⟨rfl, ?_, by simp [PyData.depth, PyData.depthAll], ?_⟩
  · show (PyData.leavesShort 100 (.str x) && PyData.leavesShortAll 100 []) = true
    simp only [PyData.leavesShort, PyData.leavesShortAll, Bool.and_true]
    exact h2
  · have e : PyData.weight (.list [.str x]) = x.cps.size + 1 + 0 := rfl
    rw [e]
    have e2 : x.cps.size = x.cps.toList.length := (Array.length_toList).symm
    omega
theorem one_bool (b : Bool) : PyData.showable (.list [.bool b]) = true ∧ PyData.leavesShort 100 (.list [.bool b]) = true ∧ PyData.depth (.list [.bool b]) ≤ 3 ∧ PyData.weight (.list [.bool b]) ≤ 300 := by
  cases b <;> decide
theorem tiny_str {x : Str} (h1 : x.cps.toList.length ≤ 100) (h2 : x.cps.toList.all (fun c => decide (c < 16 ^ 8)) = true) : Tiny (.str x) := by
  refine ⟨rfl, ?_, by show 0 ≤ 2; omega, ?_⟩
  · simp only [PyData.leavesShort]
    exact h2
  · have e : PyData.weight (.str x) = x.cps.size := rfl
    rw [e]
    have e2 : x.cps.size = x.cps.toList.length := (Array.length_toList).symm
    omega
end KX
/-! sets of texts: made of a list or a tuple, told in order -/
namespace ST
open PySem PySem.Spec PyProof.Rows L2
/-- the text of an entry -/
def tk (e : Int × Value) : Str := match e.2 with | .str k _ => k | _ => Str.empty
/-- an entry of a text -/
def En (w : World) (e : Int × Value) : Prop := ∃ k t, e.2 = Value.str k t ∧ e.1 = hashStr w k
/-- the set of these texts stands at a -/
def At (w : World) (h : Heap) (a : Addr) (L : List Str) : Prop :=
  ∃ o es ep t, h.get? a = some o ∧ o.ExactSet ∧ o.data = .set es ep t ∧ (∀ e ∈ es.toList, En w e) ∧ (es.toList.map tk).Perm L ∧ L.Nodup ∧
    es.size < scanBound ∧ t.fits es.size = true ∧ Ris t.place.toList ∧ (w.params.followText "set-order" = true ∨ t.led = true)
section
variable {P : Program} {w : World} {h h' : Heap} {a : Addr} {L : List Str}
theorem At.at (R : At w h a L) (k : ∀ o, h.get? a = some o → h'.get? a = some o) : At w h' a L := by
  obtain ⟨o, es, ep, t, ho, r⟩ := R
  exact ⟨o, es, ep, t, k o ho, r⟩
theorem elems {l : List (Int × Value)} (g : ∀ e ∈ l, En w e) : ElemsOf (strKind P w) l := fun e he => by
  obtain ⟨k, t, h1, h2⟩ := g e he
  exact ⟨⟨k, by rw [h1]; exact strKind_is P w k t, h2⟩, by rw [h1] <;> rfl⟩
theorem is_iff {e : Int × Value} (g : En w e) (k : Str) : (strKind P w).is k e.2 = true ↔ tk e = k := by
  obtain ⟨k0, t, h1, _⟩ := g
  unfold tk
  rw [h1]
  constructor
  · intro q
    obtain ⟨u, e⟩ := Value.isStrOf_shape (x := k) (v := .str k0 t) q
    injection e
  · intro q
    rw [← q]
    exact strKind_is P w k0 t
theorem mem_iff {l : List (Int × Value)} (g : ∀ e ∈ l, En w e) (k : Str) : k ∈ l.map tk ↔ ∃ e ∈ l, (strKind P w).is k e.2 = true := by
  rw [List.mem_map]
  exact ⟨fun ⟨e, he, q⟩ => ⟨e, he, (is_iff (g e he) k).2 q⟩, fun ⟨e, he, q⟩ => ⟨e, he, (is_iff (g e he) k).1 q⟩⟩
end
section
variable {P : Program} {w : World} {A : Around} {E : Value → Shared → Prop} {s : Shared} {a : Addr} {L : List Str}
/-- behind a new entry: laid, and all laid anew where the table is full -/
theorem tail {g : Bool → Sem Unit} (hg : ∀ (b : Bool) (s₁ : Shared) (Q' : Unit → Shared → Prop), Q' () s₁ → wpAny (model P w) A (g b) Q' E s₁)
    {o : Obj} {es : Array (Int × Value)} {ep : Nat} {t : SetTable} (ho : s.heap.get? a = some o) (hex : o.ExactSet) (hd : o.data = .set es ep t)
    {es1 : Array (Int × Value)} {t2 : SetTable} {L' : List Str} (g1 : ∀ e ∈ es1.toList, En w e) (p1 : (es1.toList.map tk).Perm L') (nd1 : L'.Nodup)
    (hb1 : es1.size < scanBound) (hf2 : t2.fits es1.size = true) (hr : Ris t2.place.toList) (hl : w.params.followText "set-order" = true ∨ t2.led = true) {wasDummy : Bool} {R : Option Bool → Shared → Prop}
    (hR : ∀ h', Heap.SameBut a s.heap h' → At w h' a L' → R (some true) { s with heap := h' }) :
    wpAny (model P w) A (do
        storeSet a es1 t2
        if (!wasDummy && t2.tooFull) = true then do
            g (relayAll t2 es1 (SetTable.grown es1.size)).2.2
            storeSet a (relayAll t2 es1 (SetTable.grown es1.size)).1 (relayAll t2 es1 (SetTable.grown es1.size)).2.1
            pure (some true)
          else pure (some true)) R E s := by
  refine wpAny_bind (wpAny_storeSet_of ho hd ?_ (fits_of_scanBound hb1))
  have o1 := store_at (es' := es1) (t' := t2) ho hd
  have b1 := Heap.SameBut.update s.heap a (Obj.putSet es1 t2)
  split
  · have q1 := relayAll_perm t2 es1 (SetTable.grown es1.size)
    have q2 := relayAll_fits t2 es1 (SetTable.grown es1.size)
    have q3 := relayAll_ris t2 es1 (SetTable.grown es1.size)
    have q4 := relayAll_led t2 es1 (SetTable.grown es1.size)
    generalize relayAll t2 es1 (SetTable.grown es1.size) = Z at q1 q2 q3 q4 ⊢
    obtain ⟨es2, t3, gave⟩ := Z
    dsimp only at q1 q2 q3 q4 ⊢
    have sz : es2.size = es1.size := by rw [← Array.length_toList, q1.length_eq, Array.length_toList]
    have hb2 : es2.size < scanBound := by rw [sz]; exact hb1
    refine wpAny_bind (hg _ _ _ ?_)
    refine wpAny_bind (wpAny_storeSet_of o1 rfl ?_ (fits_of_scanBound hb2))
    have o2 := store_at (es' := es2) (t' := t3) o1 rfl
    refine wpAny_pure (hR _ (b1.trans (Heap.SameBut.update _ a _)) ?_)
    exact ⟨_, es2, _, t3, o2, hex, rfl, fun e he => g1 e (q1.mem_iff.mp he), (q1.map tk).trans p1, nd1, hb2, q2, q3, hl.imp id fun z => by rw [q4]; exact z⟩
  · exact wpAny_pure (hR _ b1 ⟨_, es1, _, t2, o1, hex, rfl, g1, p1, nd1, hb1, hf2, hr, hl⟩)
/-- a text is added -/
theorem add {k : Str} {u : Tok} {Q : Bool → Shared → Prop} (R : At w s.heap a L) (room : L.length + 1 < scanBound)
    (h1 : k ∈ L → Q false s) (h2 : k ∉ L → ∀ h', Heap.SameBut a s.heap h' → At w h' a (k :: L) → Q true { s with heap := h' }) :
    wpAny (model P w) A (setAddHashed a (.str k u) ((strKind P w).hash k)) Q E s := by
  obtain ⟨o, es, ep, t, ho, hex, hd, g, pL, nd, hb, hf, hr, hl⟩ := R
  have key : (strKind P w).is k (.str k u) = true := strKind_is P w k u
  have sc : (Value.str k u).scannable = true := rfl
  have el : ElemsOf (strKind P w) es.toList := elems g
  unfold setAddHashed setAddHashedIn
  refine wpAny_holding (wpAny_bind (wpAny_setState_of ho hd hf ?_))
  dsimp only
  rw [byScan_of sc hb el]
  simp only [↓reduceIte]
  unfold setAddByScan
  refine wpAny_bind ?_
  refine wpAny_bind (wpAny_rule ?_)
  refine wpAny_bind (wpAny_setScan_of key ho hd hf el ?_)
  cases hfi : List.findIdx? (fun e => (strKind P w).is k e.2) es.toList with
  | some j =>
    dsimp only
    obtain ⟨hj, pj, _⟩ := List.findIdx?_eq_some_iff_getElem.mp hfi
    have hk : k ∈ L := pL.mem_iff.mp ((mem_iff (P := P) (w := w) g k).2 ⟨es.toList[j], List.getElem_mem hj, pj⟩)
    exact wpAny_pure (wpAny_pure (h1 hk))
  | none =>
    dsimp only
    have hnk : k ∉ L := fun z => by
      obtain ⟨e, he, q⟩ := (mem_iff (P := P) (w := w) g k).1 (pL.mem_iff.mpr z)
      have c := List.findIdx?_eq_none_iff.mp hfi e he
      rw [q] at c
      cases c
    have gw : ∀ (b : Bool) {s₁ : Shared} {Q' : Unit → Shared → Prop}, Q' () s₁ → wpAny (model P w) A (match b with | true => rule "set.scan.the-table-gave-way" | false => pure ()) Q' E s₁ :=
      fun b s₁ Q' q => by cases b <;> first | exact wpAny_pure q | exact wpAny_rule q
    have q1 := layNew_perm t es ((strKind P w).hash k) (.str k u)
    have q2 := layNew_fits t es ((strKind P w).hash k) (.str k u)
    have q3 := layNew_ris t es ((strKind P w).hash k) (.str k u) hr
    have q4 := layNew_led t es ((strKind P w).hash k) (.str k u)
    generalize layNew t es ((strKind P w).hash k) (.str k u) = Z at q1 q2 q3 q4 ⊢
    obtain ⟨es1, t1, wasDummy, gave⟩ := Z
    dsimp only at q1 q2 q3 q4 ⊢
    rw [Array.toList_push] at q1
    have pc : es1.toList.Perm (((strKind P w).hash k, Value.str k u) :: es.toList) := q1.trans (List.perm_append_singleton _ _)
    have pk : (es1.toList.map tk).Perm (k :: L) := (pc.map tk).trans (List.Perm.cons k pL)
    have g1 : ∀ e ∈ es1.toList, En w e := fun e he => by
      rcases List.mem_cons.mp (pc.mem_iff.mp he) with z | z
      · rw [z]; exact ⟨k, u, rfl, rfl⟩
      · exact g e z
    have nd1 : (k :: L).Nodup := List.nodup_cons.mpr ⟨hnk, nd⟩
    have sz : es1.size = L.length + 1 := by rw [← Array.length_toList, ← List.length_map (f := tk), pk.length_eq, List.length_cons]
    have hb1 : es1.size < scanBound := by rw [sz]; exact room
    have led1 : w.params.followText "set-order" = true ∨ t1.led = true := hl.imp id fun z => by rw [q4]; exact z
    refine wpAny_bind (gw _ ?_)
    split
    · refine wpAny_bind ?_
      rw [hashByValue_scannable 8 sc]
      refine wpAny_pure ?_
      refine tail ?_ ho hex hd g1 pk nd1 hb1 ?_ ?_ ?_ ?_
      · intro b s₁ Q' q; cases b <;> first | exact wpAny_pure q | exact wpAny_rule q
      · first | (split <;> first | exact q2 | exact SetTable.fits_plain_off q2) | exact q2
      · first | (split <;> exact q3) | exact q3
      · first | (split <;> exact led1) | exact led1
      · intro h' sb r; dsimp only; exact wpAny_pure (h2 hnk h' sb r)
    · refine wpAny_bind (wpAny_pure ?_)
      simp only [↓reduceIte]
      refine tail ?_ ho hex hd g1 pk nd1 hb1 q2 q3 led1 ?_
      · intro b s₁ Q' q; cases b <;> first | exact wpAny_pure q | exact wpAny_rule q
      · intro h' sb r; dsimp only; exact wpAny_pure (h2 hnk h' sb r)
/-- what it has of the first ones -/
def Of (xs : List Str) (i : Nat) (L : List Str) : Prop := (∀ k, k ∈ L ↔ k ∈ xs.take i) ∧ L.length ≤ i
theorem loop {I : Addr} {fp wr : List Addr} {G : Array GenState → Array GenState → Prop} {n : Nat} {Pv : Nat → Value → Prop} {St : Nat → Shared → Prop} {R : Result → Shared → Prop}
    (W : WalksS P w A.in1 I fp wr G n Pv St) (S : Addr) (hSf : S ∉ fp) (xs : List Str) (hn : n = xs.length) (few : xs.length < 1000) (val : ∀ i v, Pv i v → ∃ k t, xs[i]? = some k ∧ v = .str k t) :
    ∀ (k i : Nat) (s : Shared), n - i = k → i ≤ n → St i s → (∃ L, At w s.heap S L ∧ Of xs i L) →
      (∀ s' L, Moved (S :: wr) G s s' → At w s'.heap S L → Of xs n L → R (.ok (.ret .none)) s') →
      codeAny (model P w) A (.builtin "set.update.loop" ⟨[.ref S, .ref I], []⟩) R s := by
  have hSw : S ∉ wr := fun h => hSf (W.sub _ h)
  have sub : ∀ b ∈ wr, b ∈ S :: wr := fun b hb => List.mem_cons_of_mem _ hb
  intro k
  induction k with
  | zero =>
    intro i s hk' hi hst ⟨L, hS, g⟩ hR
    have hin : i = n := by omega
    subst hin
    refine codeAny_builtin F.entry_set_update_loop ?_
    rw [Around.under_plainId F.plain_set_update_loop _]
    show wpAny _ A.in1 (pyNext (.ref I) >>= _) _ _ s
    refine wpAny_bind (W.done s _ _ hst fun s' hm => ?_)
    show wpAny _ A.in1 (ret Value.none) _ _ s'
    exact wpAny_pure (hR s' L (hm.mono sub) (hS.at fun o e => hm.heap S o hSw e) g)
  | succ k ih =>
    intro i s hk' hi hst ⟨L, hS, g⟩ hR
    have hlt : i < n := by omega
    refine codeAny_builtin F.entry_set_update_loop ?_
    rw [Around.under_plainId F.plain_set_update_loop _]
    show wpAny _ A.in1 (pyNext (.ref I) >>= _) _ _ s
    refine wpAny_bind (W.item i s _ _ hlt hst fun v s' hP hst' hm => ?_)
    obtain ⟨x, t, hx, rfl⟩ := val i v hP
    have hS' : At w s'.heap S L := hS.at fun o e => hm.heap S o hSw e
    have take1 : xs.take (i + 1) = xs.take i ++ [x] := take_next hx
    show wpAny _ A.in1 (holding [Value.str x t] (setAdd S (.str x t)) >>= _) _ _ s'
    refine wpAny_bind (wpAny_holding ?_)
    unfold setAdd
    refine wpAny_holding ?_
    refine wpAny_bind ((strKind P w).pyHash (k := x) (strKind_is _ _ _ _) ?_)
    refine add (s := { s' with toks := s'.toks + 1 }) hS' (by have := g.2; unfold scanBound; omega) (fun hm2 => ?_) (fun hm2 h' hsb hS2 => ?_)
    · have g' : Of xs (i + 1) L := ⟨fun k => by
        rw [take1, List.mem_append, List.mem_singleton, g.1 k]
        exact ⟨.inl, fun z => z.elim id fun z => by rw [z]; exact (g.1 x).mp hm2⟩, Nat.le_succ_of_le g.2⟩
      refine wpAny_pure ⟨plainId_quiet F.plain_set_update_loop _, ih (i + 1) _ (by omega) hlt (W.frame _ s' _ _ hst' (Nat.le_succ _) fun b hb o e => e) ⟨L, hS', g'⟩ fun s'' L2 hm'' hS'' g'' => ?_⟩
      exact hR s'' L2 (Moved.trans W.gtrans ((hm.mono sub).then_heap (Nat.le_succ _) fun b o hb e => e) hm'') hS'' g''
    · have g' : Of xs (i + 1) (x :: L) := ⟨fun k => by
        rw [take1, List.mem_append, List.mem_singleton, List.mem_cons, g.1 k]
        exact Or.comm, by rw [List.length_cons]; exact Nat.succ_le_succ g.2⟩
      refine wpAny_pure ⟨plainId_quiet F.plain_set_update_loop _, ih (i + 1) _ (by omega) hlt (W.frame _ s' _ _ hst' (Nat.le_succ _) fun b hb o e => ?_) ⟨x :: L, hS2, g'⟩ fun s'' L2 hm'' hS'' g'' => ?_⟩
      · rw [hsb.2 b (fun h : b = S => hSf (by rw [← h]; exact hb))]; exact e
      · refine hR s'' L2 (Moved.trans W.gtrans ((hm.mono sub).then_heap (Nat.le_succ _) fun b o hb e => ?_) hm'') hS'' g''
        rw [hsb.2 b (fun h : b = S => hb (by rw [h]; exact List.mem_cons_self))]; exact e
theorem fresh {h : Heap} (ho : h.get? a = some { cls := .type "set", dict := none, data := .set #[] 0 (.fresh 0 0 (!w.params.followText "set-order")) }) : At w h a [] :=
  ⟨_, #[], 0, _, ho, ⟨rfl, rfl, rfl⟩, rfl, (fun e he => by simp at he), (by simp), List.nodup_nil, (by decide), (by rfl), List.Pairwise.nil, by
    show _ ∨ (!w.params.followText "set-order") = true
    cases w.params.followText "set-order"
    · exact .inr rfl
    · exact .inl rfl⟩
set_option maxRecDepth 100000 in
set_option maxHeartbeats 3200000 in
/-- set(xs), xs a list of texts -/
theorem made_list {l : Addr} {items : Array Value} (xs : List Str) {Q : Value → Shared → Prop} (hh : A.handled = none) (hl : s.heap.IsList l items) (hi : StrsAre items.toList xs) (few : xs.length < 1000)
    (h : ∀ (h' : Heap) (tk : Nat) (L : List Str), At w h' s.heap.objs.size L → Of xs xs.length L → (∀ b o, s.heap.get? b = some o → h'.get? b = some o) → Q (.ref s.heap.objs.size) { s with heap := h', toks := tk }) :
    wpAny (model P w) A (call (.type "set") [.ref l]) Q E s := by
  have szx : items.size = xs.length := by rw [← StrsAre.len_eq hi, Array.length_toList]
  obtain ⟨c, tl, hmro⟩ := F.called_set.mro
  have hmade := F.called_set.made
  have hsub := F.called_set.sub
  refine wpAny_call (codeAny_of_tree ?_)
  show wpAny _ _ (callAny (.type "set") _) _ _ _
  refine wpAny_pure ⟨Code.quiet_builtin _ (by decide +kernel), codeAny_builtin F.entry_type_call ?_⟩
  rw [Around.under_plain (weight_type_call_type "set" [.ref l] []) rfl]
  have h1 := F.called_set.notType
  have h2 := F.called_set.canCreate
  have hct := F.typeCall_set_1 (.ref l)
  repeat (any_goals (first | assumption | wp_step))
  refine codeAny_mono (code_set_led1 (.ref l) (E := E) (Q₁ := fun obj s₁ => obj = .ref s.heap.objs.size ∧ s₁ = { s with heap := s.heap.push { cls := .type "set", dict := none, data := .set #[] 0 (.fresh 0 0 (!w.params.followText "set-order")) } }) ⟨rfl, rfl⟩) fun r s₁ hr => ?_
  cases r with
  | error e => exact hr
  | ok fl =>
    cases fl with
    | ret obj =>
      obtain ⟨rfl, rfl⟩ := hr
      have hS : (s.heap.push { cls := .type "set", dict := none, data := .set #[] 0 (.fresh 0 0 (!w.params.followText "set-order")) }).get? s.heap.objs.size = some { cls := .type "set", dict := none, data := .set #[] 0 (.fresh 0 0 (!w.params.followText "set-order")) } := Heap.get?_push_size _ rfl
      have hT : Shared.TypeIs { s with heap := s.heap.push { cls := .type "set", dict := none, data := .set #[] 0 (.fresh 0 0 (!w.params.followText "set-order")) } } (.ref s.heap.objs.size) "set" := ⟨_, hS, rfl⟩
      have hli := F.called_set.init.lookup
      have hbi := F.called_set.init.bind (.ref s.heap.objs.size)
      repeat (any_goals (first | assumption | wp_step))
      refine codeAny_mono (codeAny_call_builtin (R := wants (fun r s₂ => r = .none ∧ ∃ h' tk L, s₂ = { s with heap := h', toks := tk } ∧ At w h' s.heap.objs.size L ∧ Of xs xs.length L ∧
          (∀ b o, b < s.heap.objs.size → s.heap.get? b = some o → h'.get? b = some o)) E) F.called_set.init.plain F.entry_set_init (check_set_init_1 hT ?_)) fun r₂ s₂ hr₂ => ?_
      · obtain ⟨ol, hol, hcl, nl, hdl⟩ := hl
        obtain ⟨ocls, odict, odata, oslots⟩ := ol
        simp only at hcl hdl
        subst hcl; subst hdl
        have hol' : (s.heap.push { cls := .type "set", dict := none, data := .set #[] 0 (.fresh 0 0 (!w.params.followText "set-order")) }).get? l = some { cls := .type "list", dict := odict, data := .seq items nl, slots := oslots } := Heap.get?_push_of_some _ hol
        have hsls := F.sub_list_set
        have hslf := F.sub_list_frozenset
        have hne : (Value.type "list" == Value.type "dict") = false := by decide
        have hl1 : (s.heap.push { cls := .type "set", dict := none, data := .set #[] 0 (.fresh 0 0 (!w.params.followText "set-order")) }).IsList l items := ⟨_, hol', rfl, nl, rfl⟩
        unfold Builtin.«set.__init__» noKeywords Builtin.Frozenset.updateFrom
        generalize hPI : pyIter = PI
        wp_walk
        subst hPI
        refine wpAny_pyIter_list hl1 ?_
        refine wpAny_bind (wpAny_runValue ?_)
        have hlS : l < s.heap.objs.size := Heap.lt_size hol
        have hh3 : A.in1.in1.in1.handled = none := by simp [hh]
        have hneI : l ≠ (s.heap.push { cls := .type "set", dict := none, data := .set #[] 0 (.fresh 0 0 (!w.params.followText "set-order")) }).objs.size := by
          rw [Heap.size_push]; exact Nat.ne_of_lt (Nat.lt_succ_of_lt hlS)
        have hSf : s.heap.objs.size ∉ [(s.heap.push { cls := .type "set", dict := none, data := .set #[] 0 (.fresh 0 0 (!w.params.followText "set-order")) }).objs.size, l] := by
          rw [Heap.size_push]; simp only [List.mem_cons, List.mem_singleton, List.not_mem_nil, or_false, not_or]
          exact ⟨Nat.ne_of_lt (Nat.lt_succ_self _), Nat.ne_of_gt hlS⟩
        have val : ∀ (i : Nat) (v : Value), items[i]? = some v → ∃ k t, xs[i]? = some k ∧ v = .str k t := fun i v hv => by
          obtain ⟨t, e⟩ := SS.strs_at hi i v (by rw [Array.getElem?_toList]; exact hv)
          have hlt : i < xs.length := by
            have := (Array.getElem?_eq_some_iff.mp hv).1
            omega
          exact ⟨xs[i], t, List.getElem?_eq_getElem hlt, by rw [e]; simp [List.getD, List.getElem?_eq_getElem hlt]⟩
        refine loop ((Walks.list hh3 _ l hneI items).toS) s.heap.objs.size
          hSf xs szx few val (items.size - 0) 0 _ (by omega) (Nat.zero_le _)
          ⟨⟨_, Heap.get?_push_size _ rfl, rfl, rfl⟩, (hl1.push _)⟩ ?hS0 ?hR
        case hS0 =>
          have hget : ((s.heap.push { cls := .type "set", dict := none, data := .set #[] 0 (.fresh 0 0 (!w.params.followText "set-order")) }).push { cls := .type "list_iterator", data := .fields #[.ref l, .int 0 0] }).get? s.heap.objs.size
              = some { cls := .type "set", dict := none, data := .set #[] 0 (.fresh 0 0 (!w.params.followText "set-order")) } := Heap.get?_push_of_some _ hS
          exact ⟨[], fresh hget, fun k => by simp, Nat.le_refl _⟩
        case hR =>
          intro s' L hm hS' g'
          obtain ⟨h', g2, d', tk', os'⟩ := s'
          have eg : g2 = s.gens := hm.gens
          have ed : d' = s.drawn := hm.drawn
          have eo : os' = s.os := hm.os
          subst eg; subst ed; subst eo
          show wpAny _ _ _ _ _ _
          refine wpAny_pure ?_
          show wpAny _ _ (ret Value.none) _ _ _
          rw [szx] at g'
          refine wpAny_pure ⟨rfl, h', tk', L, rfl, hS', g', fun b o hb e => ?_⟩
          have hb1 : b ≠ s.heap.objs.size := Nat.ne_of_lt hb
          have hb2 : b ≠ (s.heap.push { cls := .type "set", dict := none, data := .set #[] 0 (.fresh 0 0 (!w.params.followText "set-order")) }).objs.size := by
            rw [Heap.size_push]; exact Nat.ne_of_lt (Nat.lt_succ_of_lt hb)
          exact hm.heap b o (by simp only [List.mem_cons, List.mem_singleton, List.not_mem_nil, or_false, not_or]; exact ⟨hb1, hb2⟩) (Heap.get?_push_of_some _ (Heap.get?_push_of_some _ e))
      · cases r₂ with
        | error e => exact hr₂
        | ok fl₂ =>
          cases fl₂ with
          | ret r =>
            obtain ⟨rfl, h', tk, L, rfl, hS', g', hk'⟩ := hr₂
            repeat (any_goals (first | assumption | wp_step))
            exact h _ _ _ hS' g' fun b o e => hk' b o (Heap.lt_size e) e
          | _ => exact hr₂.elim
    | _ => exact hr.elim
set_option maxRecDepth 100000 in
set_option maxHeartbeats 3200000 in
/-- set(xs), xs a tuple of texts -/
theorem made_tuple {l : Addr} {items : Array Value} (xs : List Str) {Q : Value → Shared → Prop} (hh : A.handled = none) (hl : s.heap.IsTuple l items) (hi : StrsAre items.toList xs) (few : xs.length < 1000)
    (h : ∀ (h' : Heap) (tk : Nat) (L : List Str), At w h' s.heap.objs.size L → Of xs xs.length L → (∀ b o, s.heap.get? b = some o → h'.get? b = some o) → Q (.ref s.heap.objs.size) { s with heap := h', toks := tk }) :
    wpAny (model P w) A (call (.type "set") [.ref l]) Q E s := by
  have szx : items.size = xs.length := by rw [← StrsAre.len_eq hi, Array.length_toList]
  obtain ⟨c, tl, hmro⟩ := F.called_set.mro
  have hmade := F.called_set.made
  have hsub := F.called_set.sub
  refine wpAny_call (codeAny_of_tree ?_)
  show wpAny _ _ (callAny (.type "set") _) _ _ _
  refine wpAny_pure ⟨Code.quiet_builtin _ (by decide +kernel), codeAny_builtin F.entry_type_call ?_⟩
  rw [Around.under_plain (weight_type_call_type "set" [.ref l] []) rfl]
  have h1 := F.called_set.notType
  have h2 := F.called_set.canCreate
  have hct := F.typeCall_set_1 (.ref l)
  repeat (any_goals (first | assumption | wp_step))
  refine codeAny_mono (code_set_led1 (.ref l) (E := E) (Q₁ := fun obj s₁ => obj = .ref s.heap.objs.size ∧ s₁ = { s with heap := s.heap.push { cls := .type "set", dict := none, data := .set #[] 0 (.fresh 0 0 (!w.params.followText "set-order")) } }) ⟨rfl, rfl⟩) fun r s₁ hr => ?_
  cases r with
  | error e => exact hr
  | ok fl =>
    cases fl with
    | ret obj =>
      obtain ⟨rfl, rfl⟩ := hr
      have hS : (s.heap.push { cls := .type "set", dict := none, data := .set #[] 0 (.fresh 0 0 (!w.params.followText "set-order")) }).get? s.heap.objs.size = some { cls := .type "set", dict := none, data := .set #[] 0 (.fresh 0 0 (!w.params.followText "set-order")) } := Heap.get?_push_size _ rfl
      have hT : Shared.TypeIs { s with heap := s.heap.push { cls := .type "set", dict := none, data := .set #[] 0 (.fresh 0 0 (!w.params.followText "set-order")) } } (.ref s.heap.objs.size) "set" := ⟨_, hS, rfl⟩
      have hli := F.called_set.init.lookup
      have hbi := F.called_set.init.bind (.ref s.heap.objs.size)
      repeat (any_goals (first | assumption | wp_step))
      refine codeAny_mono (codeAny_call_builtin (R := wants (fun r s₂ => r = .none ∧ ∃ h' tk L, s₂ = { s with heap := h', toks := tk } ∧ At w h' s.heap.objs.size L ∧ Of xs xs.length L ∧
          (∀ b o, b < s.heap.objs.size → s.heap.get? b = some o → h'.get? b = some o)) E) F.called_set.init.plain F.entry_set_init (check_set_init_1 hT ?_)) fun r₂ s₂ hr₂ => ?_
      · obtain ⟨ol, hol, hcl, nl, hdl⟩ := hl
        obtain ⟨ocls, odict, odata, oslots⟩ := ol
        simp only at hcl hdl
        subst hcl; subst hdl
        have hol' : (s.heap.push { cls := .type "set", dict := none, data := .set #[] 0 (.fresh 0 0 (!w.params.followText "set-order")) }).get? l = some { cls := .type "tuple", dict := odict, data := .seq items nl, slots := oslots } := Heap.get?_push_of_some _ hol
        have hsls := F.sub_tuple_set
        have hslf := F.sub_tuple_frozenset
        have hne : (Value.type "tuple" == Value.type "dict") = false := by decide
        have hl1 : (s.heap.push { cls := .type "set", dict := none, data := .set #[] 0 (.fresh 0 0 (!w.params.followText "set-order")) }).IsTuple l items := ⟨_, hol', rfl, nl, rfl⟩
        unfold Builtin.«set.__init__» noKeywords Builtin.Frozenset.updateFrom
        generalize hPI : pyIter = PI
        wp_walk
        subst hPI
        refine wpAny_pyIter_tuple hl1 ?_
        refine wpAny_bind (wpAny_runValue ?_)
        have hlS : l < s.heap.objs.size := Heap.lt_size hol
        have hh3 : A.in1.in1.in1.handled = none := by simp [hh]
        have hneI : l ≠ (s.heap.push { cls := .type "set", dict := none, data := .set #[] 0 (.fresh 0 0 (!w.params.followText "set-order")) }).objs.size := by
          rw [Heap.size_push]; exact Nat.ne_of_lt (Nat.lt_succ_of_lt hlS)
        have hSf : s.heap.objs.size ∉ [(s.heap.push { cls := .type "set", dict := none, data := .set #[] 0 (.fresh 0 0 (!w.params.followText "set-order")) }).objs.size, l] := by
          rw [Heap.size_push]; simp only [List.mem_cons, List.mem_singleton, List.not_mem_nil, or_false, not_or]
          exact ⟨Nat.ne_of_lt (Nat.lt_succ_self _), Nat.ne_of_gt hlS⟩
        have val : ∀ (i : Nat) (v : Value), items[i]? = some v → ∃ k t, xs[i]? = some k ∧ v = .str k t := fun i v hv => by
          obtain ⟨t, e⟩ := SS.strs_at hi i v (by rw [Array.getElem?_toList]; exact hv)
          have hlt : i < xs.length := by
            have := (Array.getElem?_eq_some_iff.mp hv).1
            omega
          exact ⟨xs[i], t, List.getElem?_eq_getElem hlt, by rw [e]; simp [List.getD, List.getElem?_eq_getElem hlt]⟩
        refine loop ((Walks.tuple hh3 _ l hneI items).toS) s.heap.objs.size
          hSf xs szx few val (items.size - 0) 0 _ (by omega) (Nat.zero_le _)
          ⟨⟨_, Heap.get?_push_size _ rfl, rfl, rfl⟩, (hl1.push _)⟩ ?hS0 ?hR
        case hS0 =>
          have hget : ((s.heap.push { cls := .type "set", dict := none, data := .set #[] 0 (.fresh 0 0 (!w.params.followText "set-order")) }).push { cls := .type "tuple_iterator", data := .fields #[.ref l, .int 0 0] }).get? s.heap.objs.size
              = some { cls := .type "set", dict := none, data := .set #[] 0 (.fresh 0 0 (!w.params.followText "set-order")) } := Heap.get?_push_of_some _ hS
          exact ⟨[], fresh hget, fun k => by simp, Nat.le_refl _⟩
        case hR =>
          intro s' L hm hS' g'
          obtain ⟨h', g2, d', tk', os'⟩ := s'
          have eg : g2 = s.gens := hm.gens
          have ed : d' = s.drawn := hm.drawn
          have eo : os' = s.os := hm.os
          subst eg; subst ed; subst eo
          show wpAny _ _ _ _ _ _
          refine wpAny_pure ?_
          show wpAny _ _ (ret Value.none) _ _ _
          rw [szx] at g'
          refine wpAny_pure ⟨rfl, h', tk', L, rfl, hS', g', fun b o hb e => ?_⟩
          have hb1 : b ≠ s.heap.objs.size := Nat.ne_of_lt hb
          have hb2 : b ≠ (s.heap.push { cls := .type "set", dict := none, data := .set #[] 0 (.fresh 0 0 (!w.params.followText "set-order")) }).objs.size := by
            rw [Heap.size_push]; exact Nat.ne_of_lt (Nat.lt_succ_of_lt hb)
          exact hm.heap b o (by simp only [List.mem_cons, List.mem_singleton, List.not_mem_nil, or_false, not_or]; exact ⟨hb1, hb2⟩) (Heap.get?_push_of_some _ (Heap.get?_push_of_some _ e))
      · cases r₂ with
        | error e => exact hr₂
        | ok fl₂ =>
          cases fl₂ with
          | ret r =>
            obtain ⟨rfl, h', tk, L, rfl, hS', g', hk'⟩ := hr₂
            repeat (any_goals (first | assumption | wp_step))
            exact h _ _ _ hS' g' fun b o e => hk' b o (Heap.lt_size e) e
          | _ => exact hr₂.elim
    | _ => exact hr.elim
end
end ST
/-! data: what immutable values are, and readings over them without a heap -/
namespace DL
open PySem PySem.Spec PyProof.Rows L2 Gx KX LamX
/-- immutable data -/
inductive D where
  | non | bl (b : Bool) | int (i : Int) | str (x : Str) | tup (ds : List D) | lst (ds : List D) | dct (ks : List (Key × D))
  | ob (c : Str) (fs : List (Str × D)) | cl (c : Str) | pen
  | er (c : Str) (fs : List (Str × D)) | fn (a : Addr)
/-- an error: its class, its fields -/
structure Er where
  c : Str
  fs : List (Str × D)
/-- an error's object: its class, its dict -/
def ErK (C : Addr) (d : Option Addr) (a : Addr) (u : HO) : Prop := ∃ φ : Heap → Prop, u = .ext φ ∧ ∀ h, φ h → ∃ oe : Obj, h.get? a = some oe ∧ Zc (.ref C) d oe ∧ ∃ vs, oe.data = .fields vs
theorem ErK.nt {C : Addr} {d : Option Addr} {a : Addr} {u : HO} (k : ErK C d a u) : ∀ ps, u ≠ .tbl ps := by
  obtain ⟨φ, rfl, _⟩ := k
  intro ps z
  cases z
mutual
/-- v is this data at H; nothing of it stands at M -/
inductive Rp (K : PySem.W.Frag) (p : Addr) (M : Addr → Prop) (H : Hp) : V → D → Prop
  | non : Rp K p M H .non .non
  | bl (b : Bool) : Rp K p M H (.bl b) (.bl b)
  | int (i : Int) : Rp K p M H (.int i) (.int i)
  | str (x : Str) : Rp K p M H (.str x) (.str x)
  | tup {a : Addr} {vs : List V} {ds : List D} : ¬ M a → H a = some (.tup vs) → RpL K p M H vs ds → Rp K p M H (.ref a) (.tup ds)
  | tupS {a : Addr} {vs : List V} {ds : List D} : (∀ H, SqT K H a vs) → RpL K p M H vs ds → Rp K p M H (.ref a) (.tup ds)
  | lst {a : Addr} {vs : List V} {ds : List D} : ¬ M a → H a = some (.lst vs) → RpL K p M H vs ds → Rp K p M H (.ref a) (.lst ds)
  | dct {a : Addr} {kv : List (Key × V)} {ks : List (Key × D)} : ¬ M a → H a = some (.dK kv) → RpK K p M H kv ks → Rp K p M H (.ref a) (.dct ks)
  | ob {a dx : Addr} {c : Str} {fv : List (Str × V)} {fs : List (Str × D)} : ¬ M a → H a = some (.ins (He.ga K c) dx fv) → RpF K p M H fv fs → Rp K p M H (.ref a) (.ob c fs)
  | cl (c : Str) : Rp K p M H (.ref (He.ga K c)) (.cl c)
  | pen : Rp K p M H (.ref p) .pen
  | fn (a : Addr) : Rp K p M H (.ref a) (.fn a)
  | er {a d : Addr} {u : HO} {c : Str} {fv : List (Str × V)} {fs : List (Str × D)} : ¬ M a → ¬ M d → H a = some u → ErK (He.ga K c) (some d) a u → H d = some (.xd fv) → RpF K p M H fv fs → Rp K p M H (.ref a) (.er c fs)
  | er0 {a : Addr} {u : HO} {c : Str} : ¬ M a → H a = some u → ErK (He.ga K c) none a u → Rp K p M H (.ref a) (.er c [])
inductive RpL (K : PySem.W.Frag) (p : Addr) (M : Addr → Prop) (H : Hp) : List V → List D → Prop
  | nil : RpL K p M H [] []
  | cons {v : V} {vs : List V} {d : D} {ds : List D} : Rp K p M H v d → RpL K p M H vs ds → RpL K p M H (v :: vs) (d :: ds)
inductive RpK (K : PySem.W.Frag) (p : Addr) (M : Addr → Prop) (H : Hp) : List (Key × V) → List (Key × D) → Prop
  | nil : RpK K p M H [] []
  | cons {k : Key} {v : V} {vs : List (Key × V)} {d : D} {ds : List (Key × D)} : Rp K p M H v d → RpK K p M H vs ds → RpK K p M H ((k, v) :: vs) ((k, d) :: ds)
inductive RpF (K : PySem.W.Frag) (p : Addr) (M : Addr → Prop) (H : Hp) : List (Str × V) → List (Str × D) → Prop
  | nil : RpF K p M H [] []
  | cons {k : Str} {v : V} {vs : List (Str × V)} {d : D} {ds : List (Str × D)} : Rp K p M H v d → RpF K p M H vs ds → RpF K p M H ((k, v) :: vs) ((k, d) :: ds)
end
/-- all but what stands at M and the tables stays -/
def EM (M : Addr → Prop) (H H' : Hp) : Prop := ∀ b o, ¬ M b → H b = some o → (∀ ps, o ≠ .tbl ps) → H' b = some o
theorem EM.refl (M : Addr → Prop) (H : Hp) : EM M H H := fun _ _ _ h _ => h
theorem EM.trans {M : Addr → Prop} {H H1 H2 : Hp} (a : EM M H H1) (b : EM M H1 H2) : EM M H H2 := fun c o n h t => b c o n (a c o n h t) t
theorem EM.same {M : Addr → Prop} {H H1 : Hp} (e : Same H H1) : EM M H H1 := fun c o _ h _ => e c o h
theorem EM.eb {M : Addr → Prop} {p : Addr} {H H1 : Hp} (e : EB p H H1) (m : M p) : EM M H H1 := fun c o n h t => e c o (fun z => n (z ▸ m)) h t
theorem EM.upd {M : Addr → Prop} {H : Hp} {a : Addr} {o : HO} (m : M a) : EM M H (L2.upd H a o) := fun b u n h _ => by
  rw [upd_ne (fun z => by subst z; exact n m)]
  exact h
section
variable {K : PySem.W.Frag} {p : Addr} {M M' : Addr → Prop} {H H' : Hp}
mutual
theorem Rp.em (e : EM M H H') : ∀ {v : V} {d : D}, Rp K p M H v d → Rp K p M H' v d
  | _, _, .non => .non
  | _, _, .bl b => .bl b
  | _, _, .int i => .int i
  | _, _, .str x => .str x
  | _, _, .tup n h r => .tup n (e _ _ n h (by intro ps z; cases z)) (RpL.em e r)
  | _, _, .tupS h r => .tupS h (RpL.em e r)
  | _, _, .lst n h r => .lst n (e _ _ n h (by intro ps z; cases z)) (RpL.em e r)
  | _, _, .dct n h r => .dct n (e _ _ n h (by intro ps z; cases z)) (RpK.em e r)
  | _, _, .ob n h r => .ob n (e _ _ n h (by intro ps z; cases z)) (RpF.em e r)
  | _, _, .cl c => .cl c
  | _, _, .pen => .pen
  | _, _, .fn a => .fn a
  | _, _, .er n n2 h k h2 r => .er n n2 (e _ _ n h k.nt) k (e _ _ n2 h2 (by intro ps z; cases z)) (RpF.em e r)
  | _, _, .er0 n h k => .er0 n (e _ _ n h k.nt) k
theorem RpL.em (e : EM M H H') : ∀ {vs : List V} {ds : List D}, RpL K p M H vs ds → RpL K p M H' vs ds
  | _, _, .nil => .nil
  | _, _, .cons h r => .cons (Rp.em e h) (RpL.em e r)
theorem RpK.em (e : EM M H H') : ∀ {vs : List (Key × V)} {ds : List (Key × D)}, RpK K p M H vs ds → RpK K p M H' vs ds
  | _, _, .nil => .nil
  | _, _, .cons h r => .cons (Rp.em e h) (RpK.em e r)
theorem RpF.em (e : EM M H H') : ∀ {vs : List (Str × V)} {ds : List (Str × D)}, RpF K p M H vs ds → RpF K p M H' vs ds
  | _, _, .nil => .nil
  | _, _, .cons h r => .cons (Rp.em e h) (RpF.em e r)
end
mutual
/-- fewer places that may change -/
theorem Rp.less (e : ∀ b, M' b → M b) : ∀ {v : V} {d : D}, Rp K p M H v d → Rp K p M' H v d
  | _, _, .non => .non
  | _, _, .bl b => .bl b
  | _, _, .int i => .int i
  | _, _, .str x => .str x
  | _, _, .tup n h r => .tup (fun z => n (e _ z)) h (RpL.less e r)
  | _, _, .tupS h r => .tupS h (RpL.less e r)
  | _, _, .lst n h r => .lst (fun z => n (e _ z)) h (RpL.less e r)
  | _, _, .dct n h r => .dct (fun z => n (e _ z)) h (RpK.less e r)
  | _, _, .ob n h r => .ob (fun z => n (e _ z)) h (RpF.less e r)
  | _, _, .cl c => .cl c
  | _, _, .pen => .pen
  | _, _, .fn a => .fn a
  | _, _, .er n n2 h k h2 r => .er (fun z => n (e _ z)) (fun z => n2 (e _ z)) h k h2 (RpF.less e r)
  | _, _, .er0 n h k => .er0 (fun z => n (e _ z)) h k
theorem RpL.less (e : ∀ b, M' b → M b) : ∀ {vs : List V} {ds : List D}, RpL K p M H vs ds → RpL K p M' H vs ds
  | _, _, .nil => .nil
  | _, _, .cons h r => .cons (Rp.less e h) (RpL.less e r)
theorem RpK.less (e : ∀ b, M' b → M b) : ∀ {vs : List (Key × V)} {ds : List (Key × D)}, RpK K p M H vs ds → RpK K p M' H vs ds
  | _, _, .nil => .nil
  | _, _, .cons h r => .cons (Rp.less e h) (RpK.less e r)
theorem RpF.less (e : ∀ b, M' b → M b) : ∀ {vs : List (Str × V)} {ds : List (Str × D)}, RpF K p M H vs ds → RpF K p M' H vs ds
  | _, _, .nil => .nil
  | _, _, .cons h r => .cons (Rp.less e h) (RpF.less e r)
end
mutual
theorem Rp.more {l : Addr} (f : H l = none) : ∀ {v : V} {d : D}, Rp K p M H v d → Rp K p (fun b => M b ∨ b = l) H v d
  | _, _, .non => .non
  | _, _, .bl b => .bl b
  | _, _, .int i => .int i
  | _, _, .str x => .str x
  | _, _, .tup n h r => .tup (fun z => z.elim n fun z => by subst z; rw [f] at h; cases h) h (RpL.more f r)
  | _, _, .tupS h r => .tupS h (RpL.more f r)
  | _, _, .lst n h r => .lst (fun z => z.elim n fun z => by subst z; rw [f] at h; cases h) h (RpL.more f r)
  | _, _, .dct n h r => .dct (fun z => z.elim n fun z => by subst z; rw [f] at h; cases h) h (RpK.more f r)
  | _, _, .ob n h r => .ob (fun z => z.elim n fun z => by subst z; rw [f] at h; cases h) h (RpF.more f r)
  | _, _, .cl c => .cl c
  | _, _, .pen => .pen
  | _, _, .fn a => .fn a
  | _, _, .er n n2 h k h2 r => .er (fun z => z.elim n fun z => by subst z; rw [f] at h; cases h) (fun z => z.elim n2 fun z => by subst z; rw [f] at h2; cases h2) h k h2 (RpF.more f r)
  | _, _, .er0 n h k => .er0 (fun z => z.elim n fun z => by subst z; rw [f] at h; cases h) h k
theorem RpL.more {l : Addr} (f : H l = none) : ∀ {vs : List V} {ds : List D}, RpL K p M H vs ds → RpL K p (fun b => M b ∨ b = l) H vs ds
  | _, _, .nil => .nil
  | _, _, .cons h r => .cons (Rp.more f h) (RpL.more f r)
theorem RpK.more {l : Addr} (f : H l = none) : ∀ {vs : List (Key × V)} {ds : List (Key × D)}, RpK K p M H vs ds → RpK K p (fun b => M b ∨ b = l) H vs ds
  | _, _, .nil => .nil
  | _, _, .cons h r => .cons (Rp.more f h) (RpK.more f r)
theorem RpF.more {l : Addr} (f : H l = none) : ∀ {vs : List (Str × V)} {ds : List (Str × D)}, RpF K p M H vs ds → RpF K p (fun b => M b ∨ b = l) H vs ds
  | _, _, .nil => .nil
  | _, _, .cons h r => .cons (Rp.more f h) (RpF.more f r)
end
mutual
/-- it stands on while what changes is elsewhere or new -/
theorem Rp.gen (e : EM M H H') (m : ∀ b, M' b → M b ∨ ∀ o, H b = some o → ∃ ps, o = .tbl ps) : ∀ {v : V} {d : D}, Rp K p M H v d → Rp K p M' H' v d
  | _, _, .non => .non
  | _, _, .bl b => .bl b
  | _, _, .int i => .int i
  | _, _, .str x => .str x
  | _, _, .tup n h r => .tup (fun z => (m _ z).elim n fun k => by obtain ⟨ps, q⟩ := k _ h; cases q) (e _ _ n h (by intro ps z; cases z)) (RpL.gen e m r)
  | _, _, .tupS h r => .tupS h (RpL.gen e m r)
  | _, _, .lst n h r => .lst (fun z => (m _ z).elim n fun k => by obtain ⟨ps, q⟩ := k _ h; cases q) (e _ _ n h (by intro ps z; cases z)) (RpL.gen e m r)
  | _, _, .dct n h r => .dct (fun z => (m _ z).elim n fun k => by obtain ⟨ps, q⟩ := k _ h; cases q) (e _ _ n h (by intro ps z; cases z)) (RpK.gen e m r)
  | _, _, .ob n h r => .ob (fun z => (m _ z).elim n fun k => by obtain ⟨ps, q⟩ := k _ h; cases q) (e _ _ n h (by intro ps z; cases z)) (RpF.gen e m r)
  | _, _, .cl c => .cl c
  | _, _, .pen => .pen
  | _, _, .fn a => .fn a
  | _, _, .er n n2 h k h2 r => .er (fun z => (m _ z).elim n fun q => by obtain ⟨ps, q⟩ := q _ h; exact k.nt ps q) (fun z => (m _ z).elim n2 fun k => by obtain ⟨ps, q⟩ := k _ h2; cases q) (e _ _ n h k.nt) k (e _ _ n2 h2 (by intro ps z; cases z)) (RpF.gen e m r)
  | _, _, .er0 n h k => .er0 (fun z => (m _ z).elim n fun q => by obtain ⟨ps, q⟩ := q _ h; exact k.nt ps q) (e _ _ n h k.nt) k
theorem RpL.gen (e : EM M H H') (m : ∀ b, M' b → M b ∨ ∀ o, H b = some o → ∃ ps, o = .tbl ps) : ∀ {vs : List V} {ds : List D}, RpL K p M H vs ds → RpL K p M' H' vs ds
  | _, _, .nil => .nil
  | _, _, .cons h r => .cons (Rp.gen e m h) (RpL.gen e m r)
theorem RpK.gen (e : EM M H H') (m : ∀ b, M' b → M b ∨ ∀ o, H b = some o → ∃ ps, o = .tbl ps) : ∀ {vs : List (Key × V)} {ds : List (Key × D)}, RpK K p M H vs ds → RpK K p M' H' vs ds
  | _, _, .nil => .nil
  | _, _, .cons h r => .cons (Rp.gen e m h) (RpK.gen e m r)
theorem RpF.gen (e : EM M H H') (m : ∀ b, M' b → M b ∨ ∀ o, H b = some o → ∃ ps, o = .tbl ps) : ∀ {vs : List (Str × V)} {ds : List (Str × D)}, RpF K p M H vs ds → RpF K p M' H' vs ds
  | _, _, .nil => .nil
  | _, _, .cons h r => .cons (Rp.gen e m h) (RpF.gen e m r)
end
theorem Rp.sqT {a : Addr} {ds : List D} (h : Rp K p M H (.ref a) (.tup ds)) : ∃ vs, SqT K H a vs ∧ RpL K p M H vs ds := by
  cases h with
  | tup n h r => exact ⟨_, SqT.of h, r⟩
  | tupS h r => exact ⟨_, h _, r⟩
theorem RpL.length : ∀ {vs : List V} {ds : List D}, RpL K p M H vs ds → vs.length = ds.length
  | _, _, .nil => rfl
  | _, _, .cons _ r => by rw [List.length_cons, List.length_cons, r.length]
theorem RpL.get : ∀ {vs : List V} {ds : List D} {i : Nat} {d : D}, RpL K p M H vs ds → ds[i]? = some d → ∃ v, vs[i]? = some v ∧ Rp K p M H v d
  | _, _, _, _, .nil, e => by simp at e
  | _, _, 0, _, .cons h _, e => by simp at e; subst e; exact ⟨_, rfl, h⟩
  | _, _, i + 1, _, .cons _ r, e => by
    obtain ⟨v, h1, h2⟩ := RpL.get (i := i) r (by simpa using e)
    exact ⟨v, by simpa using h1, h2⟩
theorem RpL.getV : ∀ {vs : List V} {ds : List D} {i : Nat} {v : V}, RpL K p M H vs ds → vs[i]? = some v → ∃ d, ds[i]? = some d ∧ Rp K p M H v d
  | _, _, _, _, .nil, e => by simp at e
  | _, _, 0, _, .cons h _, e => by simp at e; subst e; exact ⟨_, rfl, h⟩
  | _, _, i + 1, _, .cons _ r, e => by
    obtain ⟨v, h1, h2⟩ := RpL.getV (i := i) r (by simpa using e)
    exact ⟨v, by simpa using h1, h2⟩
theorem RpL.append : ∀ {vs ws : List V} {ds es : List D}, RpL K p M H vs ds → RpL K p M H ws es → RpL K p M H (vs ++ ws) (ds ++ es)
  | _, _, _, _, .nil, s => s
  | _, _, _, _, .cons h r, s => .cons h (RpL.append r s)
theorem RpL.snoc {vs : List V} {ds : List D} {v : V} {d : D} (h : RpL K p M H vs ds) (r : Rp K p M H v d) : RpL K p M H (vs ++ [v]) (ds ++ [d]) := h.append (.cons r .nil)
theorem RpL.take : ∀ {vs : List V} {ds : List D} (n : Nat), RpL K p M H vs ds → RpL K p M H (vs.take n) (ds.take n)
  | _, _, 0, _ => .nil
  | _, _, _ + 1, .nil => .nil
  | _, _, n + 1, .cons h r => .cons h (RpL.take n r)
theorem RpL.drop : ∀ {vs : List V} {ds : List D} (n : Nat), RpL K p M H vs ds → RpL K p M H (vs.drop n) (ds.drop n)
  | _, _, 0, r => r
  | _, _, _ + 1, .nil => .nil
  | _, _, n + 1, .cons _ r => RpL.drop n r
theorem RpF.lookup {f : Str} {d : D} : ∀ {vs : List (Str × V)} {ds : List (Str × D)}, RpF K p M H vs ds → ds.lookup f = some d → ∃ v, vs.lookup f = some v ∧ Rp K p M H v d
  | _, _, .nil, e => by simp at e
  | _, _, .cons (k := k) h r, e => by
    rw [List.lookup_cons] at e ⊢
    split at e
    · cases e
      exact ⟨_, rfl, h⟩
    · exact RpF.lookup r e
theorem RpF.lookup_none {f : Str} : ∀ {vs : List (Str × V)} {ds : List (Str × D)}, RpF K p M H vs ds → ds.lookup f = none → vs.lookup f = none
  | _, _, .nil, _ => rfl
  | _, _, .cons (k := k) h r, e => by
    rw [List.lookup_cons] at e ⊢
    split at e
    · cases e
    · exact RpF.lookup_none r e
end
end DL
namespace DL
open PySem PySem.Spec PyProof.Rows L2 Gx KX LamX
/-- a pen: its cells, the next one's place (at most n), the rest of a great one -/
def PenAt (H : Hp) (p c : Addr) (n : Nat) : Prop :=
  ∃ (ns : List Int) (a r : Int), H p = some (.lst [.ref c, .int a, .int r]) ∧ c ≠ p ∧ H c = some (.lst (ns.map V.int)) ∧ ns.length ≤ 63 ∧ 0 ≤ a ∧ a ≤ (n : Int) ∧ 0 ≤ r
theorem PenAt.same {H H' : Hp} {p c : Addr} {n : Nat} (h : PenAt H p c n) (s : Same H H') : PenAt H' p c n := by
  obtain ⟨ns, a, r, h1, h2, h3, h4⟩ := h
  exact ⟨ns, a, r, s _ _ h1, h2, s _ _ h3, h4⟩
theorem PenAt.at_ {H : Hp} {p c : Addr} {n : Nat} (h : PenAt H p c n) : ∃ xs, H p = some (.lst xs) := by
  obtain ⟨ns, a, r, h1, _⟩ := h
  exact ⟨_, h1⟩
theorem PenAt.mono {H : Hp} {p c : Addr} {n m : Nat} (h : PenAt H p c n) (f : n ≤ m) : PenAt H p c m := by
  obtain ⟨ns, a, r, h1, h2, h3, h4, h5, h6, h7⟩ := h
  exact ⟨ns, a, r, h1, h2, h3, h4, h5, by omega, h7⟩
inductive Ow where
  | lst (ds : List D) | dct (ks : List (Key × D)) | ins (c : Str) (fs : List (Str × D))
/-- a slot: nothing known, data, an object of the def's own that changes -/
inductive Sl where
  | un | d (x : D) | own (o : Ow)
abbrev Rho := List Sl
abbrev KD := D → Nat → Prop
abbrev XD := Er → Nat → Prop
abbrev TD := Rho → Nat → KD → XD → Prop
abbrev TTD := Rho → Nat → (Bool → Nat → Prop) → XD → Prop
abbrev TAD := Rho → Nat → (List D → Nat → Prop) → XD → Prop
structure EnD where
  nx : Rho → Nat → Prop
  rt : KD
  ex : XD
  bk : Rho → Nat → Prop := fun _ _ => False
  ct : Rho → Nat → Prop := fun _ _ => False
abbrev TSD := EnD → Rho → Nat → Prop
/-- what is fixed while a def runs: the pen, the tables of code objects, what may change, the heap at its entry -/
structure Wd where
  K : PySem.W.Frag
  p : Addr
  q : Addr
  ts : List (Addr × Str)
  M : Addr → Prop
  C : Addr → Prop
  He : Hp
def Al (M : Addr → Prop) (H : Hp) : Prop := ∀ b, M b → ∃ o, H b = some o ∧ ∀ ps, o ≠ .tbl ps
def Mu (W : Wd) (ρ : Rho) (σ : L2.St) (b : Addr) : Prop := W.M b ∨ ∃ (i : Nat) (o : Ow), ρ[i]? = some (Sl.own o) ∧ σ[i]? = some (some (V.ref b))
def OwOk (W : Wd) (M : Addr → Prop) (H : Hp) (a : Addr) : Ow → Prop
  | .lst ds => ∃ vs, H a = some (.lst vs) ∧ RpL W.K W.p M H vs ds
  | .dct ks => ∃ kv, H a = some (.dK kv) ∧ RpK W.K W.p M H kv ks
  | .ins c fs => ∃ dx fv, H a = some (.ins (He.ga W.K c) dx fv) ∧ RpF W.K W.p M H fv fs
structure EnvOk (W : Wd) (ρ : Rho) (n : Nat) (σ : L2.St) (H : Hp) : Prop where
  sl : ∀ (i : Nat) (x : D), ρ[i]? = some (Sl.d x) → ∃ v, σ[i]? = some (some v) ∧ Rp W.K W.p (Mu W ρ σ) H v x
  ow : ∀ (i : Nat) (o : Ow), ρ[i]? = some (Sl.own o) → ∃ a, σ[i]? = some (some (V.ref a)) ∧ OwOk W (Mu W ρ σ) H a o ∧ a ≠ W.p ∧ ∀ u, W.He a = some u → ∃ ps, u = .tbl ps
  inj : ∀ (i j : Nat) (o o' : Ow) (a : Addr), ρ[i]? = some (Sl.own o) → ρ[j]? = some (Sl.own o') → σ[i]? = some (some (V.ref a)) → σ[j]? = some (some (V.ref a)) → i = j
  pen : PenAt H W.p W.q n
  tab : Tabs W.ts H
  base : EM W.C W.He H
  cp : W.C W.p
  cm : ∀ b, W.C b → W.M b
  mq : W.M W.q
  mal : Al W.M W.He
  mlv : Al W.M H
  len : ρ.length = σ.length
section
variable {W : Wd} {ρ : Rho} {n n' : Nat} {σ : L2.St} {H H' : Hp}
theorem EnvOk.mp (e : EnvOk W ρ n σ H) : W.M W.p := e.cm _ e.cp
theorem EnvOk.mup (e : EnvOk W ρ n σ H) : Mu W ρ σ W.p := .inl e.mp
theorem OwOk.em {M : Addr → Prop} {a : Addr} {o : Ow} (h : OwOk W M H a o) (e : EM M H H') (k : ∀ u, H a = some u → (∀ ps, u ≠ .tbl ps) → H' a = some u) : OwOk W M H' a o := by
  cases o with
  | lst ds =>
    obtain ⟨vs, h1, h2⟩ := h
    exact ⟨vs, k _ h1 (by intro ps z; cases z), h2.em e⟩
  | dct ks =>
    obtain ⟨vs, h1, h2⟩ := h
    exact ⟨vs, k _ h1 (by intro ps z; cases z), h2.em e⟩
  | ins c fs =>
    obtain ⟨dx, vs, h1, h2⟩ := h
    exact ⟨dx, vs, k _ h1 (by intro ps z; cases z), h2.em e⟩
theorem OwOk.there {M : Addr → Prop} {a : Addr} {o : Ow} (h : OwOk W M H a o) : ∃ u, H a = some u ∧ ∀ ps, u ≠ .tbl ps := by
  cases o with
  | lst ds =>
    obtain ⟨vs, h1, _⟩ := h
    exact ⟨_, h1, by intro ps z; cases z⟩
  | dct ks =>
    obtain ⟨vs, h1, _⟩ := h
    exact ⟨_, h1, by intro ps z; cases z⟩
  | ins c fs =>
    obtain ⟨dx, vs, h1, _⟩ := h
    exact ⟨_, h1, by intro ps z; cases z⟩
theorem OwOk.less {M M' : Addr → Prop} {a : Addr} {o : Ow} (h : OwOk W M H a o) (e : ∀ b, M' b → M b) : OwOk W M' H a o := by
  cases o with
  | lst ds =>
    obtain ⟨vs, h1, h2⟩ := h
    exact ⟨vs, h1, h2.less e⟩
  | dct ks =>
    obtain ⟨vs, h1, h2⟩ := h
    exact ⟨vs, h1, h2.less e⟩
  | ins c fs =>
    obtain ⟨dx, vs, h1, h2⟩ := h
    exact ⟨dx, vs, h1, h2.less e⟩
theorem OwOk.more {M : Addr → Prop} {a l : Addr} {o : Ow} (h : OwOk W M H a o) (f : H l = none) : OwOk W (fun b => M b ∨ b = l) H a o := by
  cases o with
  | lst ds =>
    obtain ⟨vs, h1, h2⟩ := h
    exact ⟨vs, h1, h2.more f⟩
  | dct ks =>
    obtain ⟨vs, h1, h2⟩ := h
    exact ⟨vs, h1, h2.more f⟩
  | ins c fs =>
    obtain ⟨dx, vs, h1, h2⟩ := h
    exact ⟨dx, vs, h1, h2.more f⟩
theorem EnvOk.al (e : EnvOk W ρ n σ H) : Al (Mu W ρ σ) H := fun b m => by
  rcases m with m | ⟨i, o, h1, h2⟩
  · exact e.mlv b m
  · obtain ⟨a, g1, g2, _⟩ := e.ow i o h1
    rw [h2] at g1
    cases g1
    exact g2.there
/-- a fresh place is none that changes -/
theorem Al.fresh {M : Addr → Prop} {a : Addr} (h : Al M H) (f : H a = none) : ¬ M a := fun m => by
  obtain ⟨o, e, _⟩ := h a m
  rw [f] at e
  cases e
theorem Al.eb {M : Addr → Prop} {p c : Addr} {m : Nat} (h : Al M H) (e : EB p H H') (q : PenAt H' p c m) : Al M H' := fun b mb => by
  by_cases hb : b = p
  · obtain ⟨xs, z⟩ := q.at_
    exact ⟨_, hb ▸ z, by intro ps z; cases z⟩
  · obtain ⟨o, h1, t⟩ := h b mb
    exact ⟨o, e b o hb h1 t, t⟩
theorem EnvOk.step (e : EnvOk W ρ n σ H) (k : EB W.p H H') (q : PenAt H' W.p W.q n') (t : Tabs W.ts H') : EnvOk W ρ n' σ H' := by
  have em : EM (Mu W ρ σ) H H' := EM.eb k e.mup
  refine ⟨fun i x h => ?_, fun i o h => ?_, e.inj, q, t, e.base.trans (EM.eb k e.cp), e.cp, e.cm, e.mq, e.mal, Al.eb e.mlv k q, e.len⟩
  · obtain ⟨v, h1, h2⟩ := e.sl i x h
    exact ⟨v, h1, h2.em em⟩
  · obtain ⟨a, h1, h2, h3, h4⟩ := e.ow i o h
    exact ⟨a, h1, h2.em em (fun u hu hn => k a u h3 hu hn), h3, h4⟩
theorem EnvOk.same (e : EnvOk W ρ n σ H) (s : Same H H') : EnvOk W ρ n σ H' := e.step (EB.same s) (e.pen.same s) (e.tab.ext s)
theorem EnvOk.mono (e : EnvOk W ρ n σ H) (h : n ≤ n') : EnvOk W ρ n' σ H := ⟨e.sl, e.ow, e.inj, e.pen.mono h, e.tab, e.base, e.cp, e.cm, e.mq, e.mal, e.mlv, e.len⟩
theorem set_get {α : Type} {l : List α} {i j : Nat} {a b : α} (h : (l.set i a)[j]? = some b) : (j = i ∧ b = a) ∨ (j ≠ i ∧ l[j]? = some b) := by
  by_cases e : j = i
  · subst e
    left
    refine ⟨rfl, ?_⟩
    rw [List.getElem?_set] at h
    rw [if_pos rfl] at h
    split at h
    · exact (Option.some.inj h).symm
    · cases h
  · right
    refine ⟨e, ?_⟩
    rw [List.getElem?_set, if_neg (fun z => e z.symm)] at h
    exact h
theorem mu_set {i : Nat} {x : D} {v : V} {b : Addr} (m : Mu W (ρ.set i (Sl.d x)) (σ.set i (some v)) b) : Mu W ρ σ b := by
  rcases m with m | ⟨j, o, h1, h2⟩
  · exact .inl m
  · rcases set_get h1 with ⟨_, e⟩ | ⟨ne, e⟩
    · cases e
    · rw [List.getElem?_set, if_neg (fun z => ne z.symm)] at h2
      exact .inr ⟨j, o, e, h2⟩
theorem EnvOk.set {i : Nat} {x : D} {v : V} (e : EnvOk W ρ n σ H) (r : Rp W.K W.p (Mu W ρ σ) H v x) : EnvOk W (ρ.set i (Sl.d x)) n (σ.set i (some v)) H := by
  have le : ∀ b, Mu W (ρ.set i (Sl.d x)) (σ.set i (some v)) b → Mu W ρ σ b := fun b => mu_set
  refine ⟨fun j y h => ?_, fun j o h => ?_, fun j k o o' a h1 h2 h3 h4 => ?_, e.pen, e.tab, e.base, e.cp, e.cm, e.mq, e.mal, e.mlv, by rw [List.length_set, List.length_set, e.len]⟩
  · rcases set_get h with ⟨rfl, z⟩ | ⟨ne, z⟩
    · cases z
      have hl : j < σ.length := by
        have := (List.getElem?_eq_some_iff.mp h).1
        rw [List.length_set, e.len] at this
        exact this
      exact ⟨v, by rw [List.getElem?_set, if_pos rfl, if_pos hl], r.less le⟩
    · obtain ⟨w, h1, h2⟩ := e.sl j y z
      exact ⟨w, by rw [List.getElem?_set, if_neg (fun z => ne z.symm)]; exact h1, h2.less le⟩
  · rcases set_get h with ⟨_, z⟩ | ⟨ne, z⟩
    · cases z
    · obtain ⟨a, h1, h2, h3⟩ := e.ow j o z
      exact ⟨a, by rw [List.getElem?_set, if_neg (fun z => ne z.symm)]; exact h1, h2.less le, h3⟩
  · rcases set_get h1 with ⟨_, z⟩ | ⟨n1, z1⟩
    · cases z
    · rcases set_get h2 with ⟨_, z⟩ | ⟨n2, z2⟩
      · cases z
      · rw [List.getElem?_set, if_neg (fun z => n1 z.symm)] at h3
        rw [List.getElem?_set, if_neg (fun z => n2 z.symm)] at h4
        exact e.inj j k o o' a z1 z2 h3 h4
/-- what changes, with an own object more -/
theorem mu_own {i : Nat} {o : Ow} {a b : Addr} (m : Mu W (ρ.set i (Sl.own o)) (σ.set i (some (.ref a))) b) : Mu W ρ σ b ∨ b = a := by
  rcases m with m | ⟨j, o', h1, h2⟩
  · exact .inl (.inl m)
  · rcases set_get h1 with ⟨e, z⟩ | ⟨ne, e⟩
    · subst e
      rcases set_get h2 with ⟨_, z2⟩ | ⟨n2, _⟩
      · cases z2
        exact .inr rfl
      · exact absurd rfl n2
    · rw [List.getElem?_set, if_neg (fun z => ne z.symm)] at h2
      exact .inl (.inr ⟨j, o', e, h2⟩)
/-- a new object becomes the def's own -/
theorem EnvOk.own {i : Nat} {o : Ow} {u : HO} {a : Addr} (e : EnvOk W ρ n σ H) (f : H a = none)
    (h : ∀ H', (∀ b w, H b = some w → H' b = some w) → H' a = some u → OwOk W (fun b => Mu W ρ σ b ∨ b = a) H' a o) (nt : ∀ ps, u ≠ .tbl ps) : EnvOk W (ρ.set i (Sl.own o)) n (σ.set i (some (.ref a))) (upd H a u) := by
  have le : ∀ b, Mu W (ρ.set i (Sl.own o)) (σ.set i (some (.ref a))) b → Mu W ρ σ b ∨ b = a := fun b => mu_own
  have s := new_same f u
  have e' := e.same s
  have em : EM (fun b => Mu W ρ σ b ∨ b = a) H (upd H a u) := EM.same s
  refine ⟨fun j y h => ?_, fun j o' h' => ?_, fun j k o1 o2 b h1 h2 h3 h4 => ?_, e'.pen, e'.tab, e'.base, e.cp, e.cm, e.mq, e.mal, e'.mlv, by rw [List.length_set, List.length_set, e.len]⟩
  · rcases set_get h with ⟨_, z⟩ | ⟨ne, z⟩
    · cases z
    · obtain ⟨w, h1, h2⟩ := e.sl j y z
      exact ⟨w, by rw [List.getElem?_set, if_neg (fun z => ne z.symm)]; exact h1, ((h2.more f).em em).less le⟩
  · rcases set_get h' with ⟨rfl, z⟩ | ⟨ne, z⟩
    · cases z
      have hl : j < σ.length := by
        have := (List.getElem?_eq_some_iff.mp h').1
        rw [List.length_set, e.len] at this
        exact this
      refine ⟨a, by rw [List.getElem?_set, if_pos rfl, if_pos hl], (h (upd H a u) s upd_same).less le, fun z => ?_, fun w hw => ?_⟩
      · obtain ⟨xs, q⟩ := e.pen.at_
        rw [z, q] at f
        cases f
      · by_cases ht : ∃ ps, w = .tbl ps
        · exact ht
        · have q := e.base a w (fun z => by
            obtain ⟨o, q, _⟩ := e.mlv a (e.cm _ z)
            rw [q] at f
            cases f) hw (fun ps z => ht ⟨ps, z⟩)
          rw [f] at q
          cases q
    · obtain ⟨b, h1, h2, h3⟩ := e.ow j o' z
      refine ⟨b, by rw [List.getElem?_set, if_neg (fun z => ne z.symm)]; exact h1, ((h2.more f).em em (fun w hw _ => s _ _ hw)).less le, h3⟩
  · have old : ∀ (j : Nat) (o1 : Ow), ρ[j]? = some (Sl.own o1) → σ[j]? = some (some (V.ref a)) → False := fun j o1 g1 g2 => by
      obtain ⟨b, q1, q2, _⟩ := e.ow j o1 g1
      rw [g2] at q1
      cases q1
      obtain ⟨w, q3, _⟩ := q2.there
      rw [f] at q3
      cases q3
    rcases set_get h1 with ⟨e1, z1⟩ | ⟨n1, z1⟩
    · rcases set_get h2 with ⟨e2, z2⟩ | ⟨n2, z2⟩
      · rw [e1, e2]
      · rcases set_get h3 with ⟨_, z3⟩ | ⟨n3, _⟩
        · cases z3
          rw [List.getElem?_set, if_neg (fun z => n2 z.symm)] at h4
          exact (old _ _ z2 h4).elim
        · exact absurd e1 n3
    · rw [List.getElem?_set, if_neg (fun z => n1 z.symm)] at h3
      rcases set_get h2 with ⟨e2, z2⟩ | ⟨n2, z2⟩
      · rcases set_get h4 with ⟨_, z3⟩ | ⟨n3, _⟩
        · cases z3
          exact (old _ _ z1 h3).elim
        · exact absurd e2 n3
      · rw [List.getElem?_set, if_neg (fun z => n2 z.symm)] at h4
        exact e.inj j k o1 o2 b z1 z2 h3 h4
/-- the own object's data, as it will be when it changes no more -/
def Ow.toD : Ow → D
  | .lst ds => .lst ds
  | .dct ks => .dct ks
  | .ins c fs => .ob c fs
theorem mu_freeze {i : Nat} {x : D} {b : Addr} (m : Mu W (ρ.set i (Sl.d x)) σ b) : Mu W ρ σ b := by
  rcases m with m | ⟨j, o, h1, h2⟩
  · exact .inl m
  · rcases set_get h1 with ⟨_, e⟩ | ⟨ne, e⟩
    · cases e
    · exact .inr ⟨j, o, e, h2⟩
/-- it changes no more -/
theorem EnvOk.freeze {i : Nat} {o : Ow} (e : EnvOk W ρ n σ H) (h : ρ[i]? = some (Sl.own o)) : EnvOk W (ρ.set i (Sl.d o.toD)) n σ H := by
  have le : ∀ b, Mu W (ρ.set i (Sl.d o.toD)) σ b → Mu W ρ σ b := fun b => mu_freeze
  refine ⟨fun j y h' => ?_, fun j o' h' => ?_, fun j k o1 o2 b h1 h2 h3 h4 => ?_, e.pen, e.tab, e.base, e.cp, e.cm, e.mq, e.mal, e.mlv, by rw [List.length_set, e.len]⟩
  · rcases set_get h' with ⟨rfl, z⟩ | ⟨ne, z⟩
    · cases z
      obtain ⟨a, h1, h2, h3, h4⟩ := e.ow j o h
      have na : ¬ Mu W (ρ.set j (Sl.d o.toD)) σ a := fun m => by
        rcases m with m | ⟨k, o', g1, g2⟩
        · obtain ⟨u, q1, q2⟩ := e.mal a m
          obtain ⟨ps, q3⟩ := h4 u q1
          exact q2 ps q3
        · rcases set_get g1 with ⟨_, q⟩ | ⟨nk, q⟩
          · cases q
          · exact nk (e.inj k j o' o a q h g2 h1)
      refine ⟨.ref a, h1, ?_⟩
      cases o with
      | lst ds =>
        obtain ⟨vs, q1, q2⟩ := h2
        exact .lst na q1 (q2.less le)
      | dct ks =>
        obtain ⟨vs, q1, q2⟩ := h2
        exact .dct na q1 (q2.less le)
      | ins c fs =>
        obtain ⟨dx, vs, q1, q2⟩ := h2
        exact .ob na q1 (q2.less le)
    · obtain ⟨w, h1, h2⟩ := e.sl j y z
      exact ⟨w, h1, h2.less le⟩
  · rcases set_get h' with ⟨_, z⟩ | ⟨ne, z⟩
    · cases z
    · obtain ⟨a, h1, h2, h3⟩ := e.ow j o' z
      exact ⟨a, h1, h2.less le, h3⟩
  · rcases set_get h1 with ⟨_, z⟩ | ⟨n1, z1⟩
    · cases z
    · rcases set_get h2 with ⟨_, z⟩ | ⟨n2, z2⟩
      · cases z
      · exact e.inj j k o1 o2 b z1 z2 h3 h4
theorem mu_keep {i : Nat} {o o' : Ow} (h : ρ[i]? = some (Sl.own o)) (b : Addr) : Mu W (ρ.set i (Sl.own o')) σ b ↔ Mu W ρ σ b := by
  constructor
  · rintro (m | ⟨j, u, h1, h2⟩)
    · exact .inl m
    · rcases set_get h1 with ⟨rfl, _⟩ | ⟨ne, e⟩
      · exact .inr ⟨j, o, h, h2⟩
      · exact .inr ⟨j, u, e, h2⟩
  · rintro (m | ⟨j, u, h1, h2⟩)
    · exact .inl m
    · by_cases e : j = i
      · subst e
        refine .inr ⟨j, o', ?_, h2⟩
        rw [List.getElem?_set, if_pos rfl, if_pos (List.getElem?_eq_some_iff.mp h).1]
      · exact .inr ⟨j, u, by rw [List.getElem?_set, if_neg (fun z => e z.symm)]; exact h1, h2⟩
/-- an own object is changed -/
theorem EnvOk.put {i : Nat} {o o' : Ow} {a : Addr} {u : HO} (e : EnvOk W ρ n σ H) (h : ρ[i]? = some (Sl.own o)) (ha : σ[i]? = some (some (V.ref a)))
    (hu : ∀ H', H' a = some u → EM (Mu W ρ σ) H H' → OwOk W (Mu W ρ σ) H' a o') : EnvOk W (ρ.set i (Sl.own o')) n σ (upd H a u) := by
  obtain ⟨a', g1, g2, g3, g4⟩ := e.ow i o h
  rw [ha] at g1
  cases g1
  obtain ⟨w0, t1, t2⟩ := g2.there
  have ma : Mu W ρ σ a := .inr ⟨i, o, h, ha⟩
  have em : EM (Mu W ρ σ) H (upd H a u) := EM.upd ma
  have le : ∀ b, Mu W (ρ.set i (Sl.own o')) σ b → Mu W ρ σ b := fun b => (mu_keep h b).mp
  refine ⟨fun j y h' => ?_, fun j u' h' => ?_, fun j k o1 o2 b h1 h2 h3 h4 => ?_, ?_, ?_, ?_, e.cp, e.cm, e.mq, e.mal, ?_, by rw [List.length_set, e.len]⟩
  · rcases set_get h' with ⟨_, z⟩ | ⟨ne, z⟩
    · cases z
    · obtain ⟨v, h1, h2⟩ := e.sl j y z
      exact ⟨v, h1, (h2.em em).less le⟩
  · rcases set_get h' with ⟨rfl, z⟩ | ⟨ne, z⟩
    · cases z
      exact ⟨a, ha, (hu _ upd_same em).less le, g3, g4⟩
    · obtain ⟨b, h1, h2, h3⟩ := e.ow j u' z
      have nb : b ≠ a := fun z2 => by
        subst z2
        exact ne (e.inj j i u' o b z h h1 ha)
      exact ⟨b, h1, (h2.em em (fun w hw _ => by rw [upd_ne nb]; exact hw)).less le, h3⟩
  · have old : ∀ (j : Nat) (u : Ow), (ρ.set i (Sl.own o'))[j]? = some (Sl.own u) → ∃ u', ρ[j]? = some (Sl.own u') := fun j u g => by
      rcases set_get g with ⟨rfl, _⟩ | ⟨_, z⟩
      · exact ⟨o, h⟩
      · exact ⟨u, z⟩
    obtain ⟨u1, q1⟩ := old j o1 h1
    obtain ⟨u2, q2⟩ := old k o2 h2
    exact e.inj j k u1 u2 b q1 q2 h3 h4
  · obtain ⟨ns, x, r, p1, p2, p3, p4⟩ := e.pen
    have hc : W.q ≠ a := fun z => by
      obtain ⟨u0, m1, m2⟩ := e.mal _ e.mq
      rw [z] at m1
      obtain ⟨ps, q⟩ := g4 u0 m1
      exact absurd q (m2 ps)
    exact ⟨ns, x, r, by rw [upd_ne (fun z => g3 z.symm)]; exact p1, p2, by rw [upd_ne hc]; exact p3, p4⟩
  · intro pq hp
    obtain ⟨ps, h1, h2, h3⟩ := e.tab pq hp
    refine ⟨ps, by rw [upd_ne (ne_of h1 t1 (fun z => t2 ps z.symm))]; exact h1, h2, fun pos cv hc => ?_⟩
    obtain ⟨d, e1, e2⟩ := h3 pos cv hc
    refine ⟨d, e1, ?_⟩
    rw [upd_ne (fun z => ?_)]
    · exact e2
    · rw [z] at e2
      unfold CodeO at e2
      cases o with
      | lst ds =>
        obtain ⟨vs, q1, _⟩ := g2
        rw [e2] at q1
        cases q1
      | dct ks =>
        obtain ⟨vs, q1, _⟩ := g2
        rw [e2] at q1
        cases q1
      | ins c fs =>
        obtain ⟨dx, vs, q1, _⟩ := g2
        rw [e2] at q1
        cases q1
  · intro b w nb hb tb
    by_cases hba : b = a
    · subst hba
      obtain ⟨ps, q⟩ := g4 w hb
      exact absurd q (tb ps)
    · rw [upd_ne hba]
      exact e.base b w nb hb tb
  · intro b mb
    have nba : b ≠ a := fun z => by
      subst z
      obtain ⟨u0, m1, m2⟩ := e.mal b mb
      obtain ⟨ps, q⟩ := g4 u0 m1
      exact absurd q (m2 ps)
    obtain ⟨o, q1, q2⟩ := e.mlv b mb
    exact ⟨o, by rw [upd_ne nba]; exact q1, q2⟩
/-- from one state of a def to a later one -/
structure Rl (W : Wd) (ρ : Rho) (σ : L2.St) (H : Hp) (ρ' : Rho) (σ' : L2.St) (H' : Hp) : Prop where
  em : EM (Mu W ρ σ) H H'
  mu : ∀ b, Mu W ρ' σ' b → Mu W ρ σ b ∨ ∀ o, H b = some o → ∃ ps, o = .tbl ps
  ins : ∀ (i : Nat) (c : Str) (fs : List (Str × D)), ρ'[i]? = some (Sl.own (.ins c fs)) → (∃ fs', ρ[i]? = some (Sl.own (.ins c fs'))) ∧ σ'[i]? = σ[i]?
theorem Rl.same (k : EM (Mu W ρ σ) H H') : Rl W ρ σ H ρ σ H' := ⟨k, fun _ m => .inl m, fun _ _ fs h => ⟨⟨fs, h⟩, rfl⟩⟩
theorem Rl.refl : Rl W ρ σ H ρ σ H := Rl.same (EM.refl _ _)
theorem Rl.eb (k : EB W.p H H') (m : W.M W.p) : Rl W ρ σ H ρ σ H' := Rl.same (EM.eb k (.inl m))
theorem Rl.trans {ρ1 ρ2 : Rho} {σ1 σ2 : L2.St} {H1 H2 : Hp} (a : Rl W ρ σ H ρ1 σ1 H1) (b : Rl W ρ1 σ1 H1 ρ2 σ2 H2) : Rl W ρ σ H ρ2 σ2 H2 := by
  have key : ∀ c o, ¬ Mu W ρ σ c → H c = some o → (∀ ps, o ≠ .tbl ps) → ¬ Mu W ρ1 σ1 c := fun c o n h t m => by
    rcases a.mu c m with z | z
    · exact n z
    · obtain ⟨ps, q⟩ := z o h
      exact t ps q
  refine ⟨fun c o n h t => b.em c o (key c o n h t) (a.em c o n h t) t, fun c m => ?_, fun i c fs h => ?_⟩
  · by_cases mu : Mu W ρ σ c
    · exact .inl mu
    · right
      intro o ho
      by_cases ht : ∃ ps, o = .tbl ps
      · exact ht
      · have nt : ∀ ps, o ≠ .tbl ps := fun ps z => ht ⟨ps, z⟩
        rcases b.mu c m with z | z
        · exact (key c o mu ho nt z).elim
        · exact z o (a.em c o mu ho nt)
  · obtain ⟨⟨fs1, h1⟩, e1⟩ := b.ins i c fs h
    obtain ⟨h2, e2⟩ := a.ins i c fs1 h1
    exact ⟨h2, e1.trans e2⟩
theorem Rl.set {i : Nat} {x : D} {v : V} : Rl W ρ σ H (ρ.set i (Sl.d x)) (σ.set i (some v)) H := ⟨EM.refl _ _, fun _ m => .inl (mu_set m), fun j c fs h => by
  rcases set_get h with ⟨_, z⟩ | ⟨ne, z⟩
  · cases z
  · exact ⟨⟨fs, z⟩, by rw [List.getElem?_set, if_neg (fun z => ne z.symm)]⟩⟩
theorem Rl.freeze {i : Nat} {x : D} : Rl W ρ σ H (ρ.set i (Sl.d x)) σ H := ⟨EM.refl _ _, fun _ m => .inl (mu_freeze m), fun j c fs h => by
  rcases set_get h with ⟨_, z⟩ | ⟨ne, z⟩
  · cases z
  · exact ⟨⟨fs, z⟩, rfl⟩⟩
theorem Rl.own {i : Nat} {o : Ow} {a : Addr} {u : HO} (f : H a = none) (ni : ∀ c fs, o ≠ .ins c fs) : Rl W ρ σ H (ρ.set i (Sl.own o)) (σ.set i (some (.ref a))) (upd H a u) := ⟨EM.same (new_same f u), fun b m => by
  rcases mu_own m with z | z
  · exact .inl z
  · subst z
    exact .inr fun o ho => (by rw [f] at ho; cases ho), fun j c fs h => by
  rcases set_get h with ⟨_, z⟩ | ⟨ne, z⟩
  · cases z; exact (ni _ _ rfl).elim
  · exact ⟨⟨fs, z⟩, by rw [List.getElem?_set, if_neg (fun z => ne z.symm)]⟩⟩
theorem Rl.put {i : Nat} {o o' : Ow} {a : Addr} {u : HO} (h : ρ[i]? = some (Sl.own o)) (ha : σ[i]? = some (some (.ref a))) (ni : ∀ c fs, o' = .ins c fs → ∃ fs', o = .ins c fs') : Rl W ρ σ H (ρ.set i (Sl.own o')) σ (upd H a u) :=
  ⟨EM.upd (.inr ⟨i, o, h, ha⟩), fun b m => .inl ((mu_keep h b).mp m), fun j c fs h' => by
  rcases set_get h' with ⟨rfl, z⟩ | ⟨ne, z⟩
  · cases z
    obtain ⟨fs', e⟩ := ni c fs rfl
    exact ⟨⟨fs', e ▸ h⟩, rfl⟩
  · exact ⟨⟨fs, z⟩, rfl⟩⟩
theorem Rl.rp {ρ' : Rho} {σ' : L2.St} {v : V} {d : D} (k : Rl W ρ σ H ρ' σ' H') (r : Rp W.K W.p (Mu W ρ σ) H v d) : Rp W.K W.p (Mu W ρ' σ') H' v d := r.gen k.em k.mu
end
end DL
namespace DL
open PySem PySem.Spec PyProof.Rows L2 Gx KX LamX
/-! ### readings over data, and what they are over the heap -/
def ErR (W : Wd) (H : Hp) (cls : Value) (dd : Option Addr) (er : Er) : Prop :=
  cls = .ref (He.ga W.K er.c) ∧ ((dd = none ∧ er.fs = []) ∨ ∃ d fv, dd = some d ∧ H d = some (.xd fv) ∧ RpF W.K W.p W.M H fv er.fs ∧ ¬ W.M d)
def ExW (W : Wd) (E : XK) (Ψ : XD) : Prop := ∀ er n cls dd H', Ψ er n → EM W.C W.He H' → PenAt H' W.p W.q n → Tabs W.ts H' → ErR W H' cls dd er → E cls dd H'
def lift (W : Wd) (E : XK) (τ : TD) : TE := fun σ H Q => ∃ (ρ : Rho) (n : Nat) (Φ : KD) (Ψ : XD), EnvOk W ρ n σ H ∧ τ ρ n Φ Ψ ∧
  (∀ v H' d n', Φ d n' → EnvOk W ρ n' σ H' → EB W.p H H' → Rp W.K W.p (Mu W ρ σ) H' v d → Q v H') ∧ ExW W E Ψ
def liftT (W : Wd) (E : XK) (τ : TTD) : TT := fun σ H Q => ∃ (ρ : Rho) (n : Nat) (Φ : Bool → Nat → Prop) (Ψ : XD), EnvOk W ρ n σ H ∧ τ ρ n Φ Ψ ∧
  (∀ b H' n', Φ b n' → EnvOk W ρ n' σ H' → EB W.p H H' → Q b H') ∧ ExW W E Ψ
def liftA (W : Wd) (E : XK) (τ : TAD) : TA := fun σ H Q => ∃ (ρ : Rho) (n : Nat) (Φ : List D → Nat → Prop) (Ψ : XD), EnvOk W ρ n σ H ∧ τ ρ n Φ Ψ ∧
  (∀ vs H' ds n', Φ ds n' → EnvOk W ρ n' σ H' → EB W.p H H' → RpL W.K W.p (Mu W ρ σ) H' vs ds → Q vs H') ∧ ExW W E Ψ
structure EndsOk (W : Wd) (E : XK) (ρ : Rho) (σ : L2.St) (H : Hp) (Dn : Ends) (En : EnD) : Prop where
  nx : ∀ σ' H' ρ' n', En.nx ρ' n' → EnvOk W ρ' n' σ' H' → Rl W ρ σ H ρ' σ' H' → Dn.nx σ' H'
  bk : ∀ σ' H' ρ' n', En.bk ρ' n' → EnvOk W ρ' n' σ' H' → Rl W ρ σ H ρ' σ' H' → Dn.bk σ' H'
  ct : ∀ σ' H' ρ' n', En.ct ρ' n' → EnvOk W ρ' n' σ' H' → Rl W ρ σ H ρ' σ' H' → Dn.ct σ' H'
  rt : ∀ v H' d n', En.rt d n' → EM W.C W.He H' → PenAt H' W.p W.q n' → Tabs W.ts H' → Rp W.K W.p W.M H' v d → Dn.rt v H'
  ex : ExW W E En.ex
def liftS (W : Wd) (E : XK) (τ : TSD) : TS := fun Dn σ H => ∃ (ρ : Rho) (n : Nat) (En : EnD), EnvOk W ρ n σ H ∧ τ En ρ n ∧ EndsOk W E ρ σ H Dn En
theorem EndsOk.from {W : Wd} {E : XK} {ρ ρ1 : Rho} {σ σ1 : L2.St} {H H1 : Hp} {Dn : Ends} {En : EnD} (k : EndsOk W E ρ σ H Dn En) (r : Rl W ρ σ H ρ1 σ1 H1) : EndsOk W E ρ1 σ1 H1 Dn En :=
  ⟨fun σ' H' ρ' n' h e q => k.nx σ' H' ρ' n' h e (r.trans q), fun σ' H' ρ' n' h e q => k.bk σ' H' ρ' n' h e (r.trans q), fun σ' H' ρ' n' h e q => k.ct σ' H' ρ' n' h e (r.trans q), k.rt, k.ex⟩
theorem pe_imp {X : Cx} {e : Expr} {t t' : TE} (h : PE X e t) (k : ∀ σ H Q, t' σ H Q → t σ H Q) : PE X e t' := ⟨fun pins s σ H Q I q => h.run pins s σ H Q I (k _ _ _ q)⟩
theorem pt_imp {X : Cx} {e : Expr} {t t' : TT} (h : PT X e t) (k : ∀ σ H Q, t' σ H Q → t σ H Q) : PT X e t' := ⟨fun pins s σ H Q I q => h.run pins s σ H Q I (k _ _ _ q)⟩
theorem pw_imp {X : Cx} {e : Expr} {t t' : TT} (h : PW X e t) (k : ∀ σ H Q, t' σ H Q → t σ H Q) : PW X e t' := ⟨fun wh pins s σ H Q I q => h.run wh pins s σ H Q I (k _ _ _ q)⟩
theorem pa_imp {X : Cx} {e : List Expr} {t t' : TA} (h : PA X e t) (k : ∀ σ H Q, t' σ H Q → t σ H Q) : PA X e t' := ⟨fun wh pins s σ H Q I q => h.run wh pins s σ H Q I (k _ _ _ q)⟩
theorem ps_imp {X : Cx} {e : Stmt} {t t' : TS} (h : PS X e t) (k : ∀ D σ H, t' D σ H → t D σ H) : PS X e t' := ⟨fun pins s σ H D I q => h.run pins s σ H D I (k _ _ _ q)⟩
/-! what an operation is over data -/
def rD (W : Wd) (f : D → D → (D → Prop) → Prop) : R2 := fun x y H Q => ∃ (M : Addr → Prop) (d e : D) (k : D → Prop), Al M H ∧ Rp W.K W.p M H x d ∧ Rp W.K W.p M H y e ∧ f d e k ∧
  ∀ v H' z, k z → Same H H' → Rp W.K W.p M H' v z → Q v H'
def uD (W : Wd) (f : D → (D → Prop) → Prop) : V → Hp → VK → Prop := fun x H Q => ∃ (M : Addr → Prop) (d : D) (k : D → Prop), Al M H ∧ Rp W.K W.p M H x d ∧ f d k ∧
  ∀ v H' z, k z → Same H H' → Rp W.K W.p M H' v z → Q v H'
def cD (W : Wd) (f : List D → (D → Prop) → Prop) : List V → Hp → VK → Prop := fun xs H Q => ∃ (M : Addr → Prop) (ds : List D) (k : D → Prop), Al M H ∧ RpL W.K W.p M H xs ds ∧ f ds k ∧
  ∀ v H' z, k z → Same H H' → Rp W.K W.p M H' v z → Q v H'
/-! ### the words -/
def dVar (i : Nat) : TD := fun ρ n Φ _ => ∃ x, ρ[i]? = some (Sl.d x) ∧ Φ x n
def dC (d : D) : TD := fun _ n Φ _ => Φ d n
def dOp2 (f : D → D → (D → Prop) → Prop) (a b : TD) : TD := fun ρ n Φ Ψ => a ρ n (fun x n1 => b ρ n1 (fun y n2 => f x y fun z => Φ z n2) Ψ) Ψ
def dUn (f : D → (D → Prop) → Prop) (a : TD) : TD := fun ρ n Φ Ψ => a ρ n (fun x n1 => f x fun z => Φ z n1) Ψ
def dCB (f : List D → (D → Prop) → Prop) (a : TAD) : TD := fun ρ n Φ Ψ => a ρ n (fun xs n1 => f xs fun z => Φ z n1) Ψ
def dNil : TAD := fun _ n Φ _ => Φ [] n
def dCons (a : TD) (r : TAD) : TAD := fun ρ n Φ Ψ => a ρ n (fun x n1 => r ρ n1 (fun xs n2 => Φ (x :: xs) n2) Ψ) Ψ
def dStar (a : TD) (r : TAD) : TAD := fun ρ n Φ Ψ => a ρ n (fun x n1 => ∃ xs, (x = .tup xs ∨ x = .lst xs) ∧ r ρ n1 (fun ys n2 => Φ (xs ++ ys) n2) Ψ) Ψ
def dTup (a : TAD) : TD := fun ρ n Φ Ψ => a ρ n (fun xs n1 => xs.length ≤ sizeLine ∧ Φ (.tup xs) n1) Ψ
def dLst (a : TAD) : TD := fun ρ n Φ Ψ => a ρ n (fun xs n1 => xs.length ≤ sizeLine ∧ Φ (.lst xs) n1) Ψ
/-- a value's truth -/
def truD : D → (Bool → Prop) → Prop
  | .non, k => k false
  | .bl b, k => k b
  | .int i, k => k (i != 0)
  | .str x, k => x.length ≤ sizeLine ∧ k ((x.length : Int) != 0)
  | .tup ds, k => k (!ds.isEmpty)
  | .lst ds, k => k (!ds.isEmpty)
  | .dct ks, k => k (!ks.isEmpty)
  | _, _ => False
def dTru (a : TD) : TTD := fun ρ n Φ Ψ => a ρ n (fun x n1 => truD x fun b => Φ b n1) Ψ
def dTest (a : TD) : TTD := fun ρ n Φ Ψ => a ρ n (fun x n1 => ∃ b, x = .bl b ∧ Φ b n1) Ψ
def dAnd (a b : TTD) : TTD := fun ρ n Φ Ψ => a ρ n (fun c n1 => if c = true then b ρ n1 Φ Ψ else Φ false n1) Ψ
def dOr (a b : TTD) : TTD := fun ρ n Φ Ψ => a ρ n (fun c n1 => if c = true then Φ true n1 else b ρ n1 Φ Ψ) Ψ
def dNot (a : TTD) : TTD := fun ρ n Φ Ψ => a ρ n (fun c n1 => Φ (!c) n1) Ψ
def dIf (t : TTD) (a b : TD) : TD := fun ρ n Φ Ψ => t ρ n (fun c n1 => if c = true then a ρ n1 Φ Ψ else b ρ n1 Φ Ψ) Ψ
def dAndV (a b : TD) : TD := fun ρ n Φ Ψ => a ρ n (fun x n1 => truD x fun c => if c = true then b ρ n1 Φ Ψ else Φ x n1) Ψ
def dOrV (a b : TD) : TD := fun ρ n Φ Ψ => a ρ n (fun x n1 => truD x fun c => if c = true then Φ x n1 else b ρ n1 Φ Ψ) Ψ
def dNotV (a : TD) : TD := fun ρ n Φ Ψ => a ρ n (fun x n1 => truD x fun c => Φ (.bl (!c)) n1) Ψ
def dFld (f : Str) (a : TD) : TD := fun ρ n Φ Ψ => a ρ n (fun x n1 => ∃ c fs y, x = .ob c fs ∧ fs.lookup f = some y ∧ Φ y n1) Ψ
/-! statements -/
def sNext : TSD := fun E ρ n => E.nx ρ n
def sSeq (t u : TSD) : TSD := fun E ρ n => t { E with nx := u E } ρ n
def sDrop (a : TD) : TSD := fun E ρ n => a ρ n (fun _ n1 => E.nx ρ n1) E.ex
def sRet (a : TD) : TSD := fun E ρ n => a ρ n E.rt E.ex
def sRetN : TSD := fun E _ n => E.rt .non n
def sIf (c : TTD) (t u : TSD) : TSD := fun E ρ n => c ρ n (fun b n1 => if b = true then t E ρ n1 else u E ρ n1) E.ex
def sSet (i : Nat) (a : TD) : TSD := fun E ρ n => a ρ n (fun x n1 => E.nx (ρ.set i (.d x)) n1) E.ex
section
variable {X : Cx} {W : Wd} {E : XK}
theorem lift_val {ρ : Rho} {n n' : Nat} {σ : L2.St} {H H1 H' : Hp} {M : Addr → Prop} (a : EB W.p H H1) (s : Same H1 H') : EB W.p H H' := a.trans (EB.same s)
theorem EnvOk.eb {ρ : Rho} {n : Nat} {σ : L2.St} {H H1 : Hp} (e : EnvOk W ρ n σ H) (k : EB W.p H H1) : EM (Mu W ρ σ) H H1 := EM.eb k e.mup
theorem dx_var (i : Nat) {x : Str} {pos : Pos} (h : PE X (.Name x pos) (tVar i)) : PE X (.Name x pos) (lift W E (dVar i)) := pe_imp h fun σ H Q ⟨ρ, n, Φ, Ψ, e, ⟨x, hx, t⟩, k, _⟩ => by
  obtain ⟨v, h1, h2⟩ := e.sl i x hx
  exact ⟨v, h1, k v H x n t e (EB.refl _ _) h2⟩
theorem dx_c {e : Expr} {v : V} {d : D} (h : PE X e (tC v)) (r : ∀ M H, Rp W.K W.p M H v d) : PE X e (lift W E (dC d)) := pe_imp h fun σ H Q ⟨ρ, n, Φ, Ψ, e, t, k, _⟩ => k v H d n t e (EB.refl _ _) (r _ _)
theorem dx_int {i j pos} : PE X (.Constant (.int i) j pos) (lift W E (dC (.int i))) := dx_c pe_int fun _ _ => .int i
theorem dx_bl {i j pos} : PE X (.Constant (.bool i) j pos) (lift W E (dC (.bl i))) := dx_c pe_bl fun _ _ => .bl i
theorem dx_non {j pos} : PE X (.Constant .none j pos) (lift W E (dC .non)) := dx_c pe_non fun _ _ => .non
theorem dx_str {i j pos} : PE X (.Constant (.str i) j pos) (lift W E (dC (.str i))) := dx_c pe_str fun _ _ => .str i
/-- a class by its name -/
theorem dx_cls {c : Str} {pos : Pos} (hg : Gl X c) (hm : X.mg c = some (.ref (He.ga W.K c))) (hd : (c == ("__debug__" : Str)) = false := by decide) : PE X (.Name c pos) (lift W E (dC (.cl c))) :=
  dx_c (pe_glob (v := .ref (He.ga W.K c)) hg hm rfl hd) fun _ _ => .cl c
theorem two {a b : TD} {ρ : Rho} {n : Nat} {σ : L2.St} {H : Hp} {Φ : KD} {Ψ : XD} {f : D → D → (D → Prop) → Prop} {Q : VK} (e : EnvOk W ρ n σ H) (t : dOp2 f a b ρ n Φ Ψ)
    (k : ∀ v H' d n', Φ d n' → EnvOk W ρ n' σ H' → EB W.p H H' → Rp W.K W.p (Mu W ρ σ) H' v d → Q v H') (x : ExW W E Ψ) : tOp (rD W f) (lift W E a) (lift W E b) σ H Q :=
  ⟨ρ, n, _, Ψ, e, t, fun v H1 d n1 h1 e1 k1 r1 => ⟨ρ, n1, _, Ψ, e1, h1, fun u H2 c n2 h2 e2 k2 r2 =>
    ⟨Mu W ρ σ, d, c, _, e2.al, r1.em (e1.eb k2), r2, h2, fun w H3 z hz s r3 => k w H3 z n2 hz (e2.same s) ((k1.trans k2).trans (EB.same s)) r3⟩, x⟩, x⟩
theorem dx_op {f : D → D → (D → Prop) → Prop} {a b : Expr} {op : Operator} {ta tb : TD} {pos : Pos} (ho : OpR X (binaryOp op) (rD W f)) (ha : PE X a (lift W E ta)) (hb : PE X b (lift W E tb)) :
    PE X (.BinOp a op b pos) (lift W E (dOp2 f ta tb)) := pe_imp (pe_op ho ha hb) fun σ H Q ⟨ρ, n, Φ, Ψ, e, t, k, x⟩ => two e t k x
theorem dx_cmp {f : D → D → (D → Prop) → Prop} {a b : Expr} {op : CmpOp} {ta tb : TD} {pos : Pos} (ho : OpR X (compareOp op) (rD W f)) (ha : PE X a (lift W E ta)) (hb : PE X b (lift W E tb)) (hm : behindInMarks op b = false) :
    PE X (.Compare a [op] [b] pos) (lift W E (dOp2 f ta tb)) := pe_imp (pe_cmpR ho ha hb hm) fun σ H Q ⟨ρ, n, Φ, Ψ, e, t, k, x⟩ => two e t k x
theorem dt_cmp {f : D → D → (D → Prop) → Prop} {a b : Expr} {op : CmpOp} {ta tb : TD} {pos : Pos} (ho : OpR X (compareOp op) (rD W f)) (ha : PE X a (lift W E ta)) (hb : PE X b (lift W E tb)) (hm : behindInMarks op b = false) :
    PT X (.Compare a [op] [b] pos) (liftT W E (dTest (dOp2 f ta tb))) := pt_imp (pt_cmpR ho ha hb hm) fun σ H Q ⟨ρ, n, Φ, Ψ, e, t, k, x⟩ =>
  two (E := E) (Φ := fun d n' => ∃ b, d = .bl b ∧ Φ b n') e t (fun v H' d n' hd e' k' r => by
    obtain ⟨b, rfl, hb⟩ := hd
    cases r
    exact ⟨b, rfl, k b H' n' hb e' k'⟩) x
theorem dx_un {f : D → (D → Prop) → Prop} {a : Expr} {op : UnaryOp} {ta : TD} {pos : Pos} (ho : UnR X (unaryOp op) (uD W f)) (ha : PE X a (lift W E ta)) :
    PE X (.UnaryOp op a pos) (lift W E (dUn f ta)) := pe_imp (pe_un ho ha) fun σ H Q ⟨ρ, n, Φ, Ψ, e, t, k, x⟩ =>
  ⟨ρ, n, _, Ψ, e, t, fun v H1 d n1 h1 e1 k1 r1 => ⟨Mu W ρ σ, d, _, e1.al, r1, h1, fun w H3 z hz s r3 => k w H3 z n1 hz (e1.same s) (k1.trans (EB.same s)) r3⟩, x⟩
theorem tru_of {M : Addr → Prop} {H : Hp} {v : V} {d : D} {k : Bool → Prop} (r : Rp W.K W.p M H v d) (t : truD d k) : ∃ b, TruV W.K v H b ∧ k b := by
  cases r with
  | non => exact ⟨_, rfl, t⟩
  | bl b => exact ⟨_, rfl, t⟩
  | int i => exact ⟨_, rfl, t⟩
  | str x => exact ⟨_, ⟨t.1, rfl⟩, t.2⟩
  | tup n h r =>
    refine ⟨_, .inr (.inl ⟨_, SqT.of h, rfl⟩), ?_⟩
    cases r <;> exact t
  | tupS h r =>
    refine ⟨_, .inr (.inl ⟨_, h _, rfl⟩), ?_⟩
    cases r <;> exact t
  | lst n h r =>
    refine ⟨_, .inl ⟨_, SqL.of h, rfl⟩, ?_⟩
    cases r <;> exact t
  | dct n h r =>
    refine ⟨_, .inr (.inr ⟨_, h, rfl⟩), ?_⟩
    cases r <;> exact t
  | ob => exact t.elim
  | cl => exact t.elim
  | pen => exact t.elim
  | er => exact t.elim
  | fn => exact t.elim
  | er0 => exact t.elim
theorem dt_tru (hK : X.K = W.K) {a : Expr} {ta : TD} (ha : PE X a (lift W E ta)) (he : ∀ whole, isTrue a X.env whole = (do let v ← whole; standAt a.pos; holding [v] (truthy v)) := by intro _; rfl) :
    PT X a (liftT W E (dTru ta)) := pt_imp (pt_truth ha he) fun σ H Q ⟨ρ, n, Φ, Ψ, e, t, k, x⟩ =>
  ⟨ρ, n, _, Ψ, e, t, fun v H1 d n1 h1 e1 k1 r1 => by
    obtain ⟨b, hb, q⟩ := tru_of r1 h1
    exact ⟨b, hK ▸ hb, k b H1 n1 q e1 k1⟩, x⟩
theorem liftT_sub {t u : TTD} {ρ : Rho} {n : Nat} {σ : L2.St} {H : Hp} {Φ : Bool → Nat → Prop} {Ψ : XD} (e : EnvOk W ρ n σ H) (q : u ρ n Φ Ψ) {Q : Bool → Hp → Prop}
    (k : ∀ b H' n', Φ b n' → EnvOk W ρ n' σ H' → EB W.p H H' → Q b H') (x : ExW W E Ψ) : liftT W E u σ H Q := ⟨ρ, n, Φ, Ψ, e, q, k, x⟩
theorem dw_and1 {a : Expr} {pos : Pos} {ta : TTD} (ha : PT X a (liftT W E ta)) : PW X (.BoolOp .And [a] pos) (liftT W E ta) := pw_and1 ha
theorem dw_or1 {a : Expr} {pos : Pos} {ta : TTD} (ha : PT X a (liftT W E ta)) : PW X (.BoolOp .Or [a] pos) (liftT W E ta) := pw_or1 ha
theorem dw_and {a b : Expr} {rest : List Expr} {pos : Pos} {ta tb : TTD} (ha : PT X a (liftT W E ta)) (hb : PW X (.BoolOp .And (b :: rest) pos) (liftT W E tb)) : PW X (.BoolOp .And (a :: b :: rest) pos) (liftT W E (dAnd ta tb)) :=
  pw_imp (pw_and ha hb) fun σ H Q ⟨ρ, n, Φ, Ψ, e, t, k, x⟩ => ⟨ρ, n, _, Ψ, e, t, fun b H1 n1 h1 e1 k1 => by
    cases b with
    | true => exact ⟨ρ, n1, Φ, Ψ, e1, h1, fun b H2 n2 h2 e2 k2 => k b H2 n2 h2 e2 (k1.trans k2), x⟩
    | false => exact k false H1 n1 h1 e1 k1, x⟩
theorem dw_or {a b : Expr} {rest : List Expr} {pos : Pos} {ta tb : TTD} (ha : PT X a (liftT W E ta)) (hb : PW X (.BoolOp .Or (b :: rest) pos) (liftT W E tb)) : PW X (.BoolOp .Or (a :: b :: rest) pos) (liftT W E (dOr ta tb)) :=
  pw_imp (pw_or ha hb) fun σ H Q ⟨ρ, n, Φ, Ψ, e, t, k, x⟩ => ⟨ρ, n, _, Ψ, e, t, fun b H1 n1 h1 e1 k1 => by
    cases b with
    | false => exact ⟨ρ, n1, Φ, Ψ, e1, h1, fun b H2 n2 h2 e2 k2 => k b H2 n2 h2 e2 (k1.trans k2), x⟩
    | true => exact k true H1 n1 h1 e1 k1, x⟩
theorem dt_not {a : Expr} {pos : Pos} {ta : TTD} (ha : PT X a (liftT W E ta)) : PT X (.UnaryOp .Not a pos) (liftT W E (dNot ta)) :=
  pt_imp (pt_not ha) fun σ H Q ⟨ρ, n, Φ, Ψ, e, t, k, x⟩ => ⟨ρ, n, _, Ψ, e, t, fun b H1 n1 h1 e1 k1 => k (!b) H1 n1 h1 e1 k1, x⟩
theorem dx_if {c a b : Expr} {pos : Pos} {tc : TTD} {ta tb : TD} (hc : PT X c (liftT W E tc)) (ha : PE X a (lift W E ta)) (hb : PE X b (lift W E tb)) : PE X (.IfExp c a b pos) (lift W E (dIf tc ta tb)) :=
  pe_imp (pe_ifExp hc ha hb) fun σ H Q ⟨ρ, n, Φ, Ψ, e, t, k, x⟩ => ⟨ρ, n, _, Ψ, e, t, fun b H1 n1 h1 e1 k1 => by
    cases b with
    | true => exact ⟨ρ, n1, Φ, Ψ, e1, h1, fun v H2 d n2 h2 e2 k2 r => k v H2 d n2 h2 e2 (k1.trans k2) r, x⟩
    | false => exact ⟨ρ, n1, Φ, Ψ, e1, h1, fun v H2 d n2 h2 e2 k2 r => k v H2 d n2 h2 e2 (k1.trans k2) r, x⟩, x⟩
theorem dx_one {op} {a : Expr} {pos : Pos} {ta : TD} (h : PE X a (lift W E ta)) : PE X (.BoolOp op [a] pos) (lift W E ta) := pe_one h
theorem dx_and (hK : X.K = W.K) {a b : Expr} {rest : List Expr} {pos : Pos} {ta tb : TD} (ha : PE X a (lift W E ta)) (hb : PE X (.BoolOp .And (b :: rest) pos) (lift W E tb)) : PE X (.BoolOp .And (a :: b :: rest) pos) (lift W E (dAndV ta tb)) :=
  pe_imp (pe_andT ha hb) fun σ H Q ⟨ρ, n, Φ, Ψ, e, t, k, x⟩ => ⟨ρ, n, _, Ψ, e, t, fun v H1 d n1 h1 e1 k1 r1 => by
    obtain ⟨b, hb, q⟩ := tru_of r1 h1
    refine ⟨b, hK ▸ hb, ?_⟩
    cases b with
    | true => exact ⟨ρ, n1, Φ, Ψ, e1, q, fun v H2 d n2 h2 e2 k2 r => k v H2 d n2 h2 e2 (k1.trans k2) r, x⟩
    | false => exact k v H1 d n1 q e1 k1 r1, x⟩
theorem dx_or (hK : X.K = W.K) {a b : Expr} {rest : List Expr} {pos : Pos} {ta tb : TD} (ha : PE X a (lift W E ta)) (hb : PE X (.BoolOp .Or (b :: rest) pos) (lift W E tb)) : PE X (.BoolOp .Or (a :: b :: rest) pos) (lift W E (dOrV ta tb)) :=
  pe_imp (pe_orT ha hb) fun σ H Q ⟨ρ, n, Φ, Ψ, e, t, k, x⟩ => ⟨ρ, n, _, Ψ, e, t, fun v H1 d n1 h1 e1 k1 r1 => by
    obtain ⟨b, hb, q⟩ := tru_of r1 h1
    refine ⟨b, hK ▸ hb, ?_⟩
    cases b with
    | false => exact ⟨ρ, n1, Φ, Ψ, e1, q, fun v H2 d n2 h2 e2 k2 r => k v H2 d n2 h2 e2 (k1.trans k2) r, x⟩
    | true => exact k v H1 d n1 q e1 k1 r1, x⟩
theorem dx_not (hK : X.K = W.K) {a : Expr} {pos : Pos} {ta : TD} (ha : PE X a (lift W E ta)) : PE X (.UnaryOp .Not a pos) (lift W E (dNotV ta)) :=
  pe_imp (pe_notT ha) fun σ H Q ⟨ρ, n, Φ, Ψ, e, t, k, x⟩ => ⟨ρ, n, _, Ψ, e, t, fun v H1 d n1 h1 e1 k1 r1 => by
    obtain ⟨b, hb, q⟩ := tru_of r1 h1
    exact ⟨b, hK ▸ hb, k _ H1 _ n1 q e1 k1 (.bl _)⟩, x⟩
theorem da_nil : PA X [] (liftA W E dNil) := pa_imp pa_nil fun σ H Q ⟨ρ, n, Φ, Ψ, e, t, k, x⟩ => k [] H [] n t e (EB.refl _ _) .nil
theorem da_cons {e : Expr} {es : List Expr} {ta : TD} {tr : TAD} (ha : PE X e (lift W E ta)) (hr : PA X es (liftA W E tr)) (hs : starEach (e :: es) X.env = (false, eval e X.env) :: starEach es X.env := by rfl) :
    PA X (e :: es) (liftA W E (dCons ta tr)) := pa_imp (pa_cons ha hr hs) fun σ H Q ⟨ρ, n, Φ, Ψ, e, t, k, x⟩ =>
  ⟨ρ, n, _, Ψ, e, t, fun v H1 d n1 h1 e1 k1 r1 => ⟨ρ, n1, _, Ψ, e1, h1, fun vs H2 ds n2 h2 e2 k2 r2 => k _ H2 _ n2 h2 e2 (k1.trans k2) (.cons (r1.em (e1.eb k2)) r2), x⟩, x⟩
theorem da_star (hK : X.K = W.K) {e : Expr} {p : Pos} {es : List Expr} {ta : TD} {tr : TAD} (ha : PE X e (lift W E ta)) (hr : PA X es (liftA W E tr)) (hs : starEach (.Starred e p :: es) X.env = (true, eval e X.env) :: starEach es X.env := by rfl) :
    PA X (.Starred e p :: es) (liftA W E (dStar ta tr)) := pa_imp (StX.pa_star ha hr hs) fun σ H Q ⟨ρ, n, Φ, Ψ, e, t, k, x⟩ =>
  ⟨ρ, n, _, Ψ, e, t, fun v H1 d n1 h1 e1 k1 r1 => by
    obtain ⟨xs, hx, q⟩ := h1
    have go : ∀ ws, RpL W.K W.p (Mu W ρ σ) H1 ws xs → liftA W E tr σ H1 fun ys H2 => Q (ws ++ ys) H2 := fun ws rw_ => ⟨ρ, n1, _, Ψ, e1, q, fun vs H2 ds n2 h2 e2 k2 r2 => k _ H2 _ n2 h2 e2 (k1.trans k2) ((rw_.em (e1.eb k2)).append r2), x⟩
    rcases hx with rfl | rfl
    · cases r1 with
      | tup nm h r => exact ⟨_, _, rfl, .inl (hK ▸ SqT.of h), go _ r⟩
      | tupS h r => exact ⟨_, _, rfl, .inl (hK ▸ h _), go _ r⟩
    · cases r1 with
      | lst nm h r => exact ⟨_, _, rfl, .inr (hK ▸ SqL.of h), go _ r⟩, x⟩
theorem dx_tup {es : List Expr} {x1 : Nat} {pos : Pos} {ta : TAD} (h : PA X es (liftA W E ta)) : PE X (.Tuple es x1 pos) (lift W E (dTup ta)) := pe_imp (pe_tup h) fun σ H Q ⟨ρ, n, Φ, Ψ, e, t, k, x⟩ =>
  ⟨ρ, n, _, Ψ, e, t, fun vs H1 ds n1 h1 e1 k1 r1 => ⟨r1.length ▸ h1.1, fun p np => by
    have s := new_same np (.tup vs)
    exact k _ _ _ n1 h1.2 (e1.same s) (k1.trans (EB.same s)) (.tup (e1.al.fresh np) upd_same (r1.em (EM.same s)))⟩, x⟩
theorem dx_lst {es : List Expr} {pos : Pos} {ta : TAD} (h : PA X es (liftA W E ta)) : PE X (.List es pos) (lift W E (dLst ta)) := pe_imp (pe_lst h) fun σ H Q ⟨ρ, n, Φ, Ψ, e, t, k, x⟩ =>
  ⟨ρ, n, _, Ψ, e, t, fun vs H1 ds n1 h1 e1 k1 r1 => ⟨r1.length ▸ h1.1, fun p np => by
    have s := new_same np (.lst vs)
    exact k _ _ _ n1 h1.2 (e1.same s) (k1.trans (EB.same s)) (.lst (e1.al.fresh np) upd_same (r1.em (EM.same s)))⟩, x⟩
theorem dx_fld {e : Expr} {f : Str} {pos : Pos} {ta : TD} (cs : List Str) (hc : ∀ c ∈ cs, Cls X.K (He.ga W.K c) ∧ NoAttr X.K (He.ga W.K c) f) (ha : PE X e (lift W E ta)) (hb : attributeBase e f X.env (eval e X.env) = eval e X.env := by rfl) :
    PE X (.Attribute e f pos) (lift W E fun ρ n Φ Ψ => ta ρ n (fun x n1 => ∃ c fs y, x = .ob c fs ∧ c ∈ cs ∧ fs.lookup f = some y ∧ Φ y n1) Ψ) := pe_imp (pe_fld ha hb) fun σ H Q ⟨ρ, n, Φ, Ψ, e, t, k, x⟩ =>
  ⟨ρ, n, _, Ψ, e, t, fun v H1 d n1 h1 e1 k1 r1 => by
    obtain ⟨c, fs, y, rfl, hcs, hl, q⟩ := h1
    cases r1 with
    | ob nm h r =>
      obtain ⟨w, h2, r2⟩ := r.lookup hl
      exact ⟨_, _, _, _, w, rfl, h, (hc c hcs).1, (hc c hcs).2, h2, k w H1 y n1 q e1 k1 r2⟩, x⟩
theorem dx_cb {f : List D → (D → Prop) → Prop} {x : Str} {id : String} {p pos : Pos} {e : Expr} {es : List Expr} {ta : TAD} (hc : CallR X (.builtin id) (cD W f)) (hg : Gl X x) (hm : X.mg x = none) (hv : bootBuiltins x = some (.builtin id)) (ha : PA X (e :: es) (liftA W E ta))
    (hn : x ≠ "__name__" := by decide) (hdb : (x == ("__debug__" : Str)) = false := by decide) (he : starEach (e :: es) X.env = (false, eval e X.env) :: starEach es X.env := by rfl) (hpl : (backTo pos (starEach es X.env)).any (·.1) = false := by rfl) :
    PE X (.Call (.Name x p) (e :: es) [] pos) (lift W E (dCB f ta)) := pe_imp (pe_callB hc hg hm hv ha hn hdb he hpl) fun σ H Q ⟨ρ, n, Φ, Ψ, e, t, k, x⟩ =>
  ⟨ρ, n, _, Ψ, e, t, fun vs H1 ds n1 h1 e1 k1 r1 => ⟨Mu W ρ σ, ds, _, e1.al, r1, h1, fun w H3 z hz s r3 => k w H3 z n1 hz (e1.same s) (k1.trans (EB.same s)) r3⟩, x⟩
theorem dx_cty {f : List D → (D → Prop) → Prop} {x : Str} {T : String} {p pos : Pos} {e : Expr} {es : List Expr} {ta : TAD} (hc : CallR X (.type T) (cD W f)) (hg : Gl X x) (hm : X.mg x = none) (hv : bootBuiltins x = some (.type T)) (ha : PA X (e :: es) (liftA W E ta))
    (hn : x ≠ "__name__" := by decide) (hdb : (x == ("__debug__" : Str)) = false := by decide) (he : starEach (e :: es) X.env = (false, eval e X.env) :: starEach es X.env := by rfl) (hpl : (backTo pos (starEach es X.env)).any (·.1) = false := by rfl) :
    PE X (.Call (.Name x p) (e :: es) [] pos) (lift W E (dCB f ta)) := pe_imp (pe_callTy hc hg hm hv ha hn hdb he hpl) fun σ H Q ⟨ρ, n, Φ, Ψ, e, t, k, x⟩ =>
  ⟨ρ, n, _, Ψ, e, t, fun vs H1 ds n1 h1 e1 k1 r1 => ⟨Mu W ρ σ, ds, _, e1.al, r1, h1, fun w H3 z hz s r3 => k w H3 z n1 hz (e1.same s) (k1.trans (EB.same s)) r3⟩, x⟩
/-! statements -/
theorem ds_nil : PSs X [] (liftS W E sNext) := pss_imp pss_nil fun D σ H ⟨ρ, n, En, e, t, k⟩ => k.nx σ H ρ n t e Rl.refl
theorem ds_cons {st : Stmt} {rest : List Stmt} {t u : TSD} (h1 : PS X st (liftS W E t)) (h2 : PSs X rest (liftS W E u)) : PSs X (st :: rest) (liftS W E (sSeq t u)) := pss_imp (pss_cons h1 h2) fun D σ H ⟨ρ, n, En, e, t, k⟩ =>
  ⟨ρ, n, _, e, t, ⟨fun σ' H' ρ' n' h e' q => ⟨ρ', n', En, e', h, k.from q⟩, k.bk, k.ct, k.rt, k.ex⟩⟩
theorem ds_one {st : Stmt} {t : TSD} (h : PS X st (liftS W E t)) : PSs X [st] (liftS W E t) := pss_one h
theorem ds_pass {pos : Pos} : PS X (.Pass pos) (liftS W E sNext) := ps_imp ps_pass fun D σ H ⟨ρ, n, En, e, t, k⟩ => k.nx σ H ρ n t e Rl.refl
theorem ds_doc {x j pos pos'} : PS X (.Expr (.Constant (.str x) j pos) pos') (liftS W E sNext) := ps_imp ps_doc fun D σ H ⟨ρ, n, En, e, t, k⟩ => k.nx σ H ρ n t e Rl.refl
theorem ds_expr {e : Expr} {pos : Pos} {ta : TD} (he : PE X e (lift W E ta)) (hs : swapsWith e none pos.line X.env = pure false := by rfl) : PS X (.Expr e pos) (liftS W E (sDrop ta)) := ps_imp (ps_expr he hs) fun D σ H ⟨ρ, n, En, e, t, k⟩ =>
  ⟨ρ, n, _, _, e, t, fun v H' d n' h e' q _ => k.nx σ H' ρ n' h e' (Rl.eb q e.mp), k.ex⟩
theorem ds_ret {e : Expr} {pos : Pos} {ta : TD} (he : PE X e (lift W E ta)) : PS X (.Return (some e) pos) (liftS W E (sRet ta)) := ps_imp (ps_ret he) fun D σ H ⟨ρ, n, En, e, t, k⟩ =>
  ⟨ρ, n, _, _, e, t, fun v H' d n' h e' _ r => k.rt v H' d n' h e'.base e'.pen e'.tab (r.less fun b m => .inl m), k.ex⟩
theorem ds_retN {pos : Pos} : PS X (.Return none pos) (liftS W E sRetN) := ps_imp ps_retN fun D σ H ⟨ρ, n, En, e, t, k⟩ => k.rt .non H .non n t e.base e.pen e.tab .non
theorem ds_if {c : Expr} {a b : List Stmt} {pos : Pos} {tc : TTD} {t u : TSD} (hc : PT X c (liftT W E tc)) (ha : PSs X a (liftS W E t)) (hb : PSs X b (liftS W E u)) : PS X (.If c a b pos) (liftS W E (sIf tc t u)) :=
  ps_imp (ps_if hc ha hb) fun D σ H ⟨ρ, n, En, e, t, k⟩ => ⟨ρ, n, _, _, e, t, fun b H' n' h e' q => by
    cases b with
    | true => exact ⟨ρ, n', En, e', h, k.from (Rl.eb q e.mp)⟩
    | false => exact ⟨ρ, n', En, e', h, k.from (Rl.eb q e.mp)⟩, k.ex⟩
theorem ds_set {i : Nat} {x : Str} {e : Expr} {ta : TD} {pos pos' : Pos} (hN : X.N.Nodup) (hi : X.N[i]? = some x) (hx : Loc X.env.scope x) (he : PE X e (lift W E ta)) (hs : swapsWith e (some (.Name x pos')) pos.line X.env = pure false := by rfl)
    (hf : X.fn x = true ∨ X.env.scope.names.lookup x = some .local := by first | exact .inl rfl | exact .inr rfl | assumption) : PS X (.Assign [.Name x pos'] e pos) (liftS W E (sSet i ta)) := ps_imp (ps_set hN hi hx he hs hf) fun D σ H ⟨ρ, n, En, e, t, k⟩ =>
  ⟨ρ, n, _, _, e, t, fun v H' d n' h e' q r => k.nx _ H' _ n' h (e'.set r) ((Rl.eb q e.mp).trans Rl.set), k.ex⟩
end
end DL
namespace DL
open PySem PySem.Spec PyProof.Rows L2 Gx KX LamX
/-! ### data as PyData -/
mutual
def D.isPy : D → Bool
  | .non => true | .bl _ => true | .int _ => true | .str x => PyData.strOk x
  | .tup ds => isPyL ds | .lst ds => isPyL ds
  | .dct _ => false | .ob _ _ => false | .cl _ => false | .pen => false | .er _ _ => false | .fn _ => false
def isPyL : List D → Bool
  | [] => true
  | d :: ds => d.isPy && isPyL ds
end
mutual
/-- with {} beside -/
def D.isPy0 : D → Bool
  | .non => true | .bl _ => true | .int _ => true | .str _ => true
  | .tup ds => isPy0L ds | .lst ds => isPy0L ds
  | .dct ks => isPy0K ks | .ob _ _ => false | .cl _ => false | .pen => false | .er _ _ => false | .fn _ => false
def isPy0L : List D → Bool
  | [] => true
  | d :: ds => d.isPy0 && isPy0L ds
def isPy0K : List (Key × D) → Bool
  | [] => true
  | (_, d) :: ks => d.isPy0 && isPy0K ks
end
mutual
def D.py : D → PyData
  | .non => .none | .bl b => .bool b | .int i => .int i | .str x => .str x
  | .tup ds => .tuple (pyL ds) | .lst ds => .list (pyL ds)
  | .dct ks => .dict (pyK ks) | .ob _ _ => .none | .cl _ => .none | .pen => .none | .er _ _ => .none | .fn _ => .none
def pyL : List D → List PyData
  | [] => []
  | d :: ds => d.py :: pyL ds
def pyK : List (Key × D) → List (PyData × PyData)
  | [] => []
  | (k, d) :: ks => (kPy k, d.py) :: pyK ks
end
section
variable {K : PySem.W.Frag} {p : Addr} {M : Addr → Prop} {H : Hp}
mutual
theorem Rp.dp : ∀ {v : V} {d : D}, Rp K p M H v d → d.isPy = true → Dp K H v d.py
  | _, _, .non, _ => by rw [D.py]; exact .non
  | _, _, .bl b, _ => by rw [D.py]; exact .bl b
  | _, _, .int i, _ => by rw [D.py]; exact .int i
  | _, _, .str x, _ => by rw [D.py]; exact .str x
  | _, _, .tup n h r, e => by rw [D.isPy] at e; rw [D.py]; exact .tup (SqT.of h) (RpL.dp r e)
  | _, _, .tupS h r, e => by rw [D.isPy] at e; rw [D.py]; exact .tup (h _) (RpL.dp r e)
  | _, _, .lst n h r, e => by rw [D.isPy] at e; rw [D.py]; exact .lst (SqL.of h) (RpL.dp r e)
  | _, _, .dct n h r, e => by rw [D.isPy] at e; cases e
  | _, _, .ob n h r, e => by rw [D.isPy] at e; cases e
  | _, _, .cl c, e => by rw [D.isPy] at e; cases e
  | _, _, .pen, e => by rw [D.isPy] at e; cases e
  | _, _, .er .., e => by rw [D.isPy] at e; cases e
  | _, _, .fn _, e => by rw [D.isPy] at e; cases e
  | _, _, .er0 .., e => by rw [D.isPy] at e; cases e
theorem RpL.dp : ∀ {vs : List V} {ds : List D}, RpL K p M H vs ds → isPyL ds = true → DpAll K H vs (pyL ds)
  | _, _, .nil, _ => by rw [pyL]; exact .nil
  | _, _, .cons h r, e => by
    rw [isPyL, Bool.and_eq_true] at e
    rw [pyL]
    exact .cons (Rp.dp h e.1) (RpL.dp r e.2)
end
mutual
theorem Rp.dq : ∀ {v : V} {d : D}, Rp K p M H v d → d.isPy0 = true → Dq K H v d.py
  | _, _, .non, _ => by rw [D.py]; exact .non
  | _, _, .bl b, _ => by rw [D.py]; exact .bl b
  | _, _, .int i, _ => by rw [D.py]; exact .int i
  | _, _, .str x, _ => by rw [D.py]; exact .str x
  | _, _, .tup n h r, e => by rw [D.isPy0] at e; rw [D.py]; exact .tup (SqT.of h) (RpL.dq r e)
  | _, _, .tupS h r, e => by rw [D.isPy0] at e; rw [D.py]; exact .tup (h _) (RpL.dq r e)
  | _, _, .lst n h r, e => by rw [D.isPy0] at e; rw [D.py]; exact .lst (SqL.of h) (RpL.dq r e)
  | _, _, .dct n h r, e => by
    rw [D.isPy0] at e
    rw [D.py]
    exact .dct h (RpK.dq r e)
  | _, _, .ob n h r, e => by rw [D.isPy0] at e; cases e
  | _, _, .cl c, e => by rw [D.isPy0] at e; cases e
  | _, _, .pen, e => by rw [D.isPy0] at e; cases e
  | _, _, .er .., e => by rw [D.isPy0] at e; cases e
  | _, _, .fn _, e => by rw [D.isPy0] at e; cases e
  | _, _, .er0 .., e => by rw [D.isPy0] at e; cases e
theorem RpL.dq : ∀ {vs : List V} {ds : List D}, RpL K p M H vs ds → isPy0L ds = true → DqAll K H vs (pyL ds)
  | _, _, .nil, _ => by rw [pyL]; exact .nil
  | _, _, .cons h r, e => by
    rw [isPy0L, Bool.and_eq_true] at e
    rw [pyL]
    exact .cons (Rp.dq h e.1) (RpL.dq r e.2)
theorem RpK.dq : ∀ {vs : List (Key × V)} {ds : List (Key × D)}, RpK K p M H vs ds → isPy0K ds = true → DqKv K H vs (pyK ds)
  | _, _, .nil, _ => by rw [pyK]; exact .nil
  | _, _, .cons h r, e => by
    rw [isPy0K, Bool.and_eq_true] at e
    rw [pyK]
    exact .cons (Rp.dq h e.1) (RpK.dq r e.2)
end
end
/-! ### equality -/
mutual
def D.dep : D → Nat
  | .tup ds => depL ds + 1 | .lst ds => depL ds + 1 | .dct ks => depK ks + 1 | _ => 0
def depL : List D → Nat
  | [] => 0
  | d :: ds => max d.dep (depL ds)
def depK : List (Key × D) → Nat
  | [] => 0
  | (_, d) :: ks => max d.dep (depK ks)
end
mutual
/-- == of data -/
def D.eqb : D → D → Bool
  | .non, .non => true
  | .bl a, .bl b => a == b
  | .bl a, .int j => (if a then 1 else 0) == j
  | .int i, .bl b => i == (if b then 1 else 0)
  | .int i, .int j => i == j
  | .str x, .str y => x == y
  | .lst xs, .lst ys => eqbL xs ys
  | .tup xs, .tup ys => eqbL xs ys
  | _, _ => false
def eqbL : List D → List D → Bool
  | [], [] => true
  | x :: xs, y :: ys => D.eqb x y && eqbL xs ys
  | _, _ => false
end
mutual
theorem eqb_py : ∀ (x y : D), x.isPy = true → y.isPy = true → PyData.eqv x.py y.py = D.eqb x y
  | .lst xs, .lst ys, h1, h2 => by
    rw [D.isPy] at h1 h2
    rw [D.py, D.py, D.eqb, PyData.eqv]
    exact eqbL_py xs ys h1 h2
  | .tup xs, .tup ys, h1, h2 => by
    rw [D.isPy] at h1 h2
    rw [D.py, D.py, D.eqb, PyData.eqv]
    exact eqbL_py xs ys h1 h2
  | .non, y, h1, h2 => by cases y <;> simp_all [D.py, D.eqb, PyData.eqv, D.isPy]
  | .bl b, y, h1, h2 => by cases y <;> simp_all [D.py, D.eqb, PyData.eqv, D.isPy]
  | .int i, y, h1, h2 => by cases y <;> simp_all [D.py, D.eqb, PyData.eqv, D.isPy]
  | .str x, y, h1, h2 => by cases y <;> simp_all [D.py, D.eqb, PyData.eqv, D.isPy]
  | .dct _, _, h1, _ => by rw [D.isPy] at h1; cases h1
  | .ob _ _, _, h1, _ => by rw [D.isPy] at h1; cases h1
  | .cl _, _, h1, _ => by rw [D.isPy] at h1; cases h1
  | .pen, _, h1, _ => by rw [D.isPy] at h1; cases h1
  | .er _ _, _, h1, _ => by rw [D.isPy] at h1; cases h1
  | .fn _, _, h1, _ => by rw [D.isPy] at h1; cases h1
  | .lst xs, .non, _, _ | .lst xs, .bl _, _, _ | .lst xs, .int _, _, _ | .lst xs, .str _, _, _ | .lst xs, .tup _, _, _ => by simp [D.py, D.eqb, PyData.eqv]
  | .lst xs, .dct _, _, h | .lst xs, .ob _ _, _, h | .lst xs, .cl _, _, h | .lst xs, .pen, _, h | .lst xs, .er _ _, _, h | .lst xs, .fn _, _, h => by rw [D.isPy] at h; cases h
  | .tup xs, .non, _, _ | .tup xs, .bl _, _, _ | .tup xs, .int _, _, _ | .tup xs, .str _, _, _ | .tup xs, .lst _, _, _ => by simp [D.py, D.eqb, PyData.eqv]
  | .tup xs, .dct _, _, h | .tup xs, .ob _ _, _, h | .tup xs, .cl _, _, h | .tup xs, .pen, _, h | .tup xs, .er _ _, _, h | .tup xs, .fn _, _, h => by rw [D.isPy] at h; cases h
theorem eqbL_py : ∀ (xs ys : List D), isPyL xs = true → isPyL ys = true → PyData.eqvAll (pyL xs) (pyL ys) = eqbL xs ys
  | [], [], _, _ => by rw [pyL, PyData.eqvAll, eqbL]
  | [], y :: ys, _, _ => by simp [pyL, PyData.eqvAll, eqbL]
  | x :: xs, [], _, _ => by simp [pyL, PyData.eqvAll, eqbL]
  | x :: xs, y :: ys, h1, h2 => by
    rw [isPyL, Bool.and_eq_true] at h1 h2
    rw [pyL, pyL, PyData.eqvAll, eqbL, eqb_py x y h1.1 h2.1, eqbL_py xs ys h1.2 h2.2]
end
mutual
theorem canLay_py : ∀ d : D, d.isPy = true → d.py.canLay0 = true
  | .non, _ | .bl _, _ | .int _, _ => by simp [D.py, PyData.canLay0]
  | .str x, h => by rw [D.isPy] at h; rw [D.py, PyData.canLay0]; exact h
  | .tup ds, h => by
    rw [D.isPy] at h
    rw [D.py, PyData.canLay0]
    exact canLay_pyL ds h
  | .lst ds, h => by
    rw [D.isPy] at h
    rw [D.py, PyData.canLay0]
    exact canLay_pyL ds h
  | .dct _, h | .ob _ _, h | .cl _, h | .pen, h | .er _ _, h | .fn _, h => by rw [D.isPy] at h; cases h
theorem canLay_pyL : ∀ ds : List D, isPyL ds = true → PyData.canLayAll0 (pyL ds) = true
  | [], _ => by rw [pyL, PyData.canLayAll0]
  | d :: ds, h => by
    rw [isPyL, Bool.and_eq_true] at h
    rw [pyL, PyData.canLayAll0, canLay_py d h.1, canLay_pyL ds h.2]
    rfl
end
mutual
theorem dep_py : ∀ d : D, d.isPy0 = true → d.py.depth ≤ d.dep
  | .non, _ | .bl _, _ | .int _, _ | .str _, _ => by simp [D.py, PyData.depth]
  | .tup ds, h => by
    rw [D.isPy0] at h
    rw [D.py, PyData.depth, D.dep]
    have := dep_pyL ds h
    omega
  | .lst ds, h => by
    rw [D.isPy0] at h
    rw [D.py, PyData.depth, D.dep]
    have := dep_pyL ds h
    omega
  | .dct ks, h => by
    rw [D.isPy0] at h
    rw [D.py, PyData.depth, D.dep]
    have := dep_pyK ks h
    omega
  | .ob _ _, h | .cl _, h | .pen, h | .er _ _, h | .fn _, h => by rw [D.isPy0] at h; cases h
theorem dep_pyL : ∀ ds : List D, isPy0L ds = true → PyData.depthAll (pyL ds) ≤ depL ds
  | [], _ => by simp [pyL, PyData.depthAll]
  | d :: ds, h => by
    rw [isPy0L, Bool.and_eq_true] at h
    rw [pyL, PyData.depthAll, depL]
    have := dep_py d h.1
    have := dep_pyL ds h.2
    omega
theorem dep_pyK : ∀ ds : List (Key × D), isPy0K ds = true → PyData.depthKv (pyK ds) ≤ depK ds
  | [], _ => by simp [pyK, PyData.depthKv]
  | (k, d) :: ds, h => by
    rw [isPy0K, Bool.and_eq_true] at h
    rw [pyK, PyData.depthKv, depK]
    have := dep_py d h.1
    have := dep_pyK ds h.2
    have : (kPy k).depth = 0 := by cases k <;> rfl
    omega
end
mutual
theorem isPy_0 : ∀ d : D, d.isPy = true → d.isPy0 = true
  | .non, _ | .bl _, _ | .int _, _ | .str _, _ => by rw [D.isPy0]
  | .tup ds, h => by rw [D.isPy] at h; rw [D.isPy0]; exact isPyL_0 ds h
  | .lst ds, h => by rw [D.isPy] at h; rw [D.isPy0]; exact isPyL_0 ds h
  | .dct _, h | .ob _ _, h | .cl _, h | .pen, h | .er _ _, h | .fn _, h => by rw [D.isPy] at h; cases h
theorem isPyL_0 : ∀ ds : List D, isPyL ds = true → isPy0L ds = true
  | [], _ => by rw [isPy0L]
  | d :: ds, h => by
    rw [isPyL, Bool.and_eq_true] at h
    rw [isPy0L, isPy_0 d h.1, isPyL_0 ds h.2]
    rfl
end
theorem shaped_py {d : D} (h : d.isPy = true) (k : d.dep ≤ 60) : SeqAt.shaped d.py = true := by
  unfold SeqAt.shaped
  rw [canLay_py d h, Bool.true_and, decide_eq_true_eq]
  have := dep_py d (isPy_0 d h)
  omega
def eqD : D → D → (D → Prop) → Prop
  | .str a, .str b, k => k (.bl (a == b))
  | .lst xs, .lst [], k => k (.bl xs.isEmpty)
  | x, y, k => x.isPy = true ∧ y.isPy = true ∧ x.dep ≤ 60 ∧ y.dep ≤ 60 ∧ k (.bl (D.eqb x y))
def neD : D → D → (D → Prop) → Prop
  | .str a, .str b, k => k (.bl (!(a == b)))
  | .lst xs, .lst [], k => k (.bl (!xs.isEmpty))
  | x, y, k => x.isPy = true ∧ y.isPy = true ∧ x.dep ≤ 60 ∧ y.dep ≤ 60 ∧ k (.bl (!D.eqb x y))
theorem eqD_of {x y : D} {k : D → Prop} (h : eqD x y k) : (∃ a b, x = .str a ∧ y = .str b ∧ k (.bl (a == b))) ∨ (∃ xs, x = .lst xs ∧ y = .lst [] ∧ k (.bl xs.isEmpty)) ∨ (x.isPy = true ∧ y.isPy = true ∧ x.dep ≤ 60 ∧ y.dep ≤ 60 ∧ k (.bl (D.eqb x y))) := by
  unfold eqD at h
  split at h
  · exact .inl ⟨_, _, rfl, rfl, h⟩
  · exact .inr (.inl ⟨_, rfl, rfl, h⟩)
  · exact .inr (.inr h)
theorem neD_of {x y : D} {k : D → Prop} (h : neD x y k) : (∃ a b, x = .str a ∧ y = .str b ∧ k (.bl (!(a == b)))) ∨ (∃ xs, x = .lst xs ∧ y = .lst [] ∧ k (.bl (!xs.isEmpty))) ∨ (x.isPy = true ∧ y.isPy = true ∧ x.dep ≤ 60 ∧ y.dep ≤ 60 ∧ k (.bl (!D.eqb x y))) := by
  unfold neD at h
  split at h
  · exact .inl ⟨_, _, rfl, rfl, h⟩
  · exact .inr (.inl ⟨_, rfl, rfl, h⟩)
  · exact .inr (.inr h)
def anyEq (x : D) : List D → Bool
  | [] => false
  | y :: ys => D.eqb y x || anyEq x ys
/-! ### what operations do -/
def addD : D → D → (D → Prop) → Prop
  | .int i, .int j, k => k (.int (i + j))
  | .str a, .str b, k => a.length + b.length ≤ sizeLine ∧ k (.str (a ++ b))
  | .lst a, .lst b, k => a.length + b.length ≤ sizeLine ∧ k (.lst (a ++ b))
  | .tup a, .tup b, k => a.length + b.length ≤ sizeLine ∧ k (.tup (a ++ b))
  | _, _, _ => False
def subD : D → D → (D → Prop) → Prop
  | .int i, .int j, k => k (.int (i - j))
  | _, _, _ => False
/-- a text, n times -/
def repS (x : Str) (n : Nat) : Str := ⟨(List.replicate n x.cps).foldl (· ++ ·) #[]⟩
def mulD : D → D → (D → Prop) → Prop
  | .int i, .int j, k => CMul i j ∧ k (.int (i * j))
  | .str a, .int j, k => 2 ≤ j ∧ j < 2 ^ 31 ∧ 0 < a.length ∧ a.length * j.toNat ≤ sizeLine ∧ k (.str (repS a j.toNat))
  | .lst a, .int j, k => -(2 ^ 63) ≤ j ∧ j < 2 ^ 63 ∧ a.length * j.toNat ≤ sizeLine ∧ k (.lst (List.replicate j.toNat a).flatten)
  | _, _, _ => False
def modD : D → D → (D → Prop) → Prop
  | .int i, .int j, k => 0 < j ∧ k (.int (i % j))
  | _, _, _ => False
def fdivD : D → D → (D → Prop) → Prop
  | .int i, .int j, k => CDiv i j ∧ k (.int (i / j))
  | _, _, _ => False
def powD : D → D → (D → Prop) → Prop
  | .int i, .int j, k => CPow i j ∧ k (.int (i ^ j.toNat))
  | _, _, _ => False
def ordD (f : Int → Int → Bool) (g : Str → Str → Bool) : D → D → (D → Prop) → Prop
  | .int i, .int j, k => k (.bl (f i j))
  | .str a, .str b, k => k (.bl (g a b))
  | _, _, _ => False
def isNone (neg : Bool) : D → D → (D → Prop) → Prop
  | x, .non, k => (match x with | .non => k (.bl (!neg)) | _ => k (.bl neg))
  | _, _, _ => False
def negD : D → (D → Prop) → Prop
  | .int i, k => k (.int (-i))
  | _, _ => False
section
variable {X : Cx} {W : Wd}
theorem lt_sz {n : Nat} (h : n ≤ sizeLine) : n ≤ sizeLine := h
theorem od_add (hK : X.K = W.K) : OpR X (binaryOp .Add) (rD W addD) := by
  intro pins s σ H x y v u Q I rx ry ⟨M, d, e, k, al, r1, r2, f, q⟩
  cases r1 <;> cases r2 <;> first | exact f.elim | skip
  · exact op_add pins s σ H _ _ v u Q I rx ry ⟨_, _, rfl, rfl, q _ _ _ f (fun _ _ h => h) (.int _)⟩
  · exact op_add_str pins s σ H _ _ v u Q I rx ry ⟨_, _, rfl, rfl, f.1, q _ _ _ f.2 (fun _ _ h => h) (.str _)⟩
  case tup.tup n1 h1 l1 _ _ _ n2 h2 l2 =>
    refine op_catA pins s σ H _ _ v u Q I rx ry ⟨_, _, _, _, rfl, rfl, SqT.of h1, SqT.of h2, by rw [l1.length, l2.length]; exact f.1, fun z => ?_, fun z1 z2 => ?_, fun z1 z2 p np => ?_⟩
    · subst z; cases l1; exact q _ _ _ f.2 (fun _ _ h => h) (.tup n2 h2 l2)
    · subst z2; cases l2; exact q _ _ _ f.2 (fun _ _ h => h) (by rw [List.append_nil]; exact .tup n1 h1 l1)
    · exact q _ _ _ f.2 (new_same np _) (.tup (al.fresh np) upd_same ((l1.append l2).em (EM.same (new_same np _))))
  case tup.tupS n1 h1 l1 _ _ _ h2 l2 =>
    refine op_catA pins s σ H _ _ v u Q I rx ry ⟨_, _, _, _, rfl, rfl, SqT.of h1, hK ▸ h2 _, by rw [l1.length, l2.length]; exact f.1, fun z => ?_, fun z1 z2 => ?_, fun z1 z2 p np => ?_⟩
    · subst z; cases l1; exact q _ _ _ f.2 (fun _ _ h => h) (.tupS h2 l2)
    · subst z2; cases l2; exact q _ _ _ f.2 (fun _ _ h => h) (by rw [List.append_nil]; exact .tup n1 h1 l1)
    · exact q _ _ _ f.2 (new_same np _) (.tup (al.fresh np) upd_same ((l1.append l2).em (EM.same (new_same np _))))
  case tupS.tup h1 l1 _ _ _ n2 h2 l2 =>
    refine op_catA pins s σ H _ _ v u Q I rx ry ⟨_, _, _, _, rfl, rfl, hK ▸ h1 _, SqT.of h2, by rw [l1.length, l2.length]; exact f.1, fun z => ?_, fun z1 z2 => ?_, fun z1 z2 p np => ?_⟩
    · subst z; cases l1; exact q _ _ _ f.2 (fun _ _ h => h) (.tup n2 h2 l2)
    · subst z2; cases l2; exact q _ _ _ f.2 (fun _ _ h => h) (by rw [List.append_nil]; exact .tupS h1 l1)
    · exact q _ _ _ f.2 (new_same np _) (.tup (al.fresh np) upd_same ((l1.append l2).em (EM.same (new_same np _))))
  case tupS.tupS h1 l1 _ _ _ h2 l2 =>
    refine op_catA pins s σ H _ _ v u Q I rx ry ⟨_, _, _, _, rfl, rfl, hK ▸ h1 _, hK ▸ h2 _, by rw [l1.length, l2.length]; exact f.1, fun z => ?_, fun z1 z2 => ?_, fun z1 z2 p np => ?_⟩
    · subst z; cases l1; exact q _ _ _ f.2 (fun _ _ h => h) (.tupS h2 l2)
    · subst z2; cases l2; exact q _ _ _ f.2 (fun _ _ h => h) (by rw [List.append_nil]; exact .tupS h1 l1)
    · exact q _ _ _ f.2 (new_same np _) (.tup (al.fresh np) upd_same ((l1.append l2).em (EM.same (new_same np _))))
  case lst.lst n1 h1 l1 _ _ _ n2 h2 l2 =>
    refine op_cat pins s σ H _ _ v u Q I rx ry ⟨_, _, _, _, rfl, rfl, h1, h2, by rw [l1.length, l2.length]; exact f.1, fun p np => ?_⟩
    exact q _ _ _ f.2 (new_same np _) (.lst (al.fresh np) upd_same ((l1.append l2).em (EM.same (new_same np _))))
theorem od_sub : OpR X (binaryOp .Sub) (rD W subD) := by
  intro pins s σ H x y v u Q I rx ry ⟨M, d, e, k, al, r1, r2, f, q⟩
  cases r1 <;> cases r2 <;> first | exact f.elim | skip
  exact op_sub pins s σ H _ _ v u Q I rx ry ⟨_, _, rfl, rfl, q _ _ _ f (fun _ _ h => h) (.int _)⟩
theorem flat_rep {K : PySem.W.Frag} {p : Addr} {M : Addr → Prop} {H : Hp} {vs : List V} {ds : List D} (r : RpL K p M H vs ds) : ∀ n : Nat, RpL K p M H (List.replicate n vs).flatten (List.replicate n ds).flatten
  | 0 => .nil
  | n + 1 => by
    rw [List.replicate_succ, List.replicate_succ, List.flatten_cons, List.flatten_cons]
    exact r.append (flat_rep r n)
theorem fold_rep (x : Array Nat) : ∀ (n : Nat) (acc : Array Nat), ((List.replicate n x).foldl (· ++ ·) acc).toList = acc.toList ++ (List.replicate n x.toList).flatten
  | 0, acc => by simp
  | n + 1, acc => by
    rw [List.replicate_succ, List.foldl_cons, fold_rep x n, List.replicate_succ, List.flatten_cons, Array.toList_append, List.append_assoc]
theorem repS_cps (x : Str) (n : Nat) : (repS x n).cps.toList = (List.replicate n x.cps.toList).flatten := by
  unfold repS
  rw [fold_rep]
  simp
theorem repS_len (x : Str) (n : Nat) : (repS x n).length = x.length * n := by
  have h : (repS x n).length = (repS x n).cps.toList.length := by simp [Str.length]
  rw [h, repS_cps]
  simp [Str.length, Nat.mul_comm]
theorem op_mul_str : OpR X (binaryOp .Mult) (fun x y H Q => ∃ a j, x = .str a ∧ y = .int j ∧ 2 ≤ j ∧ j < 2 ^ 31 ∧ 0 < a.length ∧ a.length * j.toNat ≤ sizeLine ∧ Q (.str (repS a j.toNat)) H) := by
  intro pins s σ H x y v u Q I rx ry hh
  obtain ⟨a, j, rfl, rfl, h1, h2, h3, h4, q⟩ := hh
  obtain ⟨t, rfl⟩ := rx
  obtain ⟨t', rfl⟩ := ry
  have hs : sizeLine ≤ 2 ^ 40 := by decide
  have n1 : ¬ j < 1 := by omega
  have n2 : (j == 1 || a.length == 0) = false := by
    rw [Bool.or_eq_false_iff, beq_eq_false_iff_ne, beq_eq_false_iff_ne]
    omega
  have n3 : Builtin.Str.tooLong (a.length * j.toNat) = false := by
    unfold Builtin.Str.tooLong
    exact decide_eq_false (by omega)
  refine PySem.P.mul_str (by rw [decide_eq_false (by omega), decide_eq_false (by omega)]; rfl) (fun _ _ => ?_) (fun _ _ => n3) ?_
  · have e1 : a.length ≤ a.length * j.toNat := Nat.le_mul_of_pos_right _ (by omega)
    have hs' : sizeLine < 2 ^ 31 := by decide
    have e2 : (2 : Int) ^ 31 ≤ ((2 : Int) ^ 63 - 1) / j := by
      rw [Int.le_ediv_iff_mul_le (by omega)]
      have : (2 : Int) ^ 31 * j ≤ 2 ^ 31 * (2 ^ 31 - 1) := Int.mul_le_mul_of_nonneg_left (by omega) (by decide)
      have e : (2 : Int) ^ 31 * (2 ^ 31 - 1) ≤ 2 ^ 63 - 1 := by decide
      omega
    omega
  · rw [if_neg n1, n2]
    simp only [Bool.false_eq_true, if_false]
    exact ⟨Nat.le_trans (Nat.le_of_eq (repS_len a j.toNat)) h4, ⟨.str _, H, I.tok _, ⟨_, rfl⟩, q⟩⟩
theorem od_mul : OpR X (binaryOp .Mult) (rD W mulD) := by
  intro pins s σ H x y v u Q I rx ry ⟨M, d, e, k, al, r1, r2, f, q⟩
  cases r1 <;> cases r2 <;> first | exact f.elim | skip
  · exact op_mul pins s σ H _ _ v u Q I rx ry ⟨_, _, rfl, rfl, f.1, q _ _ _ f.2 (fun _ _ h => h) (.int _)⟩
  case str.int a j =>
    obtain ⟨f1, f2, f3, f4, f5⟩ := f
    exact op_mul_str pins s σ H _ _ v u Q I rx ry ⟨_, _, rfl, rfl, f1, f2, f3, f4, q _ _ _ f5 (fun _ _ h => h) (.str _)⟩
  case lst.int n1 h1 l1 j =>
    obtain ⟨f1, f2, f3, f4⟩ := f
    refine op_rep pins s σ H _ _ v u Q I rx ry ⟨_, _, _, rfl, rfl, h1, f1, f2, by rw [l1.length]; exact f3, fun p np => ?_⟩
    exact q _ _ _ f4 (new_same np _) (.lst (al.fresh np) upd_same ((flat_rep l1 _).em (EM.same (new_same np _))))
theorem od_mod : OpR X (binaryOp .Mod) (rD W modD) := by
  intro pins s σ H x y v u Q I rx ry ⟨M, d, e, k, al, r1, r2, f, q⟩
  cases r1 <;> cases r2 <;> first | exact f.elim | skip
  exact op_mod pins s σ H _ _ v u Q I rx ry ⟨_, _, rfl, rfl, f.1, q _ _ _ f.2 (fun _ _ h => h) (.int _)⟩
theorem od_fdiv : OpR X (binaryOp .FloorDiv) (rD W fdivD) := by
  intro pins s σ H x y v u Q I rx ry ⟨M, d, e, k, al, r1, r2, f, q⟩
  cases r1 <;> cases r2 <;> first | exact f.elim | skip
  exact op_fdiv pins s σ H _ _ v u Q I rx ry ⟨_, _, rfl, rfl, f.1, q _ _ _ f.2 (fun _ _ h => h) (.int _)⟩
theorem od_pow : OpR X (binaryOp .Pow) (rD W powD) := by
  intro pins s σ H x y v u Q I rx ry ⟨M, d, e, k, al, r1, r2, f, q⟩
  cases r1 <;> cases r2 <;> first | exact f.elim | skip
  exact op_pow pins s σ H _ _ v u Q I rx ry ⟨_, _, rfl, rfl, f.1, q _ _ _ f.2 (fun _ _ h => h) (.int _)⟩
def ltD := ordD (fun i j => decide (i < j)) (fun a b => decide (a.cps.toList < b.cps.toList))
def leD := ordD (fun i j => decide (i ≤ j)) (fun a b => !decide (b.cps.toList < a.cps.toList))
def gtD := ordD (fun i j => decide (j < i)) (fun a b => decide (b.cps.toList < a.cps.toList))
def geD := ordD (fun i j => decide (j ≤ i)) (fun a b => !decide (a.cps.toList < b.cps.toList))
theorem od_lt : OpR X (compareOp .Lt) (rD W ltD) := by
  intro pins s σ H x y v u Q I rx ry ⟨M, d, e, k, al, r1, r2, f, q⟩
  cases r1 <;> cases r2 <;> first | exact f.elim | skip
  · exact op_lt pins s σ H _ _ v u Q I rx ry ⟨_, _, rfl, rfl, q _ _ _ f (fun _ _ h => h) (.bl _)⟩
  · exact op_lt_str pins s σ H _ _ v u Q I rx ry ⟨_, _, rfl, rfl, q _ _ _ f (fun _ _ h => h) (.bl _)⟩
theorem od_le : OpR X (compareOp .LtE) (rD W leD) := by
  intro pins s σ H x y v u Q I rx ry ⟨M, d, e, k, al, r1, r2, f, q⟩
  cases r1 <;> cases r2 <;> first | exact f.elim | skip
  · exact op_le pins s σ H _ _ v u Q I rx ry ⟨_, _, rfl, rfl, q _ _ _ f (fun _ _ h => h) (.bl _)⟩
  · exact op_le_str pins s σ H _ _ v u Q I rx ry ⟨_, _, rfl, rfl, q _ _ _ f (fun _ _ h => h) (.bl _)⟩
theorem od_gt : OpR X (compareOp .Gt) (rD W gtD) := by
  intro pins s σ H x y v u Q I rx ry ⟨M, d, e, k, al, r1, r2, f, q⟩
  cases r1 <;> cases r2 <;> first | exact f.elim | skip
  · exact op_gt pins s σ H _ _ v u Q I rx ry ⟨_, _, rfl, rfl, q _ _ _ f (fun _ _ h => h) (.bl _)⟩
  · exact op_gt_str pins s σ H _ _ v u Q I rx ry ⟨_, _, rfl, rfl, q _ _ _ f (fun _ _ h => h) (.bl _)⟩
theorem od_ge : OpR X (compareOp .GtE) (rD W geD) := by
  intro pins s σ H x y v u Q I rx ry ⟨M, d, e, k, al, r1, r2, f, q⟩
  cases r1 <;> cases r2 <;> first | exact f.elim | skip
  · exact op_ge pins s σ H _ _ v u Q I rx ry ⟨_, _, rfl, rfl, q _ _ _ f (fun _ _ h => h) (.bl _)⟩
  · exact op_ge_str pins s σ H _ _ v u Q I rx ry ⟨_, _, rfl, rfl, q _ _ _ f (fun _ _ h => h) (.bl _)⟩
theorem od_eq (hK : X.K = W.K) (hu : X.A.units + 64 < cLine) : OpR X (compareOp .Eq) (rD W eqD) := by
  intro pins s σ H x y v u Q I rx ry ⟨M, d, e, k, al, r1, r2, ff, q⟩
  rcases eqD_of ff with ⟨a, b, rfl, rfl, ff⟩ | ⟨xs, rfl, rfl, ff⟩ | ⟨f1, f2, f3, f4, f5⟩
  · cases r1
    cases r2
    refine op_eq pins s σ H _ _ v u Q I rx ry ⟨rfl, q _ _ _ ff (fun _ _ h => h) ?_⟩
    rw [dec_str]
    exact .bl _
  · cases r1 with
    | @lst a vs ds n1 h1 l1 => cases r2 with
      | @lst b ws es n2 h2 l2 =>
        cases l2
        refine op_eqE hu pins s σ H _ _ v u Q I rx ry ⟨a, b, vs, rfl, rfl, SqL.of h1, SqL.of h2, ?_⟩
        have e : decide (vs = []) = xs.isEmpty := by cases l1 <;> rfl
        rw [e]
        exact q _ _ _ ff (fun _ _ h => h) (.bl _)
  refine op_eqD hu pins s σ H _ _ v u Q I rx ry ⟨_, _, hK ▸ r1.dp f1, hK ▸ r2.dp f2, shaped_py f1 f3, shaped_py f2 f4, ?_⟩
  rw [eqb_py d e f1 f2]
  exact q _ _ _ f5 (fun _ _ h => h) (.bl _)
theorem od_ne (hK : X.K = W.K) (hu : X.A.units + 64 < cLine) : OpR X (compareOp .NotEq) (rD W neD) := by
  intro pins s σ H x y v u Q I rx ry ⟨M, d, e, k, al, r1, r2, ff, q⟩
  rcases neD_of ff with ⟨a, b, rfl, rfl, ff⟩ | ⟨xs, rfl, rfl, ff⟩ | ⟨f1, f2, f3, f4, f5⟩
  · cases r1
    cases r2
    refine op_ne pins s σ H _ _ v u Q I rx ry ⟨rfl, q _ _ _ ff (fun _ _ h => h) ?_⟩
    rw [dec_str]
    exact .bl _
  · cases r1 with
    | @lst a vs ds n1 h1 l1 => cases r2 with
      | @lst b ws es n2 h2 l2 =>
        cases l2
        refine op_neE hu pins s σ H _ _ v u Q I rx ry ⟨a, b, vs, rfl, rfl, SqL.of h1, SqL.of h2, ?_⟩
        have e : decide (vs = []) = xs.isEmpty := by cases l1 <;> rfl
        rw [e]
        exact q _ _ _ ff (fun _ _ h => h) (.bl _)
  refine op_neD hu pins s σ H _ _ v u Q I rx ry ⟨_, _, hK ▸ r1.dp f1, hK ▸ r2.dp f2, shaped_py f1 f3, shaped_py f2 f4, ?_⟩
  rw [eqb_py d e f1 f2]
  exact q _ _ _ f5 (fun _ _ h => h) (.bl _)
theorem od_isN : OpR X (compareOp .Is) (rD W (isNone false)) := by
  intro pins s σ H x y v u Q I rx ry ⟨M, d, e, k, al, r1, r2, f, q⟩
  cases r2 <;> first | exact f.elim | skip
  refine op_isN pins s σ H _ _ v u Q I rx ry ⟨rfl, ?_⟩
  cases r1 <;> exact q _ _ _ f (fun _ _ h => h) (.bl _)
theorem od_notN : OpR X (compareOp .IsNot) (rD W (isNone true)) := by
  intro pins s σ H x y v u Q I rx ry ⟨M, d, e, k, al, r1, r2, f, q⟩
  cases r2 <;> first | exact f.elim | skip
  refine op_notN pins s σ H _ _ v u Q I rx ry ⟨rfl, ?_⟩
  cases r1 <;> exact q _ _ _ f (fun _ _ h => h) (.bl _)
theorem ud_neg : UnR X (unaryOp .USub) (uD W negD) := by
  intro pins s σ H x v Q I rx ⟨M, d, k, al, r1, f, q⟩
  cases r1 <;> first | exact f.elim | skip
  exact un_neg pins s σ H _ v Q I rx ⟨_, rfl, q _ _ _ f (fun _ _ h => h) (.int _)⟩
end
end DL
namespace DL
open PySem PySem.Spec PyProof.Rows L2 Gx KX LamX
/-! ### defs over data -/
abbrev FD := List D → Nat → KD → XD → Prop
def ErM (K : PySem.W.Frag) (p : Addr) (M : Addr → Prop) (H : Hp) (cls : Value) (dd : Option Addr) (er : Er) : Prop :=
  cls = .ref (He.ga K er.c) ∧ ((dd = none ∧ er.fs = []) ∨ ∃ d fv, dd = some d ∧ H d = some (.xd fv) ∧ RpF K p M H fv er.fs ∧ ¬ M d)
/-- a def's promise over data: m parameters -/
def spD (K : PySem.W.Frag) (ts : List (Addr × Str)) (m : Nat) (φ : FD) : Sp := fun vs H Q E => ∃ (p q : Addr) (M : Addr → Prop) (ds : List D) (n : Nat) (Φ : KD) (Ψ : XD),
  M p ∧ M q ∧ Al M H ∧ ds.length = m ∧ RpL K p M H vs ds ∧ PenAt H p q n ∧ Tabs ts H ∧ φ ds n Φ Ψ ∧
  (∀ v H' d n', Φ d n' → EB p H H' → PenAt H' p q n' → Tabs ts H' → Rp K p M H' v d → Q v H') ∧
  (∀ er n' cls dd H', Ψ er n' → EB p H H' → PenAt H' p q n' → Tabs ts H' → ErM K p M H' cls dd er → E cls dd H')
theorem spD_len {K : PySem.W.Frag} {ts : List (Addr × Str)} {ps : List Str} {φ : FD} : ∀ vs H Q E, spD K ts ps.length φ vs H Q E → vs.length = ps.length := fun vs H Q E ⟨_, _, _, ds, _, _, _, _, _, _, hl, r, _⟩ => by
  rw [r.length, hl]
theorem spD_imp {K : PySem.W.Frag} {ts : List (Addr × Str)} {m : Nat} {φ φ' : FD} (h : ∀ ds n Φ Ψ, ds.length = m → φ' ds n Φ Ψ → φ ds n Φ Ψ) : ∀ vs H Q E, spD K ts m φ' vs H Q E → spD K ts m φ vs H Q E :=
  fun vs H Q E ⟨p, q, M, ds, n, Φ, Ψ, h1, h2, h3, h4, h5, h6, h7, h8, h9⟩ => ⟨p, q, M, ds, n, Φ, Ψ, h1, h2, h3, h4, h5, h6, h7, h _ _ _ _ h4 h8, h9⟩
def startD (l : Nat) (ds : List D) : Rho := ds.map Sl.d ++ List.replicate (l - ds.length) Sl.un
/-- what a def's body makes of its arguments -/
def fnD (l : Nat) (τ : TSD) : FD := fun ds n Φ Ψ => τ { nx := fun _ n' => Φ .non n', rt := Φ, ex := Ψ } (startD l ds) n
section
variable {P : Program} {w : World} {K : PySem.W.Frag} {mg : Str → Option Value} {base : Heap} {ts : List (Addr × Str)}
theorem em_eb {p : Addr} {H H' : Hp} (e : EM (· = p) H H') : EB p H H' := fun b o n h t => e b o n h t
theorem start_ok {p q : Addr} {M : Addr → Prop} {H : Hp} {N ps : List Str} {vs : List V} {ds : List D} {n : Nat} (h1 : M p) (h2 : M q) (h3 : Al M H) (hN : N.take ps.length = ps) (h4 : ds.length = ps.length) (h5 : RpL K p M H vs ds) (h6 : PenAt H p q n) (h7 : Tabs ts H) :
    EnvOk ⟨K, p, q, ts, M, (· = p), H⟩ (startD N.length ds) n (start N vs) H := by
  have hl := h5.length
  have hle : ds.length ≤ N.length := by
    have z := congrArg List.length hN
    rw [List.length_take] at z
    omega
  have noown : ∀ (i : Nat) (o : Ow), (startD N.length ds)[i]? = some (Sl.own o) → False := fun i o z => by
    unfold startD at z
    by_cases hi : i < ds.length
    · rw [List.getElem?_append_left (by rw [List.length_map]; exact hi), List.getElem?_map] at z
      cases e : ds[i]? <;> rw [e] at z <;> cases z
    · rw [List.getElem?_append_right (by rw [List.length_map]; omega), List.getElem?_replicate] at z
      split at z <;> cases z
  refine ⟨fun i x z => ?_, fun i o z => (noown i o z).elim, fun i j o o' a z => (noown i o z).elim, h6, h7, EM.refl _ _, rfl, fun b z => (show b = p from z) ▸ h1, h2, h3, h3, ?_⟩
  · unfold startD at z
    by_cases hi : i < ds.length
    · rw [List.getElem?_append_left (by rw [List.length_map]; exact hi), List.getElem?_map] at z
      cases e : ds[i]? with
      | none => rw [e] at z; cases z
      | some d =>
        rw [e] at z
        cases z
        obtain ⟨v, e1, e2⟩ := h5.get e
        refine ⟨v, ?_, e2.less fun b m => ?_⟩
        · unfold L2.start
          rw [List.getElem?_append_left (by rw [List.length_map]; omega), List.getElem?_map, e1]
          rfl
        · rcases m with m | ⟨j, o, g1, _⟩
          · exact m
          · exact (noown j o g1).elim
    · rw [List.getElem?_append_right (by rw [List.length_map]; omega), List.getElem?_replicate] at z
      split at z <;> cases z
  · unfold startD L2.start
    rw [List.length_append, List.length_map, List.length_replicate, List.length_append, List.length_map, List.length_replicate]
    omega
theorem ends_ok {ρ : Rho} {σ : L2.St} {p q : Addr} {M : Addr → Prop} {H : Hp} {Q : VK} {E : XK} {Φ : KD} {Ψ : XD} 
    (h8 : ∀ v H' d n', Φ d n' → EB p H H' → PenAt H' p q n' → Tabs ts H' → Rp K p M H' v d → Q v H')
    (h9 : ∀ er n' cls dd H', Ψ er n' → EB p H H' → PenAt H' p q n' → Tabs ts H' → ErM K p M H' cls dd er → E cls dd H') :
    EndsOk ⟨K, p, q, ts, M, (· = p), H⟩ E ρ σ H { nx := fun _ H' => Q .non H', rt := Q } { nx := fun _ n' => Φ .non n', rt := Φ, ex := Ψ } :=
  ⟨fun σ' H' ρ' n' h e _ => h8 .non H' .non n' h (em_eb e.base) e.pen e.tab .non, fun _ _ _ _ h _ _ => h.elim, fun _ _ _ _ h _ _ => h.elim, fun v H' d n' h eb pa ta r => h8 v H' d n' h (em_eb eb) pa ta r, fun er n' cls dd H' h eb pa ta r => h9 er n' cls dd H' h (em_eb eb) pa ta r⟩
/-- a def of the program -/
theorem fn_ok {x qual : Str} {params : Arguments} {body : List Stmt} {scope : Scope} {dvs : List V} {kws : List (Str × V)} {f : Addr} {fd : FuncData} {N ps : List Str} {k : Nat} {τ : TSD}
    (F : FunD K x qual params body scope dvs kws f fd) (S : FnScope N ps scope)
    (hb : ∀ (cdv : Value) (A : Around) (outer : List Env) (s : Shared) (H : Hp) (E : XK) (W : Wd), W.K = K → W.ts = ts → Room k (A.deeper (envOfC qual scope s.heap.objs.size f cdv)) →
      PSs (cxOf (L2.CX P w) P w K mg base N qual scope f cdv A outer s H E) body (liftS W E τ)) :
    FnOk P w K mg base (L2.CX P w) (k + 1) f fd ps (spD K ts ps.length (fnD N.length τ)) :=
  F.ok S spD_len fun cdv A outer s H vs Q E hr ⟨p, q, M, ds, n, Φ, Ψ, h1, h2, h3, h4, h5, h6, h7, h8, h9, h10⟩ =>
    ⟨_, hb cdv A outer s H E ⟨K, p, q, ts, M, (· = p), H⟩ rfl rfl hr, _, n, _, start_ok h1 h2 h3 S.pre h4 h5 h6 h7, h8, ends_ok h9 h10⟩
/-- a def of the law: no repr is under way -/
theorem fn_g {x qual : Str} {params : Arguments} {body : List Stmt} {scope : Scope} {dvs : List V} {kws : List (Str × V)} {f : Addr} {fd : FuncData} {N ps : List Str} {k : Nat} {τ : TSD}
    (F : FunD K x qual params body scope dvs kws f fd) (S : FnScope N ps scope)
    (hb : ∀ (cdv : Value) (A : Around) (outer : List Env) (s : Shared) (H : Hp) (E : XK) (W : Wd), W.K = K → W.ts = ts → Room k (A.deeper (envOfC qual scope s.heap.objs.size f cdv)) →
      (cxOf (L2.CX P w) P w K mg base N qual scope f cdv A outer s H E).A.guards = some [] → PSs (cxOf (L2.CX P w) P w K mg base N qual scope f cdv A outer s H E) body (liftS W E τ)) :
    FnG P w K mg base (L2.CX P w) (k + 1) f fd ps (spD K ts ps.length (fnD N.length τ)) :=
  FnG.body F S spD_len fun cdv A outer s H vs Q E hr gu ⟨p, q, M, ds, n, Φ, Ψ, h1, h2, h3, h4, h5, h6, h7, h8, h9, h10⟩ =>
    ⟨_, hb cdv A outer s H E ⟨K, p, q, ts, M, (· = p), H⟩ rfl rfl hr gu, _, n, _, start_ok h1 h2 h3 S.pre h4 h5 h6 h7, h8, ends_ok h9 h10⟩
/-- .. whose code object is told (it holds lambdas) -/
theorem fn_t {x qual : Str} {params : Arguments} {body : List Stmt} {scope : Scope} {dvs : List V} {kws : List (Str × V)} {f : Addr} {fd : FuncData} {N ps : List Str} {k : Nat} {τ : TSD} {pd : He.Defn} (hp : He.fAd K pd = f)
    (F : FunD K x qual params body scope dvs kws f fd) (S : FnScope N ps scope)
    (hb : ∀ (A : Around) (outer : List Env) (s : Shared) (H : Hp) (E : XK) (W : Wd), W.K = K → W.ts = ts → Room k (A.deeper (envOfC qual scope s.heap.objs.size f (.ref (He.cT K pd).1))) →
      (cxOf (L2.CX P w) P w K mg base N qual scope f (.ref (He.cT K pd).1) A outer s H E).A.guards = some [] → PSs (cxOf (L2.CX P w) P w K mg base N qual scope f (.ref (He.cT K pd).1) A outer s H E) body (liftS W E τ)) :
    FnG P w K mg base (L2.CX P w) (k + 1) f fd ps (spD K ts ps.length (fnD N.length τ)) :=
  FnG.bodyT hp F S spD_len fun A outer s H vs Q E hr gu ⟨p, q, M, ds, n, Φ, Ψ, h1, h2, h3, h4, h5, h6, h7, h8, h9, h10⟩ =>
    ⟨_, hb A outer s H E ⟨K, p, q, ts, M, (· = p), H⟩ rfl rfl hr gu, _, n, _, start_ok h1 h2 h3 S.pre h4 h5 h6 h7, h8, ends_ok h9 h10⟩
theorem FnG.imp {CX : CXT} {k : Nat} {f : Addr} {fd : FuncData} {ps : List Str} {sp sp' : Sp} (F : FnG P w K mg base CX k f fd ps sp) (h : ∀ vs H Q E, sp' vs H Q E → sp vs H Q E) : FnG P w K mg base CX k f fd ps sp' :=
  ⟨fun vs H Q E q => F.len vs H Q E (h _ _ _ _ q), fun A outer s H args us vs Q E gu hr he hb hv hs => F.run A outer s H args us vs Q E gu hr he hb hv (h _ _ _ _ hs)⟩
/-- a def that raises nothing is one that may raise -/
theorem FnOk.cx {k : Nat} {f : Addr} {fd : FuncData} {ps : List Str} {sp : Sp} (F : FnOk P w K mg base CX0 k f fd ps sp) : FnOk P w K mg base (L2.CX P w) k f fd ps sp :=
  ⟨F.len, fun A outer s H args us vs Q E hr he hb hv hs => codeAny_mono (F.run A outer s H args us vs Q E hr he hb hv hs) fun r s' h => by
    cases r with
    | error e => exact (show False from h).elim
    | ok fl => cases fl <;> exact h⟩
end
/-! ### calls -/
def dCall (m : Nat) (φ : FD) (dd : List D) (a : TAD) : TD := fun ρ n Φ Ψ => a ρ n (fun ds n1 => (ds ++ dd).length = m ∧ φ (ds ++ dd) n1 Φ Ψ) Ψ
def dCallK (m : Nat) (φ : FD) (g : List D → List D → List D) (a b : TAD) : TD := fun ρ n Φ Ψ => a ρ n (fun ds n1 => b ρ n1 (fun es n2 => (g ds es).length = m ∧ φ (g ds es) n2 Φ Ψ) Ψ) Ψ
/-- o.m(..): the class tells the def -/
def dMeth (tbl : List (Str × Nat × FD)) (m : Str) (o : TD) (dd : List D) (a : TAD) : TD := fun ρ n Φ Ψ => o ρ n (fun x n1 => ∃ c fs k φ, x = .ob c fs ∧ (c, k, φ) ∈ tbl ∧ fs.lookup m = none ∧ a ρ n1 (fun ds n2 => (x :: (ds ++ dd)).length = k ∧ φ (x :: (ds ++ dd)) n2 Φ Ψ) Ψ) Ψ
section
variable {X : Cx} {W : Wd} {E : XK}
theorem sp_read {φ : FD} {m n : Nat} {ρ : Rho} {σ : L2.St} {H : Hp} {Q : VK} {Φ : KD} {Ψ : XD} {vs : List V} {ds : List D} (e : EnvOk W ρ n σ H) (r : RpL W.K W.p (Mu W ρ σ) H vs ds) (hl : ds.length = m) (h : φ ds n Φ Ψ)
    (k : ∀ v H' d n', Φ d n' → EnvOk W ρ n' σ H' → EB W.p H H' → Rp W.K W.p (Mu W ρ σ) H' v d → Q v H') (x : ExW W E Ψ) : spD W.K W.ts m φ vs H Q E :=
  ⟨W.p, W.q, Mu W ρ σ, ds, n, Φ, Ψ, e.mup, .inl e.mq, e.al, hl, r, e.pen, e.tab, h, fun v H' d n' hd eb pa ta rp => k v H' d n' hd (e.step eb pa ta) eb rp,
    fun er n' cls dd H' he eb pa ta ⟨r1, r2⟩ => x er n' cls dd H' he (e.base.trans (EM.eb eb e.cp)) pa ta ⟨r1, r2.elim .inl fun ⟨d, fv, q1, q2, q3⟩ => .inr ⟨d, fv, q1, q2, q3.1.less (fun b mb => .inl mb), fun z => q3.2 (.inl z)⟩⟩⟩
theorem call_read {φ : FD} {m : Nat} {dvs : List V} {dd : List D} {ta : TAD} (hd : ∀ M H, RpL W.K W.p M H dvs dd) {σ : L2.St} {H : Hp} {Q : VK} (h : lift W E (dCall m φ dd ta) σ H Q) : tCall (spD W.K W.ts m φ) dvs E (liftA W E ta) σ H Q := by
  obtain ⟨ρ, n, Φ, Ψ, e, t, k, x⟩ := h
  exact ⟨ρ, n, _, Ψ, e, t, fun vs H1 ds n1 h1 e1 k1 r1 => sp_read e1 (r1.append (hd _ _)) h1.1 h1.2 (fun v H' d n' hd e' k' r' => k v H' d n' hd e' (k1.trans k') r') x, x⟩
theorem call_read0 {φ : FD} {m : Nat} {dvs : List V} {dd : List D} (hd : ∀ M H, RpL W.K W.p M H dvs dd) {σ : L2.St} {H : Hp} {Q : VK} (h : lift W E (dCall m φ dd dNil) σ H Q) : tCall (spD W.K W.ts m φ) dvs E tNil σ H Q := by
  obtain ⟨ρ, n, Φ, Ψ, e, t, k, x⟩ := h
  exact sp_read (vs := [] ++ dvs) e (hd _ _) t.1 t.2 k x
section
variable {k : Nat} {f : Addr} {fd : FuncData} {ps : List Str} {φ : FD} {dvs : List V} {dd : List D} {us : List Value} {x : Str} {p pos : Pos} {e : Expr} {es : List Expr} {ta : TAD}
theorem dx_call (F : FnOk X.prog X.w X.K X.mg X.base (L2.CX X.prog X.w) k f fd ps (spD W.K W.ts ps.length φ)) (hr : Room k X.A) (hg : Gl X x) (hm : X.mg x = some (.ref f)) (hk : PySem.W.keepIn X.K (.ref f) = true) (hb : Binds X.K fd ps us) (hv : Vals dvs us)
    (hd : ∀ M H, RpL W.K W.p M H dvs dd) (hx : Passes (L2.CX X.prog X.w) X E) (ha : PA X (e :: es) (liftA W E ta)) (hdb : (x == ("__debug__" : Str)) = false := by decide) (he : starEach (e :: es) X.env = (false, eval e X.env) :: starEach es X.env := by rfl)
    (hpl : (backTo pos (starEach es X.env)).any (·.1) = false := by rfl) : PE X (.Call (.Name x p) (e :: es) [] pos) (lift W E (dCall ps.length φ dd ta)) :=
  pe_imp (pe_call F hr hg hm hk hb hv hx ha hdb he hpl) fun σ H Q h => call_read hd h
theorem dx_callG (gu : X.A.guards = some []) (F : FnG X.prog X.w X.K X.mg X.base (L2.CX X.prog X.w) k f fd ps (spD W.K W.ts ps.length φ)) (hr : Room k X.A) (hg : Gl X x) (hm : X.mg x = some (.ref f)) (hk : PySem.W.keepIn X.K (.ref f) = true) (hb : Binds X.K fd ps us) (hv : Vals dvs us)
    (hd : ∀ M H, RpL W.K W.p M H dvs dd) (hx : Passes (L2.CX X.prog X.w) X E) (ha : PA X (e :: es) (liftA W E ta)) (hdb : (x == ("__debug__" : Str)) = false := by decide) (he : starEach (e :: es) X.env = (false, eval e X.env) :: starEach es X.env := by rfl)
    (hpl : (backTo pos (starEach es X.env)).any (·.1) = false := by rfl) : PE X (.Call (.Name x p) (e :: es) [] pos) (lift W E (dCall ps.length φ dd ta)) :=
  pe_imp (pe_callG gu F hr hg hm hk hb hv hx ha hdb he hpl) fun σ H Q h => call_read hd h
theorem dx_call0 (F : FnOk X.prog X.w X.K X.mg X.base (L2.CX X.prog X.w) k f fd ps (spD W.K W.ts ps.length φ)) (hr : Room k X.A) (hg : Gl X x) (hm : X.mg x = some (.ref f)) (hk : PySem.W.keepIn X.K (.ref f) = true) (hb : Binds X.K fd ps us) (hv : Vals dvs us)
    (hd : ∀ M H, RpL W.K W.p M H dvs dd) (hx : Passes (L2.CX X.prog X.w) X E) (hdb : (x == ("__debug__" : Str)) = false := by decide) : PE X (.Call (.Name x p) [] [] pos) (lift W E (dCall ps.length φ dd dNil)) :=
  pe_imp (pe_call0 F hr hg hm hk hb hv hx hdb) fun σ H Q h => call_read0 hd h
end
end
end DL
namespace DL
open PySem PySem.Spec PyProof.Rows L2 Gx KX LamX
/-! ### items, slices -/
def ixD : D → D → (D → Prop) → Prop
  | .lst ds, .int i, k => ∃ d, atI ds i = some d ∧ k d
  | .tup ds, .int i, k => ∃ d, atI ds i = some d ∧ k d
  | .str s, .int i, k => s.length ≤ sizeLine ∧ ∃ c, atI s.cps.toList i = some c ∧ k (.str ⟨#[c]⟩)
  | _, _, _ => False
def cutD {α : Type} (xs : List α) (lo hi : Option Int) : List α := (xs.drop (HT.sIx xs.length 0 lo)).take (HT.sIx xs.length xs.length hi - HT.sIx xs.length 0 lo)
def slD (lo hi : Option Int) : D → (D → Prop) → Prop
  | .lst ds, k => k (.lst (cutD ds lo hi))
  | .tup ds, k => k (.tup (cutD ds lo hi))
  | .str s, k => s.length ≤ sizeLine ∧ k (.str (cutS s lo hi))
  | _, _ => False
abbrev TOD := Rho → Nat → (Option Int → Nat → Prop) → XD → Prop
def dNoPart : TOD := fun _ n Φ _ => Φ none n
def dPart (a : TD) : TOD := fun ρ n Φ Ψ => a ρ n (fun x n1 => ∃ i, x = .int i ∧ Φ (some i) n1) Ψ
def dSl (a : TD) (l h : TOD) : TD := fun ρ n Φ Ψ => a ρ n (fun x n1 => l ρ n1 (fun lo n2 => h ρ n2 (fun hi n3 => slD lo hi x fun z => Φ z n3) Ψ) Ψ) Ψ
section
variable {X : Cx} {W : Wd} {E : XK}
theorem at_rp {K : PySem.W.Frag} {p : Addr} {M : Addr → Prop} {H : Hp} {vs : List V} {ds : List D} (r : RpL K p M H vs ds) {i : Int} {d : D} (h : atI ds i = some d) : ∃ v, atI vs i = some v ∧ Rp K p M H v d := by
  unfold atI at h ⊢
  rw [r.length]
  cases e : ixN ds.length i with
  | none => rw [e] at h; cases h
  | some j =>
    rw [e] at h
    exact r.get h
theorem id_ix (hK : X.K = W.K) : IxR X (rD W ixD) := by
  intro va sl pins s σ H x y v u Q I rx ry ⟨M, d, e, k, al, r1, r2, f, q⟩ hs
  cases r1 <;> cases r2 <;> first | exact f.elim | skip
  case str.int z i =>
    obtain ⟨f0, c, f1, f2⟩ := f
    exact ix_str va sl pins s σ H _ _ v u Q I rx ry ⟨_, _, _, rfl, rfl, f0, f1, q _ _ _ f2 (fun _ _ h => h) (.str _)⟩ hs
  case tup.int n1 h1 l1 i =>
    obtain ⟨d, f1, f2⟩ := f
    obtain ⟨w, g1, g2⟩ := at_rp l1 f1
    exact ix_tup va sl pins s σ H _ _ v u Q I rx ry ⟨_, _, _, _, rfl, rfl, SqT.of h1, g1, q _ _ _ f2 (fun _ _ h => h) g2⟩ hs
  case tupS.int h1 l1 i =>
    obtain ⟨d, f1, f2⟩ := f
    obtain ⟨w, g1, g2⟩ := at_rp l1 f1
    exact ix_tup va sl pins s σ H _ _ v u Q I rx ry ⟨_, _, _, _, rfl, rfl, hK ▸ h1 _, g1, q _ _ _ f2 (fun _ _ h => h) g2⟩ hs
  case lst.int n1 h1 l1 i =>
    obtain ⟨d, f1, f2⟩ := f
    obtain ⟨w, g1, g2⟩ := at_rp l1 f1
    exact ix_list va sl pins s σ H _ _ v u Q I rx ry ⟨_, _, _, _, rfl, rfl, SqL.of h1, g1, q _ _ _ f2 (fun _ _ h => h) g2⟩ hs
theorem dx_ix (hK : X.K = W.K) {a b : Expr} {pos : Pos} {ta tb : TD} (ha : PE X a (lift W E ta)) (hb : PE X b (lift W E tb)) (hs : PlainIx b) : PE X (.Subscript a b pos) (lift W E (dOp2 ixD ta tb)) :=
  pe_imp (pe_ix (id_ix hK) ha hb hs) fun σ H Q ⟨ρ, n, Φ, Ψ, e, t, k, x⟩ => two e t k x
theorem cut_rp {K : PySem.W.Frag} {p : Addr} {M : Addr → Prop} {H : Hp} {vs : List V} {ds : List D} (r : RpL K p M H vs ds) (lo hi : Option Int) : RpL K p M H (cutV vs lo hi) (cutD ds lo hi) := by
  unfold cutV cutD
  rw [r.length]
  exact (r.drop _).take _
theorem cut_all {α : Type} {xs : List α} {lo hi : Option Int} (h : HT.sIx xs.length 0 lo = 0 ∧ HT.sIx xs.length xs.length hi = xs.length) : cutD xs lo hi = xs := by
  unfold cutD
  rw [h.1, h.2, List.drop_zero, Nat.sub_zero, List.take_length]
/-- a slice over data -/
def rSlD (W : Wd) : V → Option Int → Option Int → Hp → VK → Prop := fun x lo hi H Q => ∃ (M : Addr → Prop) (d : D) (k : D → Prop), Al M H ∧ Rp W.K W.p M H x d ∧ slD lo hi d k ∧ ∀ v H' z, k z → Same H H' → Rp W.K W.p M H' v z → Q v H'
theorem sd_sl (hK : X.K = W.K) : SlR X (rSlD W) := by
  intro pins s σ H x v vl vu lo hi sl Q I rx hs pl pu ⟨M, d, k, al, r1, f, q⟩
  cases r1 <;> first | exact f.elim | skip
  case str z => exact sl_str pins s σ H _ v vl vu lo hi sl Q I rx hs pl pu ⟨_, rfl, f.1, q _ _ _ f.2 (fun _ _ h => h) (.str _)⟩
  case tup n1 h1 l1 =>
    refine sl_tupA pins s σ H _ v vl vu lo hi sl Q I rx hs pl pu ⟨_, _, rfl, SqT.of h1, fun z => ?_, fun z p np => ?_⟩
    · rw [l1.length] at z
      rw [slD, cut_all z] at f
      exact q _ _ _ f (fun _ _ h => h) (.tup n1 h1 l1)
    · exact q _ _ _ f (new_same np _) (.tup (al.fresh np) upd_same ((cut_rp l1 lo hi).em (EM.same (new_same np _))))
  case tupS h1 l1 =>
    refine sl_tupA pins s σ H _ v vl vu lo hi sl Q I rx hs pl pu ⟨_, _, rfl, hK ▸ h1 _, fun z => ?_, fun z p np => ?_⟩
    · rw [l1.length] at z
      rw [slD, cut_all z] at f
      exact q _ _ _ f (fun _ _ h => h) (.tupS h1 l1)
    · exact q _ _ _ f (new_same np _) (.tup (al.fresh np) upd_same ((cut_rp l1 lo hi).em (EM.same (new_same np _))))
  case lst n1 h1 l1 =>
    refine sl_list pins s σ H _ v vl vu lo hi sl Q I rx hs pl pu ⟨_, _, rfl, SqL.of h1, fun p np => ?_⟩
    exact q _ _ _ f (new_same np _) (.lst (al.fresh np) upd_same ((cut_rp l1 lo hi).em (EM.same (new_same np _))))
def liftO (W : Wd) (E : XK) (τ : TOD) : TO := fun σ H Q => ∃ (ρ : Rho) (n : Nat) (Φ : Option Int → Nat → Prop) (Ψ : XD), EnvOk W ρ n σ H ∧ τ ρ n Φ Ψ ∧
  (∀ b H' n', Φ b n' → EnvOk W ρ n' σ H' → EB W.p H H' → Q b H') ∧ ExW W E Ψ
theorem po_imp {e : Option Expr} {t t' : TO} (h : PO X e t) (k : ∀ σ H Q, t' σ H Q → t σ H Q) : PO X e t' := ⟨fun pins s σ H Q I q => h.run pins s σ H Q I (k _ _ _ q)⟩
theorem do_none : PO X none (liftO W E dNoPart) := po_imp po_none fun σ H Q ⟨ρ, n, Φ, Ψ, e, t, k, x⟩ => k none H n t e (EB.refl _ _)
theorem do_some {a : Expr} {ta : TD} (ha : PE X a (lift W E ta)) : PO X (some a) (liftO W E (dPart ta)) := po_imp (po_some ha) fun σ H Q ⟨ρ, n, Φ, Ψ, e, t, k, x⟩ =>
  ⟨ρ, n, _, Ψ, e, t, fun v H1 d n1 h1 e1 k1 r1 => by
    obtain ⟨i, rfl, q⟩ := h1
    cases r1
    exact ⟨i, rfl, k _ H1 n1 q e1 k1⟩, x⟩
theorem dx_sl (hK : X.K = W.K) {a : Expr} {lo hi : Option Expr} {ta : TD} {tl th : TOD} {p2 pos : Pos} (ha : PE X a (lift W E ta)) (hl : PO X lo (liftO W E tl)) (hh : PO X hi (liftO W E th)) :
    PE X (.Subscript a (.Slice lo hi none p2) pos) (lift W E (dSl ta tl th)) := pe_imp (pe_slice (sd_sl hK) ha hl hh) fun σ H Q ⟨ρ, n, Φ, Ψ, e, t, k, x⟩ =>
  ⟨ρ, n, _, Ψ, e, t, fun v H1 d n1 h1 e1 k1 r1 => ⟨ρ, n1, _, Ψ, e1, h1, fun l H2 n2 h2 e2 k2 => ⟨ρ, n2, _, Ψ, e2, h2, fun u H3 n3 h3 e3 k3 =>
    ⟨Mu W ρ σ, d, _, e3.al, (r1.em (e1.eb k2)).em (e2.eb k3), h3, fun w H4 z hz s r4 => k w H4 z n3 hz (e3.same s) (((k1.trans k2).trans k3).trans (EB.same s)) r4⟩, x⟩, x⟩, x⟩
end
/-! ### built-ins -/
def lenD : List D → (D → Prop) → Prop
  | [.lst ds], k => k (.int ds.length)
  | [.tup ds], k => k (.int ds.length)
  | [.str s], k => s.length ≤ sizeLine ∧ k (.int s.length)
  | [.dct ks], k => k (.int ks.length)
  | _, _ => False
def absD : List D → (D → Prop) → Prop
  | [.int i], k => k (.int (if i < 0 then -i else i))
  | _, _ => False
def intD : List D → (D → Prop) → Prop
  | [.int i], k => k (.int i)
  | [.bl b], k => k (.int (if b then 1 else 0))
  | _, _ => False
def strD : List D → (D → Prop) → Prop
  | [.int i], k => i.natAbs.log2 < 1920 ∧ k (.str (toString i))
  | [.str a], k => k (.str a)
  | _, _ => False
/-- a text's signs -/
def chS (z : Str) : List D := z.cps.toList.map fun c => .str ⟨#[c]⟩
def listD : List D → (D → Prop) → Prop
  | [.lst ds], k => k (.lst ds)
  | [.tup ds], k => k (.lst ds)
  | [.str z], k => z.length ≤ sizeLine ∧ k (.lst (chS z))
  | _, _ => False
def tupleD : List D → (D → Prop) → Prop
  | [.lst ds], k => k (.tup ds)
  | [.tup ds], k => k (.tup ds)
  | _, _ => False
def allD (f : List Bool → Bool) : List D → (D → Prop) → Prop
  | [.lst ds], k => ∃ bs, ds = bs.map D.bl ∧ k (.bl (f bs))
  | _, _ => False
def fineD (d : D) : Bool := d.isPy0 && fine d.py
def reprD : List D → (D → Prop) → Prop
  | [d], k => fineD d = true ∧ k (.str d.py.shown)
  | _, _ => False
/-- in a list, a tuple -/
def inOk (x : D) : List D → Prop
  | [] => True
  | y :: ys => ((y.isPy = true ∧ x.isPy = true ∧ y.dep ≤ 60 ∧ x.dep ≤ 60) ∨ ∃ z ks, y = .str z ∧ x = .dct ks) ∧ inOk x ys
def inD (neg : Bool) : D → D → (D → Prop) → Prop
  | x, .lst ds, k => inOk x ds ∧ k (.bl (neg ^^ anyEq x ds))
  | x, .tup ds, k => inOk x ds ∧ k (.bl (neg ^^ anyEq x ds))
  | .str c, .str z, k => ∃ a, c = ⟨#[a]⟩ ∧ k (.bl (neg ^^ decide (a ∈ z.cps.toList)))
  | _, _, _ => False
section
variable {X : Cx} {W : Wd} {E : XK}
theorem one_rp {K : PySem.W.Frag} {p : Addr} {M : Addr → Prop} {H : Hp} {xs : List V} {d : D} (r : RpL K p M H xs [d]) : ∃ v, xs = [v] ∧ Rp K p M H v d := by
  cases r with
  | cons h t => cases t; exact ⟨_, rfl, h⟩
theorem rpk_length {K : PySem.W.Frag} {p : Addr} {M : Addr → Prop} {H : Hp} : ∀ {vs : List (Key × V)} {ds : List (Key × D)}, RpK K p M H vs ds → vs.length = ds.length
  | _, _, .nil => rfl
  | _, _, .cons _ r => by rw [List.length_cons, List.length_cons, rpk_length r]
theorem cd_len (hK : X.K = W.K) : CallR X (.builtin "len") (cD W lenD) := by
  intro pins s σ H xs us Q I r ⟨M, ds, k, al, r1, f, q⟩
  unfold lenD at f
  split at f <;> first | exact f.elim | skip
  · obtain ⟨v, rfl, r2⟩ := one_rp r1
    cases r2 with
    | lst n1 h1 l1 => exact call_len_seq pins s σ H _ us Q I r ⟨_, _, rfl, .inl (SqL.of h1), q _ _ _ (l1.length ▸ f) (fun _ _ h => h) (.int _)⟩
  · obtain ⟨v, rfl, r2⟩ := one_rp r1
    cases r2 with
    | tup n1 h1 l1 => exact call_len_seq pins s σ H _ us Q I r ⟨_, _, rfl, .inr (SqT.of h1), q _ _ _ (l1.length ▸ f) (fun _ _ h => h) (.int _)⟩
    | tupS h1 l1 => exact call_len_seq pins s σ H _ us Q I r ⟨_, _, rfl, .inr (hK ▸ h1 _), q _ _ _ (l1.length ▸ f) (fun _ _ h => h) (.int _)⟩
  · obtain ⟨v, rfl, r2⟩ := one_rp r1
    cases r2
    exact call_len pins s σ H _ us Q I r ⟨_, _, rfl, ⟨f.1, rfl⟩, q _ _ _ f.2 (fun _ _ h => h) (.int _)⟩
  · obtain ⟨v, rfl, r2⟩ := one_rp r1
    cases r2 with
    | @dct _ kv _ n1 h1 l1 => exact call_lenD pins s σ H _ us Q I r ⟨_, _, rfl, h1, q _ _ _ (by rw [show kv.length = _ from rpk_length l1]; exact f) (fun _ _ h => h) (.int _)⟩
theorem cd_abs : CallR X (.builtin "abs") (cD W absD) := by
  intro pins s σ H xs us Q I r ⟨M, ds, k, al, r1, f, q⟩
  unfold absD at f
  split at f <;> first | exact f.elim | skip
  obtain ⟨v, rfl, r2⟩ := one_rp r1
  cases r2
  exact call_abs pins s σ H _ us Q I r ⟨_, rfl, q _ _ _ f (fun _ _ h => h) (.int _)⟩
theorem cd_int : CallR X (.type "int") (cD W intD) := by
  intro pins s σ H xs us Q I r ⟨M, ds, k, al, r1, f, q⟩
  unfold intD at f
  split at f <;> first | exact f.elim | skip
  · obtain ⟨v, rfl, r2⟩ := one_rp r1
    cases r2
    exact call_int1 pins s σ H _ us Q I r (.inl ⟨_, rfl, q _ _ _ f (fun _ _ h => h) (.int _)⟩)
  · obtain ⟨v, rfl, r2⟩ := one_rp r1
    cases r2
    exact call_int1 pins s σ H _ us Q I r (.inr ⟨_, rfl, q _ _ _ f (fun _ _ h => h) (.int _)⟩)
theorem cd_str : CallR X (.type "str") (cD W strD) := by
  intro pins s σ H xs us Q I r ⟨M, ds, k, al, r1, f, q⟩
  unfold strD at f
  split at f <;> first | exact f.elim | skip
  · obtain ⟨v, rfl, r2⟩ := one_rp r1
    cases r2
    exact call_str_int pins s σ H _ us Q I r ⟨_, rfl, f.1, q _ _ _ f.2 (fun _ _ h => h) (.str _)⟩
  · obtain ⟨v, rfl, r2⟩ := one_rp r1
    cases r2
    exact SkE.call_str_str pins s σ H _ us Q I r ⟨_, rfl, q _ _ _ f (fun _ _ h => h) (.str _)⟩
theorem vals_get : ∀ {xs : List V} {us : List Value}, xs.length = us.length → (∀ (j : Nat) (x : V) (u : Value), xs[j]? = some x → us[j]? = some u → RelV x u) → Vals xs us
  | [], [], _, _ => .nil
  | x :: xs, u :: us, hl, h => .cons (h 0 x u rfl rfl) (vals_get (by simpa using hl) fun j y w e1 e2 => h (j + 1) y w (by simpa using e1) (by simpa using e2))
  | [], _ :: _, hl, _ => by simp at hl
  | _ :: _, [], hl, _ => by simp at hl
theorem call_list_sign (hc : X.calm = true) : CallR X (.type "list") (fun xs H Q => ∃ z : Str, xs = [.str z] ∧ z.length ≤ sizeLine ∧ ∀ l, H l = none → Q (.ref l) (upd H l (.lst (z.cps.toList.map fun c => V.str ⟨#[c]⟩)))) := by
  intro pins s σ H xs us Q I r hh
  obtain ⟨z, rfl, hz, q⟩ := hh
  obtain ⟨u, rfl, t, rfl⟩ := vals1 r
  refine PySem.call_list_str (I.ok.hd hc) z t (fun h' tk acc c' hk hS hacc => ?_) hz
  have hv : Vals (z.cps.toList.map fun c => V.str ⟨#[c]⟩) acc.toList := vals_get (by simpa using hacc.1.symm) fun j x u e1 e2 => by
    obtain ⟨c, t', e3, e4⟩ := hacc.2 j u (by rw [← Array.getElem?_toList]; exact e2)
    rw [List.getElem?_map, Array.getElem?_toList, e3] at e1
    cases e1
    subst e4
    exact ⟨t', rfl⟩
  exact ⟨.ref s.heap.objs.size, upd H s.heap.objs.size (.lst _), I.laid (t' := tk) hk (Nat.le_refl _)
    (show ObjOk X.prog X.w _ _ _ (.lst (z.cps.toList.map fun c => V.str ⟨#[c]⟩)) from ⟨by rw [List.length_map]; exact hz, acc.toList, c', hv, by rw [Array.toArray_toList]; exact hS⟩), rfl, q _ (I.hok.fresh (Nat.le_refl _))⟩
theorem ch_rp {K : PySem.W.Frag} {p : Addr} {M : Addr → Prop} {H : Hp} : ∀ (cs : List Nat), RpL K p M H (cs.map fun c => V.str ⟨#[c]⟩) (cs.map fun c => D.str ⟨#[c]⟩)
  | [] => .nil
  | c :: cs => .cons (.str _) (ch_rp cs)
theorem cd_list (hc : X.calm = true) (hK : X.K = W.K) : CallR X (.type "list") (cD W listD) := by
  intro pins s σ H xs us Q I r ⟨M, ds, k, al, r1, f, q⟩
  unfold listD at f
  split at f <;> first | exact f.elim | skip
  · obtain ⟨v, rfl, r2⟩ := one_rp r1
    cases r2 with
    | lst n1 h1 l1 => exact call_list_of pins s σ H _ us Q I r ⟨_, _, rfl, .inl (SqL.of h1), fun p np => q _ _ _ f (new_same np _) (.lst (al.fresh np) upd_same (l1.em (EM.same (new_same np _))))⟩
  · obtain ⟨v, rfl, r2⟩ := one_rp r1
    cases r2 with
    | tup n1 h1 l1 => exact call_list_of pins s σ H _ us Q I r ⟨_, _, rfl, .inr (SqT.of h1), fun p np => q _ _ _ f (new_same np _) (.lst (al.fresh np) upd_same (l1.em (EM.same (new_same np _))))⟩
    | tupS h1 l1 => exact call_list_of pins s σ H _ us Q I r ⟨_, _, rfl, .inr (hK ▸ h1 _), fun p np => q _ _ _ f (new_same np _) (.lst (al.fresh np) upd_same (l1.em (EM.same (new_same np _))))⟩
  · obtain ⟨v, rfl, r2⟩ := one_rp r1
    cases r2 with
    | str z => exact call_list_sign hc pins s σ H _ us Q I r ⟨_, rfl, f.1, fun p np => q _ _ _ f.2 (new_same np _) (.lst (al.fresh np) upd_same ((ch_rp _).em (EM.same (new_same np _))))⟩
theorem cd_tuple (hK : X.K = W.K) : CallR X (.type "tuple") (cD W tupleD) := by
  intro pins s σ H xs us Q I r ⟨M, ds, k, al, r1, f, q⟩
  unfold tupleD at f
  split at f <;> first | exact f.elim | skip
  · obtain ⟨v, rfl, r2⟩ := one_rp r1
    cases r2 with
    | lst n1 h1 l1 => exact call_tuple_of pins s σ H _ us Q I r ⟨_, _, rfl, .inl ⟨SqL.of h1, fun p np => q _ _ _ f (new_same np _) (.tup (al.fresh np) upd_same (l1.em (EM.same (new_same np _))))⟩⟩
  · obtain ⟨v, rfl, r2⟩ := one_rp r1
    cases r2 with
    | tup n1 h1 l1 => exact call_tuple_of pins s σ H _ us Q I r ⟨_, _, rfl, .inr ⟨SqT.of h1, q _ _ _ f (fun _ _ h => h) (.tup n1 h1 l1)⟩⟩
    | tupS h1 l1 => exact call_tuple_of pins s σ H _ us Q I r ⟨_, _, rfl, .inr ⟨hK ▸ h1 _, q _ _ _ f (fun _ _ h => h) (.tupS h1 l1)⟩⟩
theorem bls_rp {K : PySem.W.Frag} {p : Addr} {M : Addr → Prop} {H : Hp} : ∀ {vs : List V} {bs : List Bool}, RpL K p M H vs (bs.map D.bl) → vs = bs.map V.bl
  | _, [], .nil => rfl
  | _, b :: bs, .cons h t => by
    cases h
    rw [bls_rp t]
    rfl
theorem cd_all (hc : X.calm = true) : CallR X (.builtin "all") (cD W (allD fun bs => bs.all id)) := by
  intro pins s σ H xs us Q I r ⟨M, ds, k, al, r1, f, q⟩
  unfold allD at f
  split at f <;> first | exact f.elim | skip
  obtain ⟨v, rfl, r2⟩ := one_rp r1
  obtain ⟨bs, rfl, f⟩ := f
  cases r2 with
  | lst n1 h1 l1 =>
    rw [bls_rp l1] at h1
    exact cr_all hc pins s σ H _ us Q I r ⟨_, _, rfl, SqL.of h1, q _ _ _ f (fun _ _ h => h) (.bl _)⟩
theorem cd_any (hc : X.calm = true) : CallR X (.builtin "any") (cD W (allD fun bs => bs.any id)) := by
  intro pins s σ H xs us Q I r ⟨M, ds, k, al, r1, f, q⟩
  unfold allD at f
  split at f <;> first | exact f.elim | skip
  obtain ⟨v, rfl, r2⟩ := one_rp r1
  obtain ⟨bs, rfl, f⟩ := f
  cases r2 with
  | lst n1 h1 l1 =>
    rw [bls_rp l1] at h1
    exact cr_any hc pins s σ H _ us Q I r ⟨_, _, rfl, SqL.of h1, q _ _ _ f (fun _ _ h => h) (.bl _)⟩
theorem cd_repr (hK : X.K = W.K) (sm : SmK X.K) (gu : X.A.guards = some []) (hu : X.A.units + 64 < cLine) : CallR X (.builtin "repr") (cD W reprD) := by
  intro pins s σ H xs us Q I r ⟨M, ds, k, al, r1, f, q⟩
  unfold reprD at f
  split at f <;> first | exact f.elim | skip
  obtain ⟨v, rfl, r2⟩ := one_rp r1
  obtain ⟨f1, f2⟩ := f
  unfold fineD at f1
  rw [Bool.and_eq_true] at f1
  exact call_reprQ sm gu hu pins s σ H _ us Q I r ⟨_, _, rfl, hK ▸ r2.dq f1.1, f1.2, q _ _ _ f2 (fun _ _ h => h) (.str _)⟩
/-- the items' comparison with x -/
theorem in_run {pins : List (Addr × Obj)} {σ : L2.St} {H : Hp} {s : Shared} {M : Addr → Prop} {A : Around} {x : D} {v : V} {u : Value} (hK : X.K = W.K) (I : Inv X pins σ H s) (hu : A.units + 64 < cLine) (rx : RelV v u) (r : Rp W.K W.p M H v x) :
    ∀ {ds : List D} {vs : List V} {us : List Value}, inOk x ds → RpL W.K W.p M H vs ds → Vals vs us → ∃ bs : List Bool, Paired (fun w b => SeqAt.EqAt A s w u b) us bs ∧ bs.any id = anyEq x ds
  | [], _, _, _, .nil, .nil => ⟨[], .nil, rfl⟩
  | y :: ds, _, _, h, .cons r1 rr, .cons q1 qr => by
    obtain ⟨bs, h1, h2⟩ := in_run hK I hu rx r h.2 rr qr
    refine ⟨D.eqb y x :: bs, .cons ?_ h1, by rw [List.any_cons, h2, anyEq]; rfl⟩
    rcases h.1 with ⟨g1, g2, g3, g4⟩ | ⟨z, ks, rfl, rfl⟩
    · obtain ⟨as, e1⟩ := Dp.reads I _ _ _ (hK ▸ r1.dp g1) q1
      obtain ⟨bs', e2⟩ := Dp.reads I _ _ _ (hK ▸ r.dp g2) rx
      have e := SeqAt.eqAt_reads y.py x.py A s _ _ _ _ e1 e2 (canLay_py _ g1) (canLay_py _ g2) (by
        have := dep_py y (isPy_0 _ g1)
        have : min y.py.depth x.py.depth ≤ y.py.depth := Nat.min_le_left _ _
        omega)
      rw [eqb_py y x g1 g2] at e
      exact e
    · cases r1
      cases r with
      | @dct a kv ks na ha rk =>
        obtain ⟨t, rfl⟩ := q1
        cases (show u = Value.ref a from rx)
        obtain ⟨_, nsys, vs, kvr, o, es, ep, ho, ⟨hc, hs⟩, hd, he, _⟩ := (show ObjOk X.prog X.w H s.heap a (.dK kv) from I.hok a _ ha)
        obtain ⟨c, dd, dt, sl⟩ := o
        cases (show c = _ from hc)
        cases (show dt = _ from hd)
        have e0 : D.eqb (.str z) (.dct ks) = false := by simp [D.eqb]
        rw [e0]
        exact SeqAt.kx_str_dict z t ho (by omega)
theorem zip_mem {A : Around} {s : Shared} {u : Value} : ∀ {us : List Value} {bs : List Bool}, Paired (fun w b => SeqAt.EqAt A s w u b) us bs → (∀ y b, (y, b) ∈ us.zip bs → SeqAt.EqAt A s y u b) ∧ (∀ y ∈ us, ∃ b, (y, b) ∈ us.zip bs) ∧ ∀ b ∈ bs, ∃ y ∈ us, (y, b) ∈ us.zip bs
  | _, _, .nil => ⟨fun y b h => by simp at h, fun y h => (List.not_mem_nil h).elim, fun y h => (List.not_mem_nil h).elim⟩
  | w :: us, b :: bs, .cons h t => by
    obtain ⟨h1, h2, h3⟩ := zip_mem t
    refine ⟨fun y c hm => ?_, fun y hy => ?_, fun c hc => ?_⟩
    · rw [List.zip_cons_cons, List.mem_cons] at hm
      rcases hm with e | e
      · cases e; exact h
      · exact h1 y c e
    · rcases List.mem_cons.mp hy with rfl | e
      · exact ⟨b, by rw [List.zip_cons_cons]; exact List.mem_cons_self⟩
      · obtain ⟨c, hc⟩ := h2 y e
        exact ⟨c, by rw [List.zip_cons_cons]; exact List.mem_cons_of_mem _ hc⟩
    · rcases List.mem_cons.mp hc with rfl | e
      · exact ⟨w, List.mem_cons_self, by rw [List.zip_cons_cons]; exact List.mem_cons_self⟩
      · obtain ⟨y, hy, hz⟩ := h3 c e
        exact ⟨y, List.mem_cons_of_mem _ hy, by rw [List.zip_cons_cons]; exact List.mem_cons_of_mem _ hz⟩
theorem in_fun {A : Around} {s : Shared} {u : Value} {us : List Value} {bs : List Bool} (h : Paired (fun w b => SeqAt.EqAt A s w u b) us bs) : ∃ e : Value → Bool, (∀ y ∈ us, SeqAt.EqAt A s y u (e y)) ∧ us.any e = bs.any id := by
  classical
  obtain ⟨h1, h2, h3⟩ := zip_mem h
  refine ⟨fun y => decide ((y, true) ∈ us.zip bs), fun y hy => ?_, ?_⟩
  · show SeqAt.EqAt A s y u (decide ((y, true) ∈ us.zip bs))
    by_cases z : (y, true) ∈ us.zip bs
    · rw [decide_eq_true z]; exact h1 y true z
    · rw [decide_eq_false z]
      obtain ⟨b, hb⟩ := h2 y hy
      cases b with
      | true => exact (z hb).elim
      | false => exact h1 y false hb
  · rw [Bool.eq_iff_iff, List.any_eq_true, List.any_eq_true]
    constructor
    · rintro ⟨y, hy, e⟩
      exact ⟨true, (List.of_mem_zip (of_decide_eq_true e)).2, rfl⟩
    · rintro ⟨b, hb, e⟩
      cases (show b = true from e)
      obtain ⟨y, hy, hz⟩ := h3 true hb
      exact ⟨y, hy, decide_eq_true hz⟩
theorem od_in (hK : X.K = W.K) (hu : X.A.units + 65 < cLine) : OpR X (compareOp .In) (rD W (inD false)) := by
  intro pins s σ H x y v u Q I rx ry ⟨M, d, e, k, al, r1, r2, f, q⟩
  have hu1 : X.A.in1.units + 64 < cLine := by show X.A.units + 1 + 64 < cLine; omega
  cases r2 with
  | @lst a vs ds n1 h1 l1 =>
    obtain ⟨f1, f2⟩ : inOk d ds ∧ k (.bl (false ^^ anyEq d ds)) := by cases d <;> exact f
    cases (show u = Value.ref a from ry)
    obtain ⟨its, rv, pl, hz⟩ := I.list (SqL.of h1)
    obtain ⟨bs, b1, b2⟩ := in_run hK I hu1 rx r1 f1 l1 rv
    obtain ⟨ev, e1, e2⟩ := in_fun b1
    refine SeqAt.in_listAt ev pl.isList (fun w hw => e1 w (by simpa using hw)) ⟨.bl _, H, I, rfl, ?_⟩
    rw [show its.toArray.any ev = its.any ev by simp, e2, b2]
    exact q _ _ _ f2 (fun _ _ h => h) (by rw [Bool.false_xor]; exact .bl _)
  | @tup a vs ds n1 h1 l1 =>
    obtain ⟨f1, f2⟩ : inOk d ds ∧ k (.bl (false ^^ anyEq d ds)) := by cases d <;> exact f
    cases (show u = Value.ref a from ry)
    obtain ⟨its, rv, pl, hz⟩ := I.tuple (SqT.of h1)
    obtain ⟨bs, b1, b2⟩ := in_run hK I hu1 rx r1 f1 l1 rv
    obtain ⟨ev, e1, e2⟩ := in_fun b1
    refine SeqAt.in_tupleAt ev pl (fun w hw => e1 w (by simpa using hw)) ⟨.bl _, H, I, rfl, ?_⟩
    rw [show its.toArray.any ev = its.any ev by simp, e2, b2]
    exact q _ _ _ f2 (fun _ _ h => h) (by rw [Bool.false_xor]; exact .bl _)
  | @tupS a vs ds h1 l1 =>
    obtain ⟨f1, f2⟩ : inOk d ds ∧ k (.bl (false ^^ anyEq d ds)) := by cases d <;> exact f
    cases (show u = Value.ref a from ry)
    obtain ⟨its, rv, pl, hz⟩ := I.tuple (hK ▸ h1 H)
    obtain ⟨bs, b1, b2⟩ := in_run hK I hu1 rx r1 f1 l1 rv
    obtain ⟨ev, e1, e2⟩ := in_fun b1
    refine SeqAt.in_tupleAt ev pl (fun w hw => e1 w (by simpa using hw)) ⟨.bl _, H, I, rfl, ?_⟩
    rw [show its.toArray.any ev = its.any ev by simp, e2, b2]
    exact q _ _ _ f2 (fun _ _ h => h) (by rw [Bool.false_xor]; exact .bl _)
  | str z =>
    cases r1 <;> first | exact f.elim | skip
    obtain ⟨c, rfl, f2⟩ := f
    exact op_in_sign pins s σ H _ _ v u Q I rx ry ⟨_, _, rfl, rfl, q _ _ _ f2 (fun _ _ h => h) (by rw [Bool.false_xor]; exact .bl _)⟩
  | _ => cases d <;> exact f.elim
theorem od_notIn (hK : X.K = W.K) (hu : X.A.units + 65 < cLine) : OpR X (compareOp .NotIn) (rD W (inD true)) := by
  intro pins s σ H x y v u Q I rx ry ⟨M, d, e, k, al, r1, r2, f, q⟩
  have hu1 : X.A.in1.units + 64 < cLine := by show X.A.units + 1 + 64 < cLine; omega
  cases r2 with
  | @lst a vs ds n1 h1 l1 =>
    obtain ⟨f1, f2⟩ : inOk d ds ∧ k (.bl (true ^^ anyEq d ds)) := by cases d <;> exact f
    cases (show u = Value.ref a from ry)
    obtain ⟨its, rv, pl, hz⟩ := I.list (SqL.of h1)
    obtain ⟨bs, b1, b2⟩ := in_run hK I hu1 rx r1 f1 l1 rv
    obtain ⟨ev, e1, e2⟩ := in_fun b1
    refine SeqAt.notIn_listAt ev pl.isList (fun w hw => e1 w (by simpa using hw)) ⟨.bl _, H, I, rfl, ?_⟩
    rw [show its.toArray.any ev = its.any ev by simp, e2, b2]
    exact q _ _ _ f2 (fun _ _ h => h) (by rw [Bool.true_xor]; exact .bl _)
  | @tup a vs ds n1 h1 l1 =>
    obtain ⟨f1, f2⟩ : inOk d ds ∧ k (.bl (true ^^ anyEq d ds)) := by cases d <;> exact f
    cases (show u = Value.ref a from ry)
    obtain ⟨its, rv, pl, hz⟩ := I.tuple (SqT.of h1)
    obtain ⟨bs, b1, b2⟩ := in_run hK I hu1 rx r1 f1 l1 rv
    obtain ⟨ev, e1, e2⟩ := in_fun b1
    refine SeqAt.notIn_tupleAt ev pl (fun w hw => e1 w (by simpa using hw)) ⟨.bl _, H, I, rfl, ?_⟩
    rw [show its.toArray.any ev = its.any ev by simp, e2, b2]
    exact q _ _ _ f2 (fun _ _ h => h) (by rw [Bool.true_xor]; exact .bl _)
  | @tupS a vs ds h1 l1 =>
    obtain ⟨f1, f2⟩ : inOk d ds ∧ k (.bl (true ^^ anyEq d ds)) := by cases d <;> exact f
    cases (show u = Value.ref a from ry)
    obtain ⟨its, rv, pl, hz⟩ := I.tuple (hK ▸ h1 H)
    obtain ⟨bs, b1, b2⟩ := in_run hK I hu1 rx r1 f1 l1 rv
    obtain ⟨ev, e1, e2⟩ := in_fun b1
    refine SeqAt.notIn_tupleAt ev pl (fun w hw => e1 w (by simpa using hw)) ⟨.bl _, H, I, rfl, ?_⟩
    rw [show its.toArray.any ev = its.any ev by simp, e2, b2]
    exact q _ _ _ f2 (fun _ _ h => h) (by rw [Bool.true_xor]; exact .bl _)
  | str z =>
    cases r1 <;> first | exact f.elim | skip
    obtain ⟨c, rfl, f2⟩ := f
    exact op_notIn_sign pins s σ H _ _ v u Q I rx ry ⟨_, _, rfl, rfl, q _ _ _ f2 (fun _ _ h => h) (by rw [Bool.true_xor]; exact .bl _)⟩
  | _ => cases d <;> exact f.elim
/-! isinstance -/
def D.tag (K : PySem.W.Frag) : D → Value
  | .non => .type "NoneType" | .bl _ => .type "bool" | .int _ => .type "int" | .str _ => .type "str" | .tup _ => .type "tuple" | .lst _ => .type "list" | .dct _ => .type "dict"
  | .ob c _ => .ref (He.ga K c) | .cl _ => .none | .pen => .none | .er c _ => .ref (He.ga K c) | .fn _ => .none
def isiD (f : D → Option Bool) (a : TD) : TD := fun ρ n Φ Ψ => a ρ n (fun x n1 => ∃ b, f x = some b ∧ Φ (.bl b) n1) Ψ
/-- what isinstance asks of an own class -/
structure ClsJ (K : PySem.W.Frag) (C : Addr) : Prop where
  cl : Cls K C
  ha : PySem.W.findIn K (.ref C) "__class__" = some (some (.builtin "object.__class__"))
  hn : PySem.W.specialIn K (.builtin "object.__class__") "__get__" = some (some (.builtin "getset_descriptor.__get__"))
  htk : PySem.W.takesIn K (.builtin "object.__class__") = some true
  hm : PySem.W.mroIn K C (.type "object") = some true
theorem tyx_of {M : Addr → Prop} {H : Hp} {v : V} {d : D} (r : Rp W.K W.p M H v d) (hc : ∀ c fs, d = .ob c fs → ClsJ W.K (He.ga W.K c)) (h1 : ∀ c, d ≠ .cl c) (h2 : d ≠ .pen) (h3 : ∀ c fs, d ≠ .er c fs) (h4 : ∀ a, d ≠ .fn a) : TyX W.K H v (d.tag W.K) := by
  cases r with
  | non => exact .base .non
  | bl b => exact .base (.bl b)
  | int i => exact .base (.int i)
  | str x => exact .base (.str x)
  | tup n h r => exact .base (.tup h)
  | tupS h r =>
    rcases h H with (h | ⟨o, h⟩) | ⟨o, its, n, h, hc, _⟩
    · exact .base (.tup h)
    · exact .fTuple h
    · exact .kTuple h hc
  | lst n h r => exact .base (.lst h)
  | dct n h r => exact .base (.dK h)
  | ob n h r =>
    have j := hc _ _ rfl
    exact .base (.ins h j.cl j.ha j.hn j.htk j.hm)
  | cl c => exact (h1 _ rfl).elim
  | pen => exact (h2 rfl).elim
  | er => exact (h3 _ _ rfl).elim
  | er0 => exact (h3 _ _ rfl).elim
  | fn => exact (h4 _ rfl).elim
theorem er_at {M : Addr → Prop} {H : Hp} {pins : List (Addr × Obj)} {σ : L2.St} {s : Shared} {v : V} {u : Value} {c : Str} {fs : List (Str × D)} (I : Inv X pins σ H s) (r : Rp W.K W.p M H v (.er c fs)) (rv : RelV v u) :
    ∃ (a : Addr) (ox : Obj) (od : Option Obj), v = .ref a ∧ u = .ref a ∧ PySem.W.InstAt s.heap a ox (He.ga W.K c) od := by
  cases r with
  | er n n2 h k h2 r =>
    obtain ⟨φ, rfl, k⟩ := k
    obtain ⟨g1, _⟩ := I.hok _ _ h
    obtain ⟨oe, e1, e2, vs, e3⟩ := k _ g1
    obtain ⟨mA, hns, _⟩ := (show ObjOk X.prog X.w H s.heap _ (.xd _) from I.hok _ _ h2)
    obtain ⟨od, ho, _⟩ := lookIn_ns hns
    exact ⟨_, oe, some od, rfl, rv, ⟨e1, e2.1, by unfold PySem.W.notCls; rw [e3] <;> rfl, by rw [e2.2]; exact ho⟩⟩
  | er0 n h k =>
    obtain ⟨φ, rfl, k⟩ := k
    obtain ⟨g1, _⟩ := I.hok _ _ h
    obtain ⟨oe, e1, e2, vs, e3⟩ := k _ g1
    exact ⟨_, oe, none, rfl, rv, ⟨e1, e2.1, by unfold PySem.W.notCls; rw [e3] <;> rfl, by rw [e2.2]; trivial⟩⟩
/-- isinstance of data, errors too -/
def rIsiD (W : Wd) (K : PySem.W.Frag) (f : D → Option Bool) (u : Value) : List V → Hp → VK → Prop := fun xs H Q => ∃ (M : Addr → Prop) (v c : V) (d : D) (b : Bool), xs = [v, c] ∧ ClsV c u ∧ Rp W.K W.p M H v d ∧ f d = some b ∧ Q (.bl b) H
theorem call_isiD (hK : X.K = W.K) {f : D → Option Bool} {u : Value}
    (hf : ∀ d b, f d = some b → PySem.W.kitOne X.K (d.tag X.K) u = some b ∧ (∀ c fs, d = .ob c fs → ClsJ X.K (He.ga X.K c)) ∧ (∀ c, d ≠ .cl c) ∧ d ≠ .pen ∧ (∀ a, d ≠ .fn a) ∧ ∀ c fs, d = .er c fs → ExcC X.K (He.ga X.K c)) : CallR X (.builtin "isinstance") (rIsiD W X.K f u) := by
  intro pins s σ H xs us Q I r ⟨M, v, c, d, b, hx, hc, rd, hb, q⟩
  subst hx
  obtain ⟨g1, g2, g3, g4, g6, g5⟩ := hf d b hb
  by_cases he : ∃ c fs, d = .er c fs
  · obtain ⟨c', fs, rfl⟩ := he
    obtain ⟨u1, u2, rfl, r1, r2⟩ := vals2 r
    have e2 := hc.eq r2
    subst e2
    obtain ⟨a, ox, od, rfl, rfl, J⟩ := er_at I rd r1
    have ec := g5 _ _ rfl
    exact PySem.W.kia_one (kit_kept (ox := ox) (od := od) (hK ▸ ec)) I.kIn J (by rw [← hK]; exact g1) (fun z => nomatch z) fun tk => ⟨.bl b, H, I.tok tk, rfl, q⟩
  · exact call_isi pins s σ H _ us Q I r ⟨v, c, _, u, b, rfl, hc, by rw [hK] at g2 ⊢; exact tyx_of rd g2 g3 g4 (fun c fs z => he ⟨c, fs, z⟩) g6, g1, q⟩
theorem dx_isi (hK : X.K = W.K) {f : D → Option Bool} {e c : Expr} {p pos : Pos} {cv : V} {u : Value} {ta : TD} (hg : Gl X "isinstance") (hm : X.mg "isinstance" = none) (ha : PE X e (lift W E ta)) (hcl : PE X c (tC cv)) (hk : ClsV cv u)
    (hf : ∀ d b, f d = some b → PySem.W.kitOne X.K (d.tag X.K) u = some b ∧ (∀ c fs, d = .ob c fs → ClsJ X.K (He.ga X.K c)) ∧ (∀ c, d ≠ .cl c) ∧ d ≠ .pen ∧ (∀ a, d ≠ .fn a) ∧ ∀ c fs, d = .er c fs → ExcC X.K (He.ga X.K c))
    (he : starEach [e, c] X.env = (false, eval e X.env) :: starEach [c] X.env := by rfl) (hpl : (backTo pos (starEach [c] X.env)).any (·.1) = false := by rfl) (he2 : starEach [c] X.env = (false, eval c X.env) :: starEach [] X.env := by rfl) :
    PE X (.Call (.Name "isinstance" p) [e, c] [] pos) (lift W E (isiD f ta)) :=
  pe_imp (pe_callB (call_isiD hK hf) hg hm boot_isinstance (pa_cons ha (pa_cons hcl pa_nil he2) he) (by decide) (by decide) he hpl) fun σ H Q ⟨ρ, n, Φ, Ψ, e, t, k, x⟩ =>
    ⟨ρ, n, _, Ψ, e, t, fun v H1 d n1 h1 e1 k1 r1 => by
      obtain ⟨b, hb, q⟩ := h1
      exact ⟨_, v, cv, d, b, rfl, hk, r1, hb, k (.bl b) H1 (.bl b) n1 q e1 k1 (.bl b)⟩, x⟩
end
end DL
namespace DL
open PySem PySem.Spec PyProof.Rows L2 Gx KX LamX
/-! ### targets -/
abbrev TGD := D → Rho → (Rho → Prop) → Prop
abbrev TGsD := List D → Rho → (Rho → Prop) → Prop
def gNm (j : Nat) : TGD := fun d ρ k => k (ρ.set j (.d d))
def gEnd : TGsD := fun ds ρ k => ds = [] ∧ k ρ
def gMore (g : TGD) (r : TGsD) : TGsD := fun ds ρ k => ∃ d es, ds = d :: es ∧ g d ρ fun ρ' => r es ρ' k
def gTu (m : Nat) (r : TGsD) : TGD := fun d ρ k => ∃ ds, d = .tup ds ∧ ds.length = m ∧ r ds ρ k
def liftG (W : Wd) (g : TGD) : TG := fun v σ H Q => ∃ (ρ : Rho) (n : Nat) (d : D) (κ : Rho → Prop), EnvOk W ρ n σ H ∧ Rp W.K W.p (Mu W ρ σ) H v d ∧ g d ρ κ ∧ ∀ ρ' σ', κ ρ' → EnvOk W ρ' n σ' H → Rl W ρ σ H ρ' σ' H → Q σ' H
def liftGs (W : Wd) (g : TGsD) : TGs := fun vs σ H Q => ∃ (ρ : Rho) (n : Nat) (ds : List D) (κ : Rho → Prop), EnvOk W ρ n σ H ∧ RpL W.K W.p (Mu W ρ σ) H vs ds ∧ g ds ρ κ ∧ ∀ ρ' σ', κ ρ' → EnvOk W ρ' n σ' H → Rl W ρ σ H ρ' σ' H → Q σ' H
section
variable {X : Cx} {W : Wd} {E : XK}
theorem pg_imp {e : Expr} {t t' : TG} (h : PG X e t) (k : ∀ v σ H Q, t' v σ H Q → t v σ H Q) : PG X e t' := ⟨fun pins s σ H v u Q I r q => h.run pins s σ H v u Q I r (k _ _ _ _ q)⟩
theorem pgs_imp {e : List Expr} {t t' : TGs} (h : PGs X e t) (k : ∀ v σ H Q, t' v σ H Q → t v σ H Q) : PGs X e t' := ⟨fun pins s σ H v u Q I r q => h.run pins s σ H v u Q I r (k _ _ _ _ q)⟩
theorem dg_name {i : Nat} {x : Str} {pos : Pos} (hN : X.N.Nodup) (hi : X.N[i]? = some x) (hx : Loc X.env.scope x) (hf : X.fn x = true ∨ X.env.scope.names.lookup x = some .local := by first | exact .inl rfl | exact .inr rfl | assumption) :
    PG X (.Name x pos) (liftG W (gNm i)) := pg_imp (pg_name hN hi hx hf) fun v σ H Q ⟨ρ, n, d, κ, e, r, t, k⟩ => k _ _ t (e.set r) Rl.set
theorem dgs_nil : PGs X [] (liftGs W gEnd) := pgs_imp pgs_nil fun v σ H Q ⟨ρ, n, d, κ, e, r, ⟨t1, t2⟩, k⟩ => by
  subst t1
  cases r
  exact ⟨rfl, k _ _ t2 e Rl.refl⟩
theorem dgs_cons {e : Expr} {es : List Expr} {t : TGD} {u : TGsD} (h1 : PG X e (liftG W t)) (h2 : PGs X es (liftGs W u)) (hs : (assignEach (e :: es) X.env).map (·.2) = assign e X.env :: (assignEach es X.env).map (·.2) := by rfl) : PGs X (e :: es) (liftGs W (gMore t u)) := pgs_imp (pgs_cons h1 h2 hs) fun v σ H Q ⟨ρ, n, ds, κ, e, r, ⟨d, es, q1, q2⟩, k⟩ => by
  subst q1
  cases r with
  | cons ra rb => exact ⟨_, _, rfl, ρ, n, d, _, e, ra, q2, fun ρ' σ' h e' q => ⟨ρ', n, es, κ, e', (rb.gen q.em q.mu), h, fun ρ2 σ2 h2 e2 q2 => k ρ2 σ2 h2 e2 (q.trans q2)⟩⟩
theorem dg_tup (hK : X.K = W.K) {es : List Expr} {m : Nat} {pos : Pos} {t : TGsD} {j : Nat} (hc : X.calm = true) (h : PGs X es (liftGs W t)) (hn : (assignEach es X.env).length = m := by rfl) (hst : (assignEach es X.env).findIdx? (·.1) = none := by rfl) : PG X (.Tuple es j pos) (liftG W (gTu m t)) := by
  refine pg_imp (pg_tup (n := m) hc h hn hst) fun v σ H Q ⟨ρ, n, d, κ, e, r, ⟨ds, q1, q2, q3⟩, k⟩ => ?_
  subst q1
  cases r with
  | tup nm h r => exact ⟨_, _, rfl, hK ▸ SqT.of h, r.length.trans q2, ρ, n, ds, κ, e, r, q3, k⟩
  | tupS h r => exact ⟨_, _, rfl, hK ▸ h _, r.length.trans q2, ρ, n, ds, κ, e, r, q3, k⟩
def sAsg (a : TD) (g : TGD) : TSD := fun En ρ n => a ρ n (fun x n1 => g x ρ fun ρ' => En.nx ρ' n1) En.ex
theorem ds_asg {tg e : Expr} {pos : Pos} {ta : TD} {g : TGD} (he : PE X e (lift W E ta)) (hg : PG X tg (liftG W g)) (hs : swapsWithSole [tg] e pos.line X.env = pure false := by rfl) (hw : swappedStores [tg] e X.env = pure none := by rfl) (h1 : (assignEach [tg] X.env).map (·.2) = [assign tg X.env] := by rfl) :
    PS X (.Assign [tg] e pos) (liftS W E (sAsg ta g)) := ps_imp (ps_asg he hg hs hw h1) fun D σ H ⟨ρ, n, En, e, t, k⟩ =>
  ⟨ρ, n, _, _, e, t, fun v H' d n' h e' q r => ⟨ρ, n', d, _, e', r, h, fun ρ' σ' h' e2 q2 => k.nx σ' H' ρ' n' h' e2 ((Rl.eb q e.mp).trans q2)⟩, k.ex⟩
/-- a, b = e, f -/
def sPar (i j : Nat) (a : TAD) : TSD := fun En ρ n => a ρ n (fun xs n1 => ∃ x y, xs = [x, y] ∧ En.nx ((ρ.set i (.d x)).set j (.d y)) n1) En.ex
theorem ds_par {i j : Nat} {x y : Str} {a b : Expr} {ta : TAD} {px py pt : Pos} {kt k2 : Nat} {pt2 pos : Pos} (h : PS X (.Assign [.Tuple [.Name x px, .Name y py] kt pt] (.Tuple [a, b] k2 pt2) pos) (tPar i j (liftA W E ta))) :
    PS X (.Assign [.Tuple [.Name x px, .Name y py] kt pt] (.Tuple [a, b] k2 pt2) pos) (liftS W E (sPar i j ta)) := ps_imp h fun D σ H ⟨ρ, n, En, e, t, k⟩ =>
  ⟨ρ, n, _, _, e, t, fun vs H' ds n' h e' q r => by
    obtain ⟨x, y, rfl, h⟩ := h
    cases r with
    | @cons v1 _ _ _ r1 r2 => cases r2 with
      | @cons v2 _ _ _ r2 r3 =>
        cases r3
        have a1 := e'.set (i := i) r1
        have l1 : Rl W ρ σ H' (ρ.set i (Sl.d x)) (σ.set i (some v1)) H' := Rl.set
        have l2 : Rl W (ρ.set i (Sl.d x)) (σ.set i (some v1)) H' ((ρ.set i (Sl.d x)).set j (Sl.d y)) ((σ.set i (some v1)).set j (some v2)) H' := Rl.set
        exact ⟨_, _, rfl, k.nx _ H' _ n' h (a1.set (l1.rp r2)) (((Rl.eb q e.mp).trans l1).trans l2)⟩, k.ex⟩
/-! ### walks -/
abbrev TID := TAD
/-- an iterator of these data -/
def ItOk (W : Wd) (M : Addr → Prop) (J : It) (H : Hp) (ds : List D) : Prop := ∀ (i : Nat) (H2 : Hp), EM M H H2 →
  (i < ds.length → J.go i H2 ∧ ∀ x H3, J.yld i H2 x H3 → Same H2 H3 ∧ ∃ d, ds[i]? = some d ∧ Rp W.K W.p M H x d) ∧ (ds.length ≤ i → J.stop i H2)
def liftI (W : Wd) (E : XK) (τ : TID) : TI := fun σ H R => ∃ (ρ : Rho) (n : Nat) (Φ : List D → Nat → Prop) (Ψ : XD), EnvOk W ρ n σ H ∧ τ ρ n Φ Ψ ∧
  (∀ J H' ds n', Φ ds n' → EnvOk W ρ n' σ H' → EB W.p H H' → ItOk W (Mu W ρ σ) J H' ds → R J H') ∧ ExW W E Ψ
theorem pi_imp {tg e : Expr} {t t' : TI} (h : PI X tg e t) (k : ∀ σ H Q, t' σ H Q → t σ H Q) : PI X tg e t' := ⟨fun pins s σ H Q I q => h.run pins s σ H Q I (k _ _ _ q)⟩
theorem pi_or {tg e : Expr} {t u : TI} (h : PI X tg e t) (h' : PI X tg e u) : PI X tg e (fun σ H Q => t σ H Q ∨ u σ H Q) := ⟨fun pins s σ H Q I q => q.elim (h.run pins s σ H Q I) (h'.run pins s σ H Q I)⟩
theorem pe_or' {e : Expr} {t u : TE} (h : PE X e t) (h' : PE X e u) : PE X e (fun σ H Q => t σ H Q ∨ u σ H Q) := ⟨fun pins s σ H Q I q => q.elim (h.run pins s σ H Q I) (h'.run pins s σ H Q I)⟩
theorem get_lt {α : Type} {l : List α} {i : Nat} (h : i < l.length) : ∃ x, l[i]? = some x := ⟨l[i], List.getElem?_eq_getElem h⟩
theorem it_lst {M : Addr → Prop} {a : Addr} {vs : List V} {ds : List D} {H : Hp} (hK : X.K = W.K) (n : ¬ M a) (h : H a = some (.lst vs)) (r : RpL W.K W.p M H vs ds) : ItOk W M (Itl X.K a) H ds := fun i H2 em => by
  have h2 : H2 a = some (.lst vs) := em _ _ n h (by intro ps z; cases z)
  refine ⟨fun hi => ?_, fun hi => ⟨vs, SqL.of h2, by rw [r.length]; exact hi⟩⟩
  obtain ⟨d, hd⟩ := get_lt hi
  obtain ⟨v, hv, rv⟩ := r.get hd
  exact ⟨⟨vs, v, SqL.of h2, hv⟩, fun x H3 ⟨e, q⟩ => by
    subst e
    have := q vs (SqL.of h2)
    rw [hv] at this
    cases this
    exact ⟨fun _ _ z => z, d, hd, rv⟩⟩
theorem it_tup {M : Addr → Prop} {a : Addr} {vs : List V} {ds : List D} {H : Hp} (hK : X.K = W.K) (h : ∀ H2, EM M H H2 → SqT X.K H2 a vs) (r : RpL W.K W.p M H vs ds) : ItOk W M (Itt X.K a) H ds := fun i H2 em => by
  have h2 := h H2 em
  refine ⟨fun hi => ?_, fun hi => ⟨vs, h2, by rw [r.length]; exact hi⟩⟩
  obtain ⟨d, hd⟩ := get_lt hi
  obtain ⟨v, hv, rv⟩ := r.get hd
  exact ⟨⟨vs, v, h2, hv⟩, fun x H3 ⟨e, q⟩ => by
    subst e
    have := q vs h2
    rw [hv] at this
    cases this
    exact ⟨fun _ _ z => z, d, hd, rv⟩⟩
/-- over a list, a tuple, a text -/
def iAny (K : PySem.W.Frag) (tl : TE) : TI := fun σ H R => tl σ H fun x H1 => (∃ a, x = .ref a ∧ (∃ xs, SqL K H1 a xs) ∧ R (Itl K a) H1) ∨ (∃ a, x = .ref a ∧ (∃ xs, SqT K H1 a xs) ∧ R (Itt K a) H1) ∨ ∃ z, x = .str z ∧ R (Its z) H1
theorem pi_any {tg l : Expr} {tl : TE} (hl : PE X l tl) : PI X tg l (iAny X.K tl) := by
  refine ⟨fun pins s σ H R I h => ?_⟩
  refine thn (hl.run pins s σ H _ I h) fun v s1 ⟨x, H1, I1, r1, q1⟩ => ?_
  rcases q1 with ⟨a, e, ⟨xs, hq⟩, q⟩ | ⟨a, e, ⟨xs, hq⟩, q⟩ | ⟨z, e, q⟩
  · subst e
    cases r1
    obtain ⟨its, rv, p, hz⟩ := I1.list hq
    refine wpAny_pyIter_list p.isList ?_
    refine ⟨s1.heap.objs.size, [s1.heap.objs.size], _, _, H1, rfl, I1.kept (t' := s1.toks) fun b o e => Heap.get?_push_of_some _ e, turn_list a _, ⟨_, Heap.get?_push_size _ rfl, rfl, rfl⟩, fun b hb => ?_, q⟩
    have e : b = s1.heap.objs.size := by simpa using hb
    subst e
    exact I1.fpOk (Nat.le_refl _) (I1.hok.fresh (Nat.le_refl _))
  · subst e
    cases r1
    obtain ⟨its, rv, p, hz⟩ := I1.tuple hq
    refine wpAny_pyIter_tuple (show s1.heap.IsTuple a its.toArray from p) ?_
    refine ⟨s1.heap.objs.size, [s1.heap.objs.size], _, _, H1, rfl, I1.kept (t' := s1.toks) fun b o e => Heap.get?_push_of_some _ e, turn_tuple a _, ⟨_, Heap.get?_push_size _ rfl, rfl, rfl⟩, fun b hb => ?_, q⟩
    have e : b = s1.heap.objs.size := by simpa using hb
    subst e
    exact I1.fpOk (Nat.le_refl _) (I1.hok.fresh (Nat.le_refl _))
  · subst e
    obtain ⟨t, rfl⟩ := r1
    cases ha : z.cps.all (· < 128)
    · exact wpAny_pyIter_wide ha (pi_one (tk := s1.toks) I1 _ (turn_str _ z t "str_iterator" (.inr rfl)) ⟨_, Heap.get?_push_size _ rfl, rfl, rfl⟩ q)
    · exact wpAny_pyIter_ascii ha (pi_one (tk := s1.toks) I1 _ (turn_str _ z t "str_ascii_iterator" (.inl rfl)) ⟨_, Heap.get?_push_size _ rfl, rfl, rfl⟩ q)
/-- the data that a walk over this yields -/
def walkD : D → (List D → Prop) → Prop
  | .lst ds, k => k ds
  | .tup ds, k => k ds
  | .str z, k => k (z.cps.toList.map fun c => .str ⟨#[c]⟩)
  | _, _ => False
def iSeq (a : TD) : TID := fun ρ n Φ Ψ => a ρ n (fun x n1 => walkD x fun ds => Φ ds n1) Ψ
theorem it_str {M : Addr → Prop} {H : Hp} (z : Str) : ItOk W M (Its z) H (z.cps.toList.map fun c => .str ⟨#[c]⟩) := fun i H2 em => by
  have hl : (z.cps.toList.map fun c => D.str ⟨#[c]⟩).length = z.cps.size := by rw [List.length_map, Array.length_toList]
  rw [hl]
  refine ⟨fun hi => ⟨hi, fun x H3 ⟨e, c, hc, hx⟩ => ?_⟩, fun hi => hi⟩
  subst e
  subst hx
  refine ⟨fun _ _ q => q, .str ⟨#[c]⟩, ?_, .str _⟩
  rw [List.getElem?_map, Array.getElem?_toList, hc]
  rfl
theorem di_seq (hK : X.K = W.K) {tg e : Expr} {ta : TD} (ha : PE X e (lift W E ta)) : PI X tg e (liftI W E (iSeq ta)) := pi_imp (pi_any ha) fun σ H Q ⟨ρ, n, Φ, Ψ, e, t, k, x⟩ =>
  ⟨ρ, n, _, Ψ, e, t, fun v H1 d n1 h1 e1 k1 r1 => by
    cases r1 with
    | lst nm h r => exact .inl ⟨_, rfl, ⟨_, SqL.of h⟩, k _ H1 _ n1 h1 e1 k1 (it_lst hK nm h r)⟩
    | tup nm h r => exact .inr (.inl ⟨_, rfl, ⟨_, SqT.of h⟩, k _ H1 _ n1 h1 e1 k1 (it_tup hK (fun H2 em => SqT.of (em _ _ nm h (by intro ps z; cases z))) r)⟩)
    | tupS h r => exact .inr (.inl ⟨_, rfl, ⟨_, hK ▸ h H1⟩, k _ H1 _ n1 h1 e1 k1 (it_tup hK (fun H2 _ => hK ▸ h H2) r)⟩)
    | str z => exact .inr (.inr ⟨_, rfl, k _ H1 _ n1 h1 e1 k1 (it_str z)⟩)
    | _ => exact h1.elim, x⟩
def rngD (lo : Int) (n : Nat) : List D := (List.range n).map fun (i : Nat) => D.int (lo + (i : Int))
theorem it_rng {M : Addr → Prop} {H : Hp} (lo : Int) (n : Nat) : ItOk W M (Itr lo n) H (rngD lo n) := fun i H2 em => by
  have hl : (rngD lo n).length = n := by unfold rngD; rw [List.length_map, List.length_range]
  rw [hl]
  refine ⟨fun hi => ⟨hi, fun x H3 ⟨e, hx⟩ => ?_⟩, fun hi => hi⟩
  subst e
  subst hx
  refine ⟨fun _ _ q => q, .int (lo + i), ?_, .int _⟩
  unfold rngD
  rw [List.getElem?_map, List.getElem?_range hi]
  rfl
def iRg1 (a : TD) : TID := fun ρ n Φ Ψ => a ρ n (fun x n1 => ∃ j : Int, x = .int j ∧ -(2 ^ 62) ≤ j ∧ j < 2 ^ 62 ∧ Φ (rngD 0 j.toNat) n1) Ψ
def iRg2 (a b : TD) : TID := fun ρ n Φ Ψ => a ρ n (fun x n1 => b ρ n1 (fun y n2 => ∃ i j : Int, x = .int i ∧ y = .int j ∧ (-(2 ^ 62) ≤ i ∧ i < 2 ^ 62 ∧ -(2 ^ 62) ≤ j ∧ j < 2 ^ 62) ∧ Φ (rngD i (j - i).toNat) n2) Ψ) Ψ
theorem di_range1 {tg a : Expr} {ta : TD} {p pos : Pos} (hg : Gl X "range") (hm : X.mg "range" = none) (ha : PE X a (lift W E ta)) (hs : starEach [a] X.env = [(false, eval a X.env)] := by rfl) : PI X tg (.Call (.Name "range" p) [a] [] pos) (liftI W E (iRg1 ta)) :=
  pi_imp (pi_range1 hg hm (pa_cons ha pa_nil hs) hs) fun σ H Q ⟨ρ, n, Φ, Ψ, e, t, k, x⟩ => ⟨ρ, n, _, Ψ, e, t, fun v H1 d n1 h1 e1 k1 r1 => by
    obtain ⟨j, rfl, h2, h3, h4⟩ := h1
    cases r1
    exact ⟨j, rfl, h2, h3, k _ H1 _ n1 h4 e1 k1 (it_rng 0 _)⟩, x⟩
theorem di_range2 {tg a b : Expr} {ta tb : TD} {p pos : Pos} (hg : Gl X "range") (hm : X.mg "range" = none) (ha : PE X a (lift W E ta)) (hb : PE X b (lift W E tb)) (hs : starEach [a, b] X.env = [(false, eval a X.env), (false, eval b X.env)] := by rfl) (hs2 : starEach [b] X.env = [(false, eval b X.env)] := by rfl) (hs3 : starEach [a, b] X.env = (false, eval a X.env) :: starEach [b] X.env := by rfl) :
    PI X tg (.Call (.Name "range" p) [a, b] [] pos) (liftI W E (iRg2 ta tb)) :=
  pi_imp (pi_range2 hg hm (pa_cons ha (pa_cons hb pa_nil hs2) hs3) hs hs2) fun σ H Q ⟨ρ, n, Φ, Ψ, e, t, k, x⟩ => ⟨ρ, n, _, Ψ, e, t, fun v H1 d n1 h1 e1 k1 r1 => ⟨ρ, n1, _, Ψ, e1, h1, fun u H2 c n2 h2 e2 k2 r2 => by
    obtain ⟨i, j, rfl, rfl, h3, h4⟩ := h2
    cases r1
    cases r2
    exact ⟨i, j, rfl, h3, k _ H2 _ n2 h4 e2 (k1.trans k2) (it_rng i _)⟩, x⟩, x⟩
/-! ### for -/
def loopD (g : TGD) (b : TSD) (En : EnD) : List D → Rho → Nat → Prop
  | [], ρ, n => En.nx ρ n
  | d :: ds, ρ, n => g d ρ fun ρ' => b { En with nx := fun ρ2 n2 => loopD g b En ds ρ2 n2, ct := fun ρ2 n2 => loopD g b En ds ρ2 n2, bk := En.nx } ρ' n
def sFor (i : TID) (g : TGD) (b : TSD) : TSD := fun En ρ n => i ρ n (fun ds n1 => loopD g b En ds ρ n1) En.ex
theorem ds_for {tg iter : Expr} {body : List Stmt} {ti : TID} {g : TGD} {tb : TSD} {pos : Pos} (hp : PassesOwn (model X.prog X.w) X.A X.env X.xe) (hc : X.calm = true) (hi : PI X tg iter (liftI W E ti)) (hg : PG X tg (liftG W g)) (hb : PSs X body (liftS W E tb))
    (hs : ∀ x, foldedSetIterable iter X.env x = pure x := by intro _; rfl) : PS X (.For tg iter body [] pos) (liftS W E (sFor ti g tb)) := ps_imp (ps_for hp hc hi hg hb hs) fun D σ H ⟨ρ, n, En, e, t, k⟩ =>
  ⟨ρ, n, _, _, e, t, fun J H1 ds n1 h1 e1 k1 it => by
    have r1 : Rl W ρ σ H ρ σ H1 := Rl.eb k1 e.mp
    refine ⟨fun i m σ2 H2 => m = ds.length - i ∧ i ≤ ds.length ∧ ∃ ρ2 n2, EnvOk W ρ2 n2 σ2 H2 ∧ Rl W ρ σ H1 ρ2 σ2 H2 ∧ loopD g tb En (ds.drop i) ρ2 n2, ⟨ds.length, rfl, Nat.zero_le _, ρ, n1, e1, Rl.refl, h1⟩, ?_⟩
    rintro i m σ2 H2 ⟨rfl, hi, ρ2, n2, e2, r2, h2⟩
    obtain ⟨it1, it2⟩ := it i H2 r2.em
    by_cases hlt : i < ds.length
    · right
      obtain ⟨go, yl⟩ := it1 hlt
      refine ⟨go, fun σ' H' => i + 1 ≤ ds.length ∧ ∃ ρ2 n2, EnvOk W ρ2 n2 σ' H' ∧ Rl W ρ σ H1 ρ2 σ' H' ∧ loopD g tb En (ds.drop (i + 1)) ρ2 n2, fun σ' H' q => ⟨ds.length - (i + 1), by omega, rfl, q⟩, fun x H' y => ?_⟩
      obtain ⟨s3, d, hd, rd⟩ := yl x H' y
      have e3 := e2.same s3
      have r3 : Rl W ρ σ H1 ρ2 σ2 H' := r2.trans (Rl.same (EM.same s3))
      have hdr : ds.drop i = d :: ds.drop (i + 1) := by
        have := List.getElem?_eq_some_iff.mp hd
        rw [List.drop_eq_getElem_cons hlt, this.2]
      rw [hdr] at h2
      have rd2 : Rp W.K W.p (Mu W ρ2 σ2) H' x d := rd.gen r3.em r3.mu
      refine ⟨ρ2, n2, d, _, e3, rd2, h2, fun ρ4 σ4 h4 e4 r4 => ⟨ρ4, n2, _, e4, h4, ?_⟩⟩
      have r34 := r3.trans r4
      exact ⟨fun σ' H'' ρ' n' h e' q => ⟨by omega, ρ', n', e', r34.trans q, h⟩, fun σ' H'' ρ' n' h e' q => k.nx σ' H'' ρ' n' h e' (r1.trans (r34.trans q)), fun σ' H'' ρ' n' h e' q => ⟨by omega, ρ', n', e', r34.trans q, h⟩, k.rt, k.ex⟩
    · left
      refine ⟨it2 (by omega), ?_⟩
      rw [List.drop_eq_nil_of_le (by omega)] at h2
      exact k.nx _ _ _ _ h2 e2 (r1.trans r2), k.ex⟩
end
/-! ### comprehensions -/
/-- no error leaves -/
abbrev EF : XK := fun _ _ _ => False
theorem passF {P : Program} {w : World} {X : Cx} : Passes (L2.CX P w) X EF := fun _ _ _ _ _ _ _ ⟨_, _, _, _, _, _, _, _, _, _, _, _, z⟩ => z.elim
theorem exF {W : Wd} : ExW W EF (fun _ _ => False) := fun _ _ _ _ _ h => h.elim
def hideS : Sl → Sl
  | .own _ => .un
  | s => s
/-- what a comprehension's block sees -/
def hideR (ρ : Rho) (j : Nat) : Rho := (ρ.map hideS).set j .un
def compD (g : TGD) (tt : TTD) (te : TD) (ρ : Rho) (Φ : List D → Nat → Prop) : List D → List D → Nat → Prop
  | [], acc, n => Φ acc n
  | d :: ds, acc, n => g d ρ fun ρ' => tt ρ' n (fun b n1 => if b = true then te ρ' n1 (fun y n2 => acc.length < sizeLine ∧ compD g tt te ρ Φ ds (acc ++ [y]) n2) (fun _ _ => False) else compD g tt te ρ Φ ds acc n1) (fun _ _ => False)
def dTrue : TTD := fun _ n Φ _ => Φ true n
def dLc (i : TID) (j : Nat) (tt : TTD) (te : TD) : TD := fun ρ n Φ Ψ => i ρ n (fun ds n1 => compD (gNm j) tt te (hideR ρ j) (fun ys n2 => Φ (.lst ys) n2) ds [] n1) Ψ
def Wd.in (W : Wd) (M : Addr → Prop) (D : Addr) (H : Hp) : Wd := ⟨W.K, W.p, W.q, W.ts, fun b => M b ∨ b = D, fun b => b = W.p ∨ b = D, H⟩
theorem hide_get {ρ : Rho} {j i : Nat} {x : D} (h : (hideR ρ j)[i]? = some (Sl.d x)) : i ≠ j ∧ ρ[i]? = some (Sl.d x) := by
  unfold hideR at h
  rcases set_get h with ⟨_, z⟩ | ⟨ne, z⟩
  · cases z
  · refine ⟨ne, ?_⟩
    rw [List.getElem?_map] at z
    cases e : ρ[i]? with
    | none => rw [e] at z; cases z
    | some s =>
      rw [e] at z
      cases s with
      | un => cases z
      | own o => cases z
      | d y => exact z
theorem hide_own {ρ : Rho} {j i : Nat} {o : Ow} (h : (hideR ρ j)[i]? = some (Sl.own o)) : False := by
  unfold hideR at h
  rcases set_get h with ⟨_, z⟩ | ⟨ne, z⟩
  · cases z
  · rw [List.getElem?_map] at z
    cases e : ρ[i]? with
    | none => rw [e] at z; cases z
    | some s =>
      rw [e] at z
      cases s <;> cases z
section
variable {X : Cx} {W : Wd} {E : XK}
theorem inner_ok {ρ : Rho} {n j : Nat} {σ : L2.St} {H : Hp} {D : Addr} {o : HO} (e : EnvOk W ρ n σ H) (f : H D = none) (nt : ∀ ps, o ≠ .tbl ps) : EnvOk (W.in (Mu W ρ σ) D (upd H D o)) (hideR ρ j) n (wipe σ [j]) (upd H D o) := by
  have s := new_same f o
  have e' := e.same s
  have al : Al (fun b => Mu W ρ σ b ∨ b = D) (upd H D o) := fun b m => by
    rcases m with m | m
    · exact e'.al b m
    · exact ⟨o, m ▸ upd_same, nt⟩
  refine ⟨fun i x h => ?_, fun i o h => (hide_own h).elim, fun i _ o _ _ h => (hide_own h).elim, e'.pen, e'.tab, EM.refl _ _, .inl rfl, fun b z => ?_, .inl (.inl e.mq), al, al, ?_⟩
  · obtain ⟨ne, h⟩ := hide_get h
    obtain ⟨v, h1, h2⟩ := e.sl i x h
    refine ⟨v, ?_, (h2.more f).gen (EM.same s) fun b m => .inl ?_⟩
    · show ((wipe σ []).set j none)[i]? = _
      rw [List.getElem?_set, if_neg (fun z => ne z.symm)]
      exact h1
    · rcases m with m | ⟨k, o, q, _⟩
      · exact m
      · exact (hide_own q).elim
  · rcases z with z | z
    · exact .inl (z ▸ e.mup)
    · exact .inr z
  · unfold hideR
    rw [List.length_set, List.length_map, wipe_length]
    exact e.len
/-- the list that grows -/
theorem poke_ok {W : Wd} {ρ : Rho} {n : Nat} {σ : L2.St} {H : Hp} {D : Addr} {xs ys : List V} (e : EnvOk W ρ n σ H) (hD : W.M D) (hC : W.C D) (hp : D ≠ W.p) (hq : D ≠ W.q) (h : H D = some (.lst xs)) (no : ∀ (i : Nat) (o : Ow), ρ[i]? = some (Sl.own o) → False) :
    EnvOk W ρ n σ (upd H D (.lst ys)) := by
  have em : EM (Mu W ρ σ) H (upd H D (.lst ys)) := EM.upd (.inl hD)
  refine ⟨fun i x z => ?_, fun i o z => (no i o z).elim, fun i _ o _ _ z => (no i o z).elim, ?_, ?_, e.base.trans (EM.upd hC), e.cp, e.cm, e.mq, e.mal, ?_, e.len⟩
  · obtain ⟨v, h1, h2⟩ := e.sl i x z
    exact ⟨v, h1, h2.em em⟩
  · obtain ⟨ns, x, r, p1, p2, p3, p4⟩ := e.pen
    exact ⟨ns, x, r, by rw [upd_ne (fun z => hp z.symm)]; exact p1, p2, by rw [upd_ne (fun z => hq z.symm)]; exact p3, p4⟩
  · intro pq hpq
    exact tab_lst (e.tab pq hpq) h
  · intro b mb
    by_cases z : b = D
    · subst z
      exact ⟨_, upd_same, by intro ps z; cases z⟩
    · obtain ⟨o, q1, q2⟩ := e.mlv b mb
      exact ⟨o, by rw [upd_ne z]; exact q1, q2⟩
theorem dts_nil : PTs X [] (liftT W E dTrue) := by
  have h : PTs X [] tYes := pts_nil
  exact ⟨fun pins s σ H Q I ⟨ρ, n, Φ, Ψ, e, t, k, x⟩ => h.run pins s σ H Q I (k true H n t e (EB.refl _ _))⟩
theorem dts_one {c : Expr} {t : TTD} (h : PT X c (liftT W E t)) : PTs X [c] (liftT W E t) := pts_one h
/-- the reading of a comprehension: it stands under one name, its own frame's -/
theorem lc_read (hK : X.K = W.K) {ti : TID} {j : Nat} {tt : TTD} {te : TD} {σ : L2.St} {H : Hp} {Q : VK} {wt : TT} {we : TE}
    (ht : ∀ W' : Wd, W'.K = W.K → W'.ts = W.ts → ∀ σ H Q, liftT W' EF tt σ H Q → wt σ H Q) (he : ∀ W' : Wd, W'.K = W.K → W'.ts = W.ts → ∀ σ H Q, lift W' EF te σ H Q → we σ H Q)
    (h : lift W E (dLc ti j tt te) σ H Q) : tLc (liftI W E ti) (gName j) wt we [j] σ H Q := by
  obtain ⟨ρ, n, Φ, Ψ, e, t, k, x⟩ := h
  refine ⟨ρ, n, _, Ψ, e, t, fun J H1 ds n1 h1 e1 k1 it => ?_, x⟩
  intro D nD
  have nM : ¬ Mu W ρ σ D := e1.al.fresh nD
  have sD := new_same nD (.lst [])
  obtain ⟨W', hW'⟩ : ∃ W' : Wd, W' = W.in (Mu W ρ σ) D (upd H1 D (.lst [])) := ⟨_, rfl⟩
  have eW : EnvOk W' (hideR ρ j) n1 (wipe σ [j]) (upd H1 D (.lst [])) := hW' ▸ inner_ok e1 nD (by intro ps z; cases z)
  have wK : W'.K = W.K := by rw [hW']; rfl
  have wp : W'.p = W.p := by rw [hW']; rfl
  have wq : W'.q = W.q := by rw [hW']; rfl
  have wt' : W'.ts = W.ts := by rw [hW']; rfl
  have wM : ∀ b, W'.M b ↔ (Mu W ρ σ b ∨ b = D) := fun b => by rw [hW']; exact Iff.rfl
  have mD : W'.M D := (wM D).mpr (.inr rfl)
  have cD : W'.C D := by rw [hW']; exact .inr rfl
  have muI : ∀ {ρ' : Rho} {σ' : L2.St} {b : Addr}, (∀ (i : Nat) (o : Ow), ρ'[i]? = some (Sl.own o) → False) → (Mu W' ρ' σ' b ↔ W'.M b) := fun {ρ' σ' b} no => ⟨fun m => m.elim id fun ⟨i, o, q, _⟩ => (no i o q).elim, .inl⟩
  have no0 : ∀ (i : Nat) (o : Ow), (hideR ρ j)[i]? = some (Sl.own o) → False := fun i o q => hide_own q
  have no1 : ∀ (d : DL.D) (i : Nat) (o : Ow), ((hideR ρ j).set j (Sl.d d))[i]? = some (Sl.own o) → False := fun d i o q => by
    rcases set_get q with ⟨_, z⟩ | ⟨_, z⟩
    · cases z
    · exact hide_own z
  have pD : D ≠ W.p := fun z => nM (z ▸ e.mup)
  have qD : D ≠ W.q := fun z => nM (z ▸ .inl e.mq)
  refine ⟨fun i m H2 => m = ds.length - i ∧ i ≤ ds.length ∧ ∃ n2 acc vs, EnvOk W' (hideR ρ j) n2 (wipe σ [j]) H2 ∧ H2 D = some (.lst vs) ∧ RpL W.K W.p W'.M H2 vs acc ∧ EM (fun b => b = W.p ∨ b = D) (upd H1 D (.lst [])) H2 ∧ compD (gNm j) tt te (hideR ρ j) (fun ys n2 => Φ (.lst ys) n2) (ds.drop i) acc n2,
    ⟨ds.length, rfl, Nat.zero_le _, n1, [], [], eW, upd_same, .nil, EM.refl _ _, h1⟩, ?_⟩
  rintro i m H2 ⟨rfl, hi, n2, acc, vs, e2, hD, racc, em2, h2⟩
  have em12 : EM (Mu W ρ σ) H1 H2 := fun b o nb hb tb => by
    have nbD : b ≠ D := fun z => by rw [z, nD] at hb; cases hb
    exact em2 b o (fun z => z.elim (fun z => nb (z ▸ e.mup)) nbD) (sD _ _ hb) tb
  obtain ⟨it1, it2⟩ := it i H2 em12
  by_cases hlt : i < ds.length
  · right
    obtain ⟨go, yl⟩ := it1 hlt
    refine ⟨go, fun H' => i + 1 ≤ ds.length ∧ ∃ n2 acc vs, EnvOk W' (hideR ρ j) n2 (wipe σ [j]) H' ∧ H' D = some (.lst vs) ∧ RpL W.K W.p W'.M H' vs acc ∧ EM (fun b => b = W.p ∨ b = D) (upd H1 D (.lst [])) H' ∧ compD (gNm j) tt te (hideR ρ j) (fun ys n2 => Φ (.lst ys) n2) (ds.drop (i + 1)) acc n2,
      fun H' q => ⟨ds.length - (i + 1), by omega, rfl, q⟩, fun x H' y => ?_⟩
    obtain ⟨s3, d, hd, rd⟩ := yl x H' y
    have hdr : ds.drop i = d :: ds.drop (i + 1) := by
      have := List.getElem?_eq_some_iff.mp hd
      rw [List.drop_eq_getElem_cons hlt, this.2]
    rw [hdr] at h2
    have e3 := e2.same s3
    have rd2 : Rp W.K W.p W'.M H' x d := (rd.more nD).gen (M := fun b => Mu W ρ σ b ∨ b = D) (fun b o nb hb tb => s3 _ _ (em12 b o (fun z => nb (.inl z)) hb tb)) fun b mb => .inl ((wM b).mp mb)
    have e4 : EnvOk W' ((hideR ρ j).set j (Sl.d d)) n2 ((wipe σ [j]).set j (some x)) H' := e3.set (by rw [wK, wp]; exact rd2.less fun b mb => (muI no0).mp mb)
    have hw : wipe ((wipe σ [j]).set j (some x)) [j] = wipe σ [j] := by
      show (((σ.set j none).set j (some x)).set j none) = σ.set j none
      rw [List.set_set, List.set_set]
    refine ⟨hw, ht W' wK wt' _ _ _ ⟨(hideR ρ j).set j (Sl.d d), n2, _, fun _ _ => False, e4, h2, fun b H5 n5 h5 e5 k5 => ?_, exF⟩⟩
    have back : ∀ {n : Nat} {H : Hp}, EnvOk W' ((hideR ρ j).set j (Sl.d d)) n ((wipe σ [j]).set j (some x)) H → EnvOk W' (hideR ρ j) n (wipe σ [j]) H := fun {n H} q =>
      ⟨fun i x h => by
        obtain ⟨ne, _⟩ := hide_get h
        obtain ⟨v, q1, q2⟩ := q.sl i x (by rw [List.getElem?_set, if_neg (fun z => ne z.symm)]; exact h)
        rw [List.getElem?_set, if_neg (fun z => ne z.symm)] at q1
        exact ⟨v, q1, q2.less fun b mb => (muI (no1 d)).mpr ((muI no0).mp mb)⟩, fun i o h => (no0 i o h).elim, fun i _ o _ _ h => (no0 i o h).elim, q.pen, q.tab, q.base, q.cp, q.cm, q.mq, q.mal, q.mlv, by
        have := q.len
        rw [List.length_set, List.length_set] at this
        exact this⟩
    have em5 : EM (fun b => b = W.p ∨ b = D) (upd H1 D (.lst [])) H5 := em2.trans ((EM.same s3).trans (EM.eb (by rw [wp] at k5; exact k5) (.inl rfl)))
    have hD5 : H5 D = some (.lst vs) := k5 D _ (by rw [wp]; exact pD) (s3 _ _ hD) (by intro ps z; cases z)
    have ra5 : RpL W.K W.p W'.M H5 vs acc := (racc.em (EM.same s3)).em (EM.eb k5 (e4.mp))
    cases b with
    | true =>
      have h5 : te ((hideR ρ j).set j (Sl.d d)) n5 (fun y n2 => acc.length < sizeLine ∧ compD (gNm j) tt te (hideR ρ j) (fun ys n2 => Φ (.lst ys) n2) (ds.drop (i + 1)) (acc ++ [y]) n2) (fun _ _ => False) := h5
      show we _ H5 _
      refine he W' wK wt' _ _ _ ⟨(hideR ρ j).set j (Sl.d d), n5, _, fun _ _ => False, e5, h5, fun v H6 y n6 h6 e6 k6 r6 => ?_, exF⟩
      have hD6 : H6 D = some (.lst vs) := k6 D _ (by rw [wp]; exact pD) hD5 (by intro ps z; cases z)
      have ra6 : RpL W.K W.p W'.M H6 vs acc := ra5.em (EM.eb k6 e5.mp)
      have rv6 : Rp W.K W.p W'.M H6 v y := by
        rw [wK, wp] at r6
        exact r6.less fun b mb => (muI (no1 d)).mpr mb
      refine ⟨vs, hD6, by rw [ra6.length]; exact h6.1, by omega, n6, acc ++ [y], vs ++ [v], poke_ok (back e6) mD cD (by rw [wp]; exact pD) (by rw [wq]; exact qD) hD6 no0, upd_same, (ra6.snoc rv6).em (EM.upd mD), ?_, h6.2⟩
      exact em5.trans ((EM.eb (by rw [wp] at k6; exact k6) (.inl rfl)).trans (EM.upd (.inr rfl)))
    | false => exact ⟨by omega, n5, acc, vs, back e5, hD5, ra5, em5, h5⟩
  · left
    refine ⟨it2 (by omega), ?_⟩
    rw [List.drop_eq_nil_of_le (by omega)] at h2
    have eb1 : EB W.p H1 H2 := fun b o nb hb tb => by
      have nbD : b ≠ D := fun z => by rw [z, nD] at hb; cases hb
      exact em2 b o (fun z => z.elim nb nbD) (sD _ _ hb) tb
    have pen2 : PenAt H2 W.p W.q n2 := by
      have := e2.pen
      rw [wp, wq] at this
      exact this
    have tab2 : Tabs W.ts H2 := by
      have := e2.tab
      rw [wt'] at this
      exact this
    refine k _ H2 _ n2 h2 (e1.step eb1 pen2 tab2) (k1.trans eb1) (.lst nM hD (racc.less fun b mb => (wM b).mpr (.inl mb)))
theorem dx_lc (hK : X.K = W.K) {elt iter : Expr} {ifs : List Expr} {scope : Scope} {x : Str} {px : Pos} {j : Nat} {pos : Pos} {ti : TID} {tt : TTD} {te : TD} (hc : X.calm = true) (hN : X.N.Nodup) (hi : PI X (.Name x px) iter (liftI W E ti)) (ok : BlkOk X.N X.env.scope scope [(x, j)])
    (hg : ∀ (s : Shared) (H : Hp) (C : Addr) (cl : List (Str × Addr)) (fp : List Addr), PG (X.blk s H scope (compEnvC scope cl C X.env) fp) (.Name x px) (gName j))
    (ht : ∀ (W' : Wd), W'.K = W.K → W'.ts = W.ts → ∀ (s : Shared) (H : Hp) (C : Addr) (cl : List (Str × Addr)) (fp : List Addr), PTs (X.blk s H scope (compEnvC scope cl C X.env) fp) ifs (liftT W' EF tt))
    (he : ∀ (W' : Wd), W'.K = W.K → W'.ts = W.ts → ∀ (s : Shared) (H : Hp) (C : Addr) (cl : List (Str × Addr)) (fp : List Addr), PE (X.blk s H scope (compEnvC scope cl C X.env) fp) elt (lift W' EF te))
    (hs : ∀ x, foldedSetIterable iter X.env x = pure x := by intro _; rfl) :
    PE X (.ListComp elt [⟨.Name x px, iter, ifs, 0⟩] scope pos) (lift W E (dLc ti j tt te)) := by
  refine pe_imp (pe_lc (own := [(x, j)]) (g := gName j) (tt := fun σ H Q => ∃ W' : Wd, W'.K = W.K ∧ W'.ts = W.ts ∧ liftT W' EF tt σ H Q) (te := fun σ H Q => ∃ W' : Wd, W'.K = W.K ∧ W'.ts = W.ts ∧ lift W' EF te σ H Q) hc hN hi ok hg ?_ ?_ hs) fun σ H Q h => ?_
  · intro s H C cl fp
    exact ⟨fun pins s' σ H' Q I ⟨W', h1, h2, h3⟩ => (ht W' h1 h2 s H C cl fp).run pins s' σ H' Q I h3⟩
  · intro s H C cl fp
    exact ⟨fun pins s' σ H' Q I ⟨W', h1, h2, h3⟩ => (he W' h1 h2 s H C cl fp).run pins s' σ H' Q I h3⟩
  · exact lc_read hK (fun W' h1 h2 σ H Q h => ⟨W', h1, h2, h⟩) (fun W' h1 h2 σ H Q h => ⟨W', h1, h2, h⟩) h
end
end DL
namespace DL
open PySem PySem.Spec PyProof.Rows L2 Gx KX LamX
/-! ### methods, properties -/
structure MT (X : Cx) (K : PySem.W.Frag) (ts : List (Addr × Str)) (k : Nat) (m : Str) (tbl : List (Str × List Str × FD)) : Prop where
  ex : ∀ c ps φ, (c, ps, φ) ∈ tbl → Cls X.K (He.ga K c) ∧ ∃ f fd, Meth X.K (He.ga K c) m f ∧ FnOk X.prog X.w X.K X.mg X.base (L2.CX X.prog X.w) k f fd ps (spD K ts ps.length φ) ∧ Binds X.K fd ps []
structure PT' (X : Cx) (K : PySem.W.Frag) (ts : List (Addr × Str)) (k : Nat) (f : Str) (tbl : List (Str × FD)) : Prop where
  ex : ∀ c φ, (c, φ) ∈ tbl → Cls X.K (He.ga K c) ∧ ∃ p g fd, PropOf X.K (He.ga K c) f p g ∧ FnOk X.prog X.w X.K X.mg X.base (L2.CX X.prog X.w) k g fd ["self"] (spD K ts 1 φ) ∧ Binds X.K fd ["self"] []
def dMet (tbl : List (Str × List Str × FD)) (m : Str) (o : TD) (a : TAD) : TD := fun ρ n Φ Ψ => o ρ n (fun x n1 => ∃ c fs ps φ, x = .ob c fs ∧ (c, ps, φ) ∈ tbl ∧ fs.lookup m = none ∧ a ρ n1 (fun ds n2 => (x :: ds).length = ps.length ∧ φ (x :: ds) n2 Φ Ψ) Ψ) Ψ
def dProp (tbl : List (Str × FD)) (o : TD) : TD := fun ρ n Φ Ψ => o ρ n (fun x n1 => ∃ c fs φ, x = .ob c fs ∧ (c, φ) ∈ tbl ∧ φ [x] n1 Φ (fun _ _ => False)) Ψ
section
variable {X : Cx} {W : Wd} {E : XK}
theorem rp_ob {K : PySem.W.Frag} {p : Addr} {M : Addr → Prop} {H : Hp} {v : V} {c : Str} {fs : List (Str × D)} (r : Rp K p M H v (.ob c fs)) : ∃ a dx fv, v = .ref a ∧ H a = some (.ins (He.ga K c) dx fv) ∧ RpF K p M H fv fs := by
  cases r with
  | ob n h r => exact ⟨_, _, _, rfl, h, r⟩
theorem dx_meth {tbl : List (Str × List Str × FD)} {k : Nat} {m : Str} {o e : Expr} {es : List Expr} {apos pos : Pos} {to_ : TD} {ta : TAD} {pl : Sem Bool} (T : MT X W.K W.ts k m tbl) (he : PE X o (lift W E to_)) (hr : Room k X.A) (hx : Passes (L2.CX X.prog X.w) X E) (ha : PA X (e :: es) (liftA W E ta))
    (hst : starEach (e :: es) X.env = (false, eval e X.env) :: starEach es X.env := by rfl) (hpl : (backTo pos (starEach es X.env)).any (·.1) = false := by rfl)
    (ht : eval (.Call (.Attribute o m apos) (e :: es) [] pos) X.env = (do
      let ov ← eval o X.env
      standAt apos.atName
      let (f, first) ← holding [ov] (getMethod ov m pl)
      callWith pos f first (backTo pos (starEach (e :: es) X.env)) (backToKw pos (keywordEach [] X.env))) := by rfl) :
    PE X (.Call (.Attribute o m apos) (e :: es) [] pos) (lift W E (dMet tbl m to_ ta)) := by
  refine ⟨fun pins s σ H Q I ⟨ρ, n, Φ, Ψ, e0, t, k0, x0⟩ => ?_⟩
  refine PySem.W.methodCall_KW (pl := pl) (thn (he.run pins s σ H (fun v H1 => ∃ d n1, (∃ c fs ps φ, d = .ob c fs ∧ (c, ps, φ) ∈ tbl ∧ fs.lookup m = none ∧ ta ρ n1 (fun ds n2 => (d :: ds).length = ps.length ∧ φ (d :: ds) n2 Φ Ψ) Ψ) ∧ EnvOk W ρ n1 σ H1 ∧ EB W.p H H1 ∧ Rp W.K W.p (Mu W ρ σ) H1 v d) I
    ⟨ρ, n, _, Ψ, e0, t, fun v H1 d n1 h1 e1 k1 r1 => ⟨d, n1, h1, e1, k1, r1⟩, x0⟩) fun u s1 ⟨x, H1, I1, rx, d, n1, ⟨c, fs, ps, φ, q1, q2, q3, q4⟩, e1, k1, r1⟩ => ?_) ht
  subst q1
  obtain ⟨a, dx, fv, rfl, ea, rf⟩ := rp_ob r1
  obtain rfl : u = Value.ref a := rx
  obtain ⟨hc, f, fd, hm, F, hb⟩ := T.ex c ps φ q2
  refine getmeth_ok I1 ea hc hm (rf.lookup_none q3) ?_
  refine PySem.W.callWith_K (first := [.ref a]) (h₀ := X.base) I.ok.mod.kin hm.kp (thn (ha.run pos pins s1 σ H1 (fun vs H2 => spD W.K W.ts ps.length φ ((V.ref a :: vs) ++ []) H2 Q E) I1
    ⟨ρ, n1, _, Ψ, e1, q4, fun vs H2 ds n2 h2 e2 k2 r2 => ?_, x0⟩) fun us s2 ⟨vs, H2, I2, r, q2⟩ => ⟨I2.kIn, ?_⟩) hst hpl
  · show spD W.K W.ts ps.length φ ((V.ref a :: vs) ++ []) H2 Q E
    rw [List.append_nil]
    exact sp_read e2 (.cons (r1.em (e1.eb k2)) r2) h2.1 h2.2 (fun v H' d n' hd e' k' r' => k0 v H' d n' hd e' ((k1.trans k2).trans k') r') x0
  · exact run_fn (us := .ref a :: us) (vs := .ref a :: vs) F hr hb .nil hx I2 (.cons rfl r) q2
theorem dx_meth0 {tbl : List (Str × List Str × FD)} {k : Nat} {m : Str} {o : Expr} {apos pos : Pos} {to_ : TD} {pl : Sem Bool} (T : MT X W.K W.ts k m tbl) (he : PE X o (lift W E to_)) (hr : Room k X.A) (hx : Passes (L2.CX X.prog X.w) X E)
    (ht : eval (.Call (.Attribute o m apos) [] [] pos) X.env = (do
      let ov ← eval o X.env
      standAt apos.atName
      let (f, first) ← holding [ov] (getMethod ov m pl)
      callWith pos f first (backTo pos (starEach [] X.env)) (backToKw pos (keywordEach [] X.env))) := by rfl) :
    PE X (.Call (.Attribute o m apos) [] [] pos) (lift W E (dMet tbl m to_ dNil)) := by
  refine ⟨fun pins s σ H Q I ⟨ρ, n, Φ, Ψ, e0, t, k0, x0⟩ => ?_⟩
  refine PySem.W.methodCall_KW (pl := pl) (thn (he.run pins s σ H (fun v H1 => ∃ d n1, (∃ c fs ps φ, d = .ob c fs ∧ (c, ps, φ) ∈ tbl ∧ fs.lookup m = none ∧ [d].length = ps.length ∧ φ [d] n1 Φ Ψ) ∧ EnvOk W ρ n1 σ H1 ∧ EB W.p H H1 ∧ Rp W.K W.p (Mu W ρ σ) H1 v d) I
    ⟨ρ, n, _, Ψ, e0, t, fun v H1 d n1 h1 e1 k1 r1 => ⟨d, n1, h1, e1, k1, r1⟩, x0⟩) fun u s1 ⟨x, H1, I1, rx, d, n1, ⟨c, fs, ps, φ, q1, q2, q3, q4⟩, e1, k1, r1⟩ => ?_) ht
  subst q1
  obtain ⟨a, dx, fv, rfl, ea, rf⟩ := rp_ob r1
  obtain rfl : u = Value.ref a := rx
  obtain ⟨hc, f, fd, hm, F, hb⟩ := T.ex c ps φ q2
  refine getmeth_ok I1 ea hc hm (rf.lookup_none q3) ?_
  refine PySem.W.callWith_K0 (first := [.ref a]) I1.kIn hm.kp (run_fn (us := [.ref a]) (vs := [.ref a]) F hr hb .nil hx I1 (.cons rfl .nil) ?_)
  exact sp_read e1 (.cons r1 .nil) q4.1 q4.2 (fun v H' d n' hd e' k' r' => k0 v H' d n' hd e' (k1.trans k') r') x0
theorem dx_prop {tbl : List (Str × FD)} {k : Nat} {f : Str} {e : Expr} {pos : Pos} {to_ : TD} (T : PT' X W.K W.ts k f tbl) (he : PE X e (lift W E to_)) (hr : Room (k + 1) X.A) (hab : attributeBase e f X.env (eval e X.env) = eval e X.env := by rfl) :
    PE X (.Attribute e f pos) (lift W E (dProp tbl to_)) := by
  refine ⟨fun pins s σ H Q I ⟨ρ, n, Φ, Ψ, e0, t, k0, x0⟩ => ?_⟩
  refine attr_of hab (thn (he.run pins s σ H (fun v H1 => ∃ d n1, (∃ c fs φ, d = .ob c fs ∧ (c, φ) ∈ tbl ∧ φ [d] n1 Φ (fun _ _ => False)) ∧ EnvOk W ρ n1 σ H1 ∧ EB W.p H H1 ∧ Rp W.K W.p (Mu W ρ σ) H1 v d) I
    ⟨ρ, n, _, Ψ, e0, t, fun v H1 d n1 h1 e1 k1 r1 => ⟨d, n1, h1, e1, k1, r1⟩, x0⟩) fun u s1 ⟨x, H1, I1, rx, d, n1, ⟨c, fs, φ, q1, q2, q3⟩, e1, k1, r1⟩ => ?_)
  subst q1
  obtain ⟨a, dx, fv, rfl, ea, rf⟩ := rp_ob r1
  obtain rfl : u = Value.ref a := rx
  obtain ⟨hc, p, g, fd, hp, F, hb⟩ := T.ex c φ q2
  exact getprop_ok I1 ea hc hp F hr hb .nil (passF (X := X.nox)) (sp_read (E := EF) e1 (.cons r1 .nil) rfl q3 (fun v H' d n' hd e' k' r' => k0 v H' d n' hd e' (k1.trans k') r') exF)
end
/-! ### instances made -/
def putD (f : Str) (v : D) : List (Str × D) → List (Str × D)
  | [] => [(f, v)]
  | (g, x) :: r => if g = f then (g, v) :: r else (g, x) :: putD f v r
theorem put_rp {K : PySem.W.Frag} {p : Addr} {M : Addr → Prop} {H : Hp} {f : Str} {v : V} {d : D} (h : Rp K p M H v d) : ∀ {fv : List (Str × V)} {fs : List (Str × D)}, RpF K p M H fv fs → RpF K p M H (putF f v fv) (putD f d fs)
  | _, _, .nil => .cons h .nil
  | _, _, .cons (k := k) a r => by
    unfold putF putD
    by_cases e : k = f
    · rw [if_pos e, if_pos e]; exact .cons h r
    · rw [if_neg e, if_neg e]; exact .cons a (put_rp h r)
theorem rpf_length {K : PySem.W.Frag} {p : Addr} {M : Addr → Prop} {H : Hp} : ∀ {vs : List (Str × V)} {ds : List (Str × D)}, RpF K p M H vs ds → vs.length = ds.length
  | _, _, .nil => rfl
  | _, _, .cons _ r => by rw [List.length_cons, List.length_cons, rpf_length r]
/-- self.f = e in an __init__: self in slot i -/
def sFldD (i : Nat) (c f : Str) (a : TD) : TSD := fun En ρ n => a ρ n (fun x n1 => ∃ fs, ρ[i]? = some (Sl.own (.ins c fs)) ∧ fs.length < 1000 ∧ En.nx (ρ.set i (.own (.ins c (putD f x fs)))) n1) En.ex
section
variable {X : Cx} {W : Wd} {E : XK}
theorem ds_fld (hK : X.K = W.K) {i : Nat} {c f : Str} {o e : Expr} {pos' pos : Pos} {ta : TD} (ho : PE X o (tVar i)) (he : PE X e (lift W E ta)) (hc : Cls X.K (He.ga X.K c)) (hn : NoAttr X.K (He.ga X.K c) f)
    (hs : swapsWith e (some (.Attribute o f pos')) pos.line X.env = pure false := by rfl) : PS X (.Assign [.Attribute o f pos'] e pos) (liftS W E (sFldD i c f ta)) := ps_imp (ps_fld ho he hs) fun D σ H ⟨ρ, n, En, e, t, k⟩ =>
  ⟨ρ, n, _, _, e, t, fun v H1 d n1 ⟨fs, h1, h2, h3⟩ e1 k1 r1 => by
    obtain ⟨a, g1, ⟨dx, fv, g2, g3⟩, g4, g5⟩ := e1.ow i _ h1
    refine ⟨_, g1, a, _, dx, fv, rfl, hK ▸ g2, hK ▸ hc, hK ▸ hn, by rw [rpf_length g3]; exact h2, ?_⟩
    refine k.nx σ _ _ n1 h3 (e1.put h1 g1 fun H' hH em => ⟨dx, _, hK ▸ hH, (put_rp (r1.em em) (g3.em em))⟩) ((Rl.eb k1 e.mp).trans (Rl.put h1 g1 fun c' fs' z => by cases z; exact ⟨fs, rfl⟩)), k.ex⟩
end
/-- an __init__'s promise -/
def spI (K : PySem.W.Frag) (ts : List (Addr × Str)) (m : Nat) (c : Str) (φ : FD) : Sp := fun vs H Q E => ∃ (p q : Addr) (M : Addr → Prop) (H0 : Hp) (x dx : Addr) (ws : List V) (ds : List D) (n : Nat) (Φ : KD) (Ψ : XD),
  M p ∧ M q ∧ Al M H0 ∧ H0 x = none ∧ H0 dx = none ∧ dx ≠ x ∧ H = upd (upd H0 dx (.own x)) x (.ins (He.ga K c) dx []) ∧ vs = .ref x :: ws ∧ ds.length + 1 = m ∧ RpL K p M H0 ws ds ∧ PenAt H0 p q n ∧ Tabs ts H0 ∧ φ ds n Φ Ψ ∧
  (∀ H' d n', Φ d n' → EB p H0 H' → PenAt H' p q n' → Tabs ts H' → Rp K p M H' (.ref x) d → Q .non H') ∧
  (∀ er n' cls dd H', Ψ er n' → EB p H0 H' → PenAt H' p q n' → Tabs ts H' → ErM K p M H' cls dd er → E cls dd H')
def startI (l : Nat) (c : Str) (ds : List D) : Rho := Sl.own (.ins c []) :: startD (l - 1) ds
/-- what an __init__ makes -/
def inD' (l : Nat) (c : Str) (τ : TSD) : FD := fun ds n Φ Ψ => τ { nx := fun ρ n' => ∃ fs, ρ[0]? = some (Sl.own (.ins c fs)) ∧ Φ (.ob c fs) n', rt := fun _ _ => False, ex := Ψ } (startI l c ds) n
theorem spI_len {K : PySem.W.Frag} {ts : List (Addr × Str)} {ps : List Str} {c : Str} {φ : FD} : ∀ vs H Q E, spI K ts ps.length c φ vs H Q E → vs.length = ps.length := fun vs H Q E ⟨_, _, _, _, _, _, ws, ds, _, _, _, _, _, _, _, _, _, _, hv, hl, r, _⟩ => by
  rw [hv, List.length_cons, r.length, hl]
def dMake (m : Nat) (φ : FD) (dd : List D) (a : TAD) : TD := fun ρ n Φ Ψ => a ρ n (fun ds n1 => (ds ++ dd).length + 1 = m ∧ φ (ds ++ dd) n1 Φ Ψ) Ψ
section
variable {P : Program} {w : World} {K : PySem.W.Frag} {mg : Str → Option Value} {base : Heap} {ts : List (Addr × Str)}
theorem initStart_ok {p q : Addr} {M : Addr → Prop} {H0 : Hp} {N ps : List Str} {c : Str} {x dx : Addr} {ws : List V} {ds : List D} {n : Nat} (h1 : M p) (h2 : M q) (h3 : Al M H0) (hx : H0 x = none) (hd : H0 dx = none) (hne : dx ≠ x) (hN : N.take ps.length = ps) (h4 : ds.length + 1 = ps.length)
    (h5 : RpL K p M H0 ws ds) (h6 : PenAt H0 p q n) (h7 : Tabs ts H0) :
    EnvOk ⟨K, p, q, ts, M, (· = p), H0⟩ (startI N.length c ds) n (L2.start N (.ref x :: ws)) (upd (upd H0 dx (.own x)) x (.ins (He.ga K c) dx [])) := by
  have s : Same H0 (upd (upd H0 dx (.own x)) x (.ins (He.ga K c) dx [])) := fun b o e => by
    rw [upd_ne (ne_of_none e hx), upd_ne (ne_of_none e hd)]; exact e
  have hle : ds.length + 1 ≤ N.length := by
    have z := congrArg List.length hN
    rw [List.length_take] at z
    omega
  have hst : L2.start N (.ref x :: ws) = some (V.ref x) :: (ws.map some ++ List.replicate (N.length - 1 - ws.length) none) := by
    unfold L2.start
    rw [List.map_cons, List.cons_append, List.length_cons, Nat.sub_sub, Nat.add_comm]
  rw [hst]
  have hl := h5.length
  have get : ∀ (i : Nat) (d : D), (startD (N.length - 1) ds)[i]? = some (Sl.d d) → ds[i]? = some d := fun i d z => by
    unfold startD at z
    by_cases hi : i < ds.length
    · rw [List.getElem?_append_left (by rw [List.length_map]; exact hi), List.getElem?_map] at z
      cases e : ds[i]? with
      | none => rw [e] at z; cases z
      | some d' => rw [e] at z; cases z; rfl
    · rw [List.getElem?_append_right (by rw [List.length_map]; omega), List.getElem?_replicate] at z
      split at z <;> cases z
  have noown : ∀ (i : Nat) (o : Ow), (startD (N.length - 1) ds)[i]? = some (Sl.own o) → False := fun i o z => by
    unfold startD at z
    by_cases hi : i < ds.length
    · rw [List.getElem?_append_left (by rw [List.length_map]; exact hi), List.getElem?_map] at z
      cases e : ds[i]? <;> rw [e] at z <;> cases z
    · rw [List.getElem?_append_right (by rw [List.length_map]; omega), List.getElem?_replicate] at z
      split at z <;> cases z
  have xp : x ≠ p := fun z => by
    obtain ⟨xs, q⟩ := h6.at_
    rw [z, q] at hx
    cases hx
  refine ⟨fun i y z => ?_, fun i o z => ?_, fun i j o o' a z1 z2 _ _ => ?_, h6.same s, h7.ext s, EM.same s, rfl, fun b z => (show b = p from z) ▸ h1, h2, h3, fun b mb => ?_, ?_⟩
  · cases i with
    | zero => cases z
    | succ i =>
      have e := get i y (by simpa [startI] using z)
      obtain ⟨v, e1, e2⟩ := h5.get e
      have hi := (List.getElem?_eq_some_iff.mp e1).1
      refine ⟨v, ?_, e2.gen (EM.same s) fun b m => ?_⟩
      · rw [List.getElem?_cons_succ, List.getElem?_append_left (by rw [List.length_map]; exact hi), List.getElem?_map, e1]
        rfl
      · rcases m with m | ⟨j, o, g1, g2⟩
        · exact .inl m
        · cases j with
          | zero =>
            cases g2
            exact .inr fun o ho => by rw [hx] at ho; cases ho
          | succ j => exact (noown j o (by simpa [startI] using g1)).elim
  · cases i with
    | zero =>
      cases z
      exact ⟨x, rfl, ⟨dx, [], upd_same, .nil⟩, xp, fun u hu => by
        have hu : H0 x = some u := hu
        rw [hx] at hu
        cases hu⟩
    | succ i => exact (noown i o (by simpa [startI] using z)).elim
  · cases i with
    | succ i => exact (noown i o (by simpa [startI] using z1)).elim
    | zero => cases j with
      | zero => rfl
      | succ j => exact (noown j o' (by simpa [startI] using z2)).elim
  · obtain ⟨o, q1, q2⟩ := h3 b mb
    exact ⟨o, s _ _ q1, q2⟩
  · unfold startI startD
    rw [List.length_cons, List.length_append, List.length_map, List.length_replicate, List.length_cons, List.length_append, List.length_map, List.length_replicate]
    omega
theorem in_ok {x qual : Str} {params : Arguments} {body : List Stmt} {scope : Scope} {dvs : List V} {kws : List (Str × V)} {f : Addr} {fd : FuncData} {N ps : List Str} {k : Nat} {c : Str} {τ : TSD}
    (F : FunD K x qual params body scope dvs kws f fd) (S : FnScope N ps scope)
    (hb : ∀ (cdv : Value) (A : Around) (outer : List Env) (s : Shared) (H : Hp) (E : XK) (W : Wd), W.K = K → W.ts = ts → Room k (A.deeper (envOfC qual scope s.heap.objs.size f cdv)) →
      PSs (cxOf (L2.CX P w) P w K mg base N qual scope f cdv A outer s H E) body (liftS W E τ)) :
    FnOk P w K mg base (L2.CX P w) (k + 1) f fd ps (spI K ts ps.length c (inD' N.length c τ)) :=
  F.ok S spI_len fun cdv A outer s H vs Q E hr ⟨p, q, M, H0, x, dx, ws, ds, n, Φ, Ψ, h1, h2, h3, hx, hdx, hne, hH, hv, h4, h5, h6, h7, h8, h9, h10⟩ => by
    subst hH
    subst hv
    have e0 := initStart_ok (K := K) (ts := ts) (c := c) h1 h2 h3 hx hdx hne S.pre h4 h5 h6 h7
    refine ⟨_, hb cdv A outer s _ E ⟨K, p, q, ts, M, (· = p), H0⟩ rfl rfl hr, _, n, _, e0, h8, ⟨fun σ' H' ρ' n' h e r => ?_, fun _ _ _ _ h _ _ => h.elim, fun _ _ _ _ h _ _ => h.elim, fun v H' d n' h _ _ _ _ => h.elim, fun er n' cls dd H' h eb pa ta r => h10 er n' cls dd H' h (em_eb eb) pa ta r⟩⟩
    obtain ⟨fs, g1, g2⟩ := h
    obtain ⟨a, q1, ⟨dx', fv, q2, q3⟩, q4, q5⟩ := e.ow 0 _ g1
    obtain ⟨_, q6⟩ := r.ins 0 _ _ g1
    have ax : some (some (V.ref a)) = some (some (V.ref x)) := by
      rw [← q1, q6]
      have : L2.start N (.ref x :: ws) = some (V.ref x) :: (ws.map some ++ List.replicate (N.length - (ws.length + 1)) none) := by
        unfold L2.start
        rw [List.map_cons, List.cons_append, List.length_cons]
      rw [this]
      rfl
    cases ax
    refine h9 H' _ n' g2 (em_eb e.base) e.pen e.tab ?_
    have na : ¬ M x := fun m => by
      obtain ⟨o, z, _⟩ := h3 x m
      rw [hx] at z
      cases z
    exact .ob na q2 (q3.less fun b m => .inl m)
end
section
variable {X : Cx} {W : Wd} {E : XK}
theorem make_read {φ : FD} {m : Nat} {c : Str} {dvs : List V} {dd : List D} {ta : TAD} (hd : ∀ M H, RpL W.K W.p M H dvs dd) {σ : L2.St} {H : Hp} {Q : VK} (h : lift W E (dMake m φ dd ta) σ H Q) : tMake (He.ga W.K c) (spI W.K W.ts m c φ) dvs E (liftA W E ta) σ H Q := by
  obtain ⟨ρ, n, Φ, Ψ, e, t, k, x⟩ := h
  refine ⟨ρ, n, _, Ψ, e, t, fun vs H1 ds n1 h1 e1 k1 r1 => fun y dx ny ndx ne => ?_, x⟩
  refine ⟨W.p, W.q, Mu W ρ σ, H1, y, dx, vs ++ dvs, ds ++ dd, n1, Φ, Ψ, e1.mup, .inl e1.mq, e1.al, ny, ndx, ne, rfl, rfl, h1.1, r1.append (hd _ _), e1.pen, e1.tab, h1.2, fun H' d n' hd' eb pa ta rp => ⟨rfl, k _ H' d n' hd' (e1.step eb pa ta) (k1.trans eb) rp⟩, ?_⟩
  exact fun er n' cls dd' H' he eb pa ta ⟨q1, q2⟩ => x er n' cls dd' H' he (e1.base.trans (EM.eb eb e1.cp)) pa ta ⟨q1, q2.elim .inl fun ⟨d, fv, g1, g2, g3⟩ => .inr ⟨d, fv, g1, g2, g3.1.less (fun b mb => .inl mb), fun z => g3.2 (.inl z)⟩⟩
theorem make_read0 {φ : FD} {m : Nat} {c : Str} {dvs : List V} {dd : List D} (hd : ∀ M H, RpL W.K W.p M H dvs dd) {σ : L2.St} {H : Hp} {Q : VK} (h : lift W E (dMake m φ dd dNil) σ H Q) : tMake (He.ga W.K c) (spI W.K W.ts m c φ) dvs E tNil σ H Q := by
  obtain ⟨ρ, n, Φ, Ψ, e, t, k, x⟩ := h
  intro y dx ny ndx ne
  refine ⟨W.p, W.q, Mu W ρ σ, H, y, dx, [] ++ dvs, [] ++ dd, n, Φ, Ψ, e.mup, .inl e.mq, e.al, ny, ndx, ne, rfl, rfl, t.1, hd _ _, e.pen, e.tab, t.2, fun H' d n' hd' eb pa ta rp => ⟨rfl, k _ H' d n' hd' (e.step eb pa ta) eb rp⟩, ?_⟩
  exact fun er n' cls dd' H' he eb pa ta ⟨q1, q2⟩ => x er n' cls dd' H' he (e.base.trans (EM.eb eb e.cp)) pa ta ⟨q1, q2.elim .inl fun ⟨d, fv, g1, g2, g3⟩ => .inr ⟨d, fv, g1, g2, g3.1.less (fun b mb => .inl mb), fun z => g3.2 (.inl z)⟩⟩
section
variable {k : Nat} {f : Addr} {fd : FuncData} {ps : List Str} {φ : FD} {c : Str} {dvs : List V} {dd : List D} {us : List Value} {x : Str} {p pos : Pos} {e : Expr} {es : List Expr} {ta : TAD}
theorem dx_make (M : Mk X.K (He.ga W.K c) f) (F : FnOk X.prog X.w X.K X.mg X.base (L2.CX X.prog X.w) k f fd ps (spI W.K W.ts ps.length c φ)) (hr : Room (k + 1) X.A) (hg : Gl X x) (hm : X.mg x = some (.ref (He.ga W.K c))) (hb : Binds X.K fd ps us) (hv : Vals dvs us)
    (hd : ∀ M H, RpL W.K W.p M H dvs dd) (hx : Passes (L2.CX X.prog X.w) X E) (ha : PA X (e :: es) (liftA W E ta)) (hdb : (x == ("__debug__" : Str)) = false := by decide) (he : starEach (e :: es) X.env = (false, eval e X.env) :: starEach es X.env := by rfl)
    (hpl : (backTo pos (starEach es X.env)).any (·.1) = false := by rfl) : PE X (.Call (.Name x p) (e :: es) [] pos) (lift W E (dMake ps.length φ dd ta)) :=
  pe_imp (pe_make M F hr hg hm hb hv hx ha hdb he hpl) fun σ H Q h => make_read hd h
theorem dx_make0 (M : Mk X.K (He.ga W.K c) f) (F : FnOk X.prog X.w X.K X.mg X.base (L2.CX X.prog X.w) k f fd ps (spI W.K W.ts ps.length c φ)) (hr : Room (k + 1) X.A) (hg : Gl X x) (hm : X.mg x = some (.ref (He.ga W.K c))) (hb : Binds X.K fd ps us) (hv : Vals dvs us)
    (hd : ∀ M H, RpL W.K W.p M H dvs dd) (hx : Passes (L2.CX X.prog X.w) X E) (hdb : (x == ("__debug__" : Str)) = false := by decide) : PE X (.Call (.Name x p) [] [] pos) (lift W E (dMake ps.length φ dd dNil)) :=
  pe_imp (pe_make0 M F hr hg hm hb hv hx hdb) fun σ H Q h => make_read0 hd h
end
end
/-! ### errors raised -/
/-- an error's __init__: its fields -/
def spErr (K : PySem.W.Frag) (C : Str) (fs : List Str) : Sp := fun vs H Q _ => ∃ (a : Addr) (ws : List V), vs = .ref a :: ws ∧ ws.length = fs.length ∧ H a = some (exo a (He.ga K C) none) ∧ ∀ dx, H dx = none → dx ≠ a → Q .non (upd (upd H dx (exd dx (fs.zip ws).reverse)) a (exo a (He.ga K C) (some dx)))
def sRaise (c : Str) (fs : List Str) (a : TAD) : TSD := fun En ρ n => a ρ n (fun ds n1 => ds.length = fs.length ∧ En.ex ⟨c, (fs.zip ds).reverse⟩ n1) En.ex
theorem raised_same {H : Hp} {a dx : Addr} {o1 o2 o3 o4 : HO} (na : H a = none) (nd : H dx = none) : Same H (upd (L2.del (upd (upd (upd H a o1) dx o2) a o3) a) dx o4) := fun b o e => by
  have b1 := ne_of_none e na
  have b2 := ne_of_none e nd
  rw [upd_ne b2, L2.del_ne b1, upd_ne b1, upd_ne b2, upd_ne b1]
  exact e
theorem rpf_append {K : PySem.W.Frag} {p : Addr} {M : Addr → Prop} {H : Hp} : ∀ {a b : List (Str × V)} {c d : List (Str × D)}, RpF K p M H a c → RpF K p M H b d → RpF K p M H (a ++ b) (c ++ d)
  | _, _, _, _, .nil, s => s
  | _, _, _, _, .cons h r, s => .cons h (rpf_append r s)
theorem rpf_zip {K : PySem.W.Frag} {p : Addr} {M : Addr → Prop} {H : Hp} : ∀ {fs : List Str} {vs : List V} {ds : List D}, RpL K p M H vs ds → RpF K p M H (fs.zip vs).reverse (fs.zip ds).reverse
  | [], _, _, _ => by simp; exact .nil
  | _ :: _, _, _, .nil => by simp; exact .nil
  | f :: fs, _, _, .cons h r => by
    rw [List.zip_cons_cons, List.zip_cons_cons, List.reverse_cons, List.reverse_cons]
    exact rpf_append (rpf_zip r) (.cons h .nil)
section
variable {X : Cx} {W : Wd} {E : XK}
theorem ds_raise (hK : X.K = W.K) {c x : Str} {fs : List Str} {fI : Addr} {k : Nat} {fd : FuncData} {ps : List Str} {p pos pos2 : Pos} {e : Expr} {es : List Expr} {ta : TAD} (hcalm : X.calm = true) (tk : Takes X (fun cls d _ H => E cls d H)) (T : OexC X.K (He.ga X.K c)) (iC : PySem.W.findIn X.K (.ref (He.ga X.K c)) "__init__" = some (some (.ref fI))) (tI : PySem.W.typeIn X.K (.ref fI) = some (.type "function"))
    (F1 : FnOk X.prog X.w X.K X.mg X.base (L2.CX X.prog X.w) k fI fd ps (spErr X.K c fs)) (hr : Room (k + 1) X.A) (hb : Binds X.K fd ps []) (hg : Gl X x) (hm : X.mg x = some (.ref (He.ga X.K c))) (hsm : fs.length ≤ 1000) (ha : PA X (e :: es) (liftA W E ta))
    (hdb : (x == ("__debug__" : Str)) = false := by decide) (he : starEach (e :: es) X.env = (false, eval e X.env) :: starEach es X.env := by rfl) (hpl : (backTo pos (starEach es X.env)).any (·.1) = false := by rfl) :
    PS X (.Raise (some (.Call (.Name x p) (e :: es) [] pos)) none pos2) (liftS W E (sRaise c fs ta)) := ps_imp (ps_raise hcalm tk (pmk_oex T iC tI F1 hr hb .nil passF hg hm ha hdb he hpl)) fun D σ H ⟨ρ, n, En, e, t, k⟩ => by
  refine ⟨ρ, n, _, _, e, t, fun vs H1 ds n1 h1 e1 k1 r1 => ?_, k.ex⟩
  refine ⟨by rw [r1.length, h1.1]; exact hsm, fun a na => ⟨a, vs, by rw [List.append_nil], r1.length.trans h1.1, upd_same, fun dx nd ne => ⟨rfl, dx, (fs.zip vs).reverse, upd_same, ?_, ?_, ?_⟩⟩⟩
  · rw [upd_ne ne, upd_same]
  · rw [upd_ne ne] at nd
    exact nd
  · rw [upd_ne ne] at nd
    have s := raised_same (o1 := exo a (He.ga X.K c) none) (o2 := exd dx (fs.zip vs).reverse) (o3 := exo a (He.ga X.K c) (some dx)) (o4 := .xd (fs.zip vs).reverse) na nd
    refine k.ex _ n1 _ _ _ h1.2 (e1.base.trans (EM.same s)) (e1.pen.same s) (e1.tab.ext s) ⟨by rw [hK], .inr ⟨dx, _, rfl, upd_same, ?_, fun z => e1.al.fresh nd (.inl z)⟩⟩
    exact (rpf_zip (r1.em (EM.same s))).less fun b m => .inl m
end
section
variable {P : Program} {w : World} {K : PySem.W.Frag} {mg : Str → Option Value} {base : Heap}
theorem err1_ok {c f1 n1 : Str} {x qual : Str} {params : Arguments} {scope : Scope} {dvs : List V} {kws : List (Str × V)} {f : Addr} {fd : FuncData} {p1 p2 p3 p4 : Pos} (T : OexC K (He.ga K c)) (x1 : PySem.W.findIn K (.ref (He.ga K c)) f1 = some none)
    (F : FunD K x qual params [.Assign [.Attribute (.Name "self" p1) f1 p2] (.Name n1 p3) p4] scope dvs kws f fd) (S : FnScope ["self", n1] ["self", n1] scope) (v0 : Vis scope "self") (v1 : Vis scope n1) (hd : (n1 == ("__debug__" : Str)) = false) (hcd : (n1 == ("__classdict__" : Str)) = false) :
    FnOk P w K mg base (L2.CX P w) 1 f fd ["self", n1] (spErr K c [f1]) := by
  refine F.ok S (fun vs H Q E ⟨a, ws, hv, hl, _⟩ => by rw [hv, List.length_cons, hl]; rfl) fun cdv A outer s H vs Q E hr ⟨a, ws, hv, hl, ha, k⟩ => ?_
  subst hv
  match ws, hl with
  | [v], _ =>
    refine ⟨_, pss_one (ps_ost (pe_var (i := 0) rfl v0) (pe_var (i := 1) rfl v1 hd hcd)), ?_⟩
    exact ⟨_, rfl, _, rfl, a, _, rfl, T, x1, .inl ⟨ha, fun dx n ne => k dx n ne⟩⟩
theorem err2_ok {c f1 f2 n1 n2 : Str} {x qual : Str} {params : Arguments} {scope : Scope} {dvs : List V} {kws : List (Str × V)} {f : Addr} {fd : FuncData} {p1 p2 p3 p4 p5 p6 p7 p8 : Pos} (T : OexC K (He.ga K c)) (x1 : PySem.W.findIn K (.ref (He.ga K c)) f1 = some none) (x2 : PySem.W.findIn K (.ref (He.ga K c)) f2 = some none)
    (F : FunD K x qual params [.Assign [.Attribute (.Name "self" p1) f1 p2] (.Name n1 p3) p4, .Assign [.Attribute (.Name "self" p5) f2 p6] (.Name n2 p7) p8] scope dvs kws f fd) (S : FnScope ["self", n1, n2] ["self", n1, n2] scope) (v0 : Vis scope "self") (v1 : Vis scope n1) (v2 : Vis scope n2) (hd : (n1 == ("__debug__" : Str)) = false) (hcd : (n1 == ("__classdict__" : Str)) = false)
    (hd2 : (n2 == ("__debug__" : Str)) = false) (hcd2 : (n2 == ("__classdict__" : Str)) = false) : FnOk P w K mg base (L2.CX P w) 1 f fd ["self", n1, n2] (spErr K c [f1, f2]) := by
  refine F.ok S (fun vs H Q E ⟨a, ws, hv, hl, _⟩ => by rw [hv, List.length_cons, hl]; rfl) fun cdv A outer s H vs Q E hr ⟨a, ws, hv, hl, ha, k⟩ => ?_
  subst hv
  match ws, hl with
  | [u, v], _ =>
    refine ⟨_, pss_cons (ps_ost (pe_var (i := 0) rfl v0) (pe_var (i := 1) rfl v1 hd hcd)) (pss_one (ps_ost (pe_var (i := 0) rfl v0) (pe_var (i := 2) rfl v2 hd2 hcd2))), ?_⟩
    refine ⟨_, rfl, _, rfl, a, _, rfl, T, x1, .inl ⟨ha, fun dx n ne => ?_⟩⟩
    refine ⟨_, rfl, _, rfl, a, _, rfl, T, x2, .inr ⟨dx, [(f1, u)], upd_same, by rw [upd_ne ne, upd_same], (by show 1 ≤ 900; decide), ?_⟩⟩
    have e : upd (upd (upd H dx (exd dx [(f1, u)])) a (exo a (He.ga K c) (some dx))) dx (exd dx [(f2, v), (f1, u)]) = upd (upd H dx (exd dx [(f2, v), (f1, u)])) a (exo a (He.ga K c) (some dx)) := by
      funext b
      by_cases hb : b = dx
      · subst hb
        rw [upd_same, upd_ne ne, upd_same]
      · rw [upd_ne hb]
        by_cases hb2 : b = a
        · subst hb2; rw [upd_same, upd_same]
        · rw [upd_ne hb2, upd_ne hb2, upd_ne hb, upd_ne hb]
    rw [e]
    exact k dx n ne
end
end DL
/-! sets of texts: made of a list or a tuple, told in order -/
namespace ST
open PySem PySem.Spec PyProof.Rows L2
section
variable {P : Program} {w : World} {A : Around} {E : Value → Shared → Prop} {s : Shared} {a : Addr}
theorem strs_of : ∀ (l : List Value), (∀ v ∈ l, ∃ k t, v = Value.str k t) → StrsAre l (l.map fun v => tk (0, v))
  | [], _ => .nil
  | v :: l, h => by
    obtain ⟨k, t, rfl⟩ := h v List.mem_cons_self
    exact .cons k t (strs_of l fun u hu => h u (List.mem_cons_of_mem _ hu))
theorem list_sort_strs {a : Addr} {vs : List Value} {ss : List Str} {n : Nat} {Q : Fin → Shared → Prop} (ho : s.heap.get? a = some (seqObj "list" vs.toArray n)) (hS : StrsAre vs ss) (h64 : vs.length < 64)
    (h : ∀ (out : Array Value) (ys : List Str), StrsAre out.toList ys → ys.Perm ss → sortedS ys = true → Q (.done (.ret .none)) { s with heap := sortedHeap s.heap a vs out }) :
    wpAny (model P w) A (Builtin.«list.sort» ⟨[.ref a], []⟩) Q E s := by
  refine list_sort_treeK strKind_oneLt ho hS.keysOf (fun v₁ v₂ rest e => keyKind_strs (by rw [← e]; exact hS)) h64 fun st' hp hs => ?_
  obtain ⟨ss', h1, h2, h3⟩ := sorted_out_str hS hp hs
  exact h _ ss' h1 h2 h3
/-- sorted(set) -/
theorem told {L : List Str} {Q : Value → Shared → Prop} (R : At w s.heap a L) (hh : A.handled = none) (h64 : L.length < 64)
    (hQ : ∀ s' p (out : Array Value) (c : Nat) (ys : List Str), (∀ b o, s.heap.get? b = some o → s'.heap.get? b = some o) → s'.gens = s.gens → s'.os = s.os → s.heap.objs.size ≤ p →
      s'.heap.get? p = some (seqObj "list" out c) → StrsAre out.toList ys → ys.Perm L → sortedS ys = true → Q (.ref p) s') :
    wpAny (model P w) A (call (.builtin "sorted") [.ref a]) Q E s := by
  obtain ⟨o, es, ep, t, ho, hex, hd, g, pL, nd, hb, hf, hr, hl⟩ := R
  refine Calls.call_function_entry kind_sorted plain_sorted entry_sorted (args_sorted1 _) ?_
  unfold Builtin.«sorted»
  refine wpAny_bind (m := checkCount "sorted" 1 1 _) (wpAny_pure ?_)
  refine wpAny_bind (collect_set (A := A.in1) hh ⟨o, ho, hex.1, hd⟩ hf hb hr hl fun s1 vs k1 hz g1 o1 pm => ?_)
  have txt : ∀ v ∈ vs, ∃ k t, v = Value.str k t := fun v hv => by
    obtain ⟨e, he, q⟩ := List.mem_map.mp (pm.mem_iff.mp hv)
    obtain ⟨k, t, h1, _⟩ := g e he
    exact ⟨k, t, by rw [← q]; exact h1⟩
  have hI : StrsAre vs (vs.map fun v => tk (0, v)) := strs_of vs txt
  have pk : (vs.map fun v => tk (0, v)).Perm L := by
    have q := pm.map fun v => tk (0, v)
    rw [List.map_map] at q
    exact q.trans pL
  have hvl : vs.length = L.length := by rw [← pk.length_eq, List.length_map]
  refine wpAny_bind (wpAny_newList ?_ (by rw [hvl, sizeLine_eq]; omega))
  have hoL : (s1.heap.push (seqObj "list" vs.toArray 0)).get? s1.heap.objs.size = some (seqObj "list" vs.toArray 0) := Heap.get?_push_size _ rfl
  refine wpAny_bind (wpAny_holding (wpAny_call_entry slot_list_sort ⟨_, hoL, rfl⟩ entry_list_sort (list_sort_strs hoL hI (by rw [hvl]; exact h64) fun out ys a1 a2 a3 => ⟨_, rfl, ?_⟩) (args_list_sort _)))
  obtain ⟨c, hc⟩ := sortedHeap_at (vs := vs) (out := out) hoL
  refine wpAny_pure ⟨_, rfl, hQ _ s1.heap.objs.size out c ys (fun b u e => ?_) g1 o1 hz hc a1 (a2.trans pk) a3⟩
  have q := k1 b u e
  have hlt := Heap.lt_size q
  show (sortedHeap (s1.heap.push (seqObj "list" vs.toArray 0)) s1.heap.objs.size vs out).get? b = some u
  rw [sortedHeap_old (Nat.ne_of_lt hlt) (by rw [size_push']; exact Nat.lt_succ_of_lt hlt)]
  exact Heap.get?_push_of_some _ q
end
end ST
namespace DL
open PySem PySem.Spec PyProof.Rows L2 Gx KX LamX
/-! ### sorted(set(texts)) -/
abbrev ltS (a b : Str) : Prop := a.cps.toList < b.cps.toList
def insS (x : Str) : List Str → List Str
  | [] => [x]
  | y :: l => if x = y then y :: l else if ltS x y then x :: y :: l else y :: insS x l
/-- ascending, without duplicates -/
def ascS (xs : List Str) : List Str := xs.foldr insS []
theorem str_ext {a b : Str} (h : a.cps.toList = b.cps.toList) : a = b := by
  cases a; cases b
  congr 1
  exact Array.ext' h
theorem ltS_tri {a b : Str} (h1 : a ≠ b) (h2 : ¬ ltS a b) : ltS b a := by
  rcases List.le_iff_lt_or_eq.mp (List.not_lt.mp h2) with h | h
  · exact h
  · exact (h1 (str_ext h.symm)).elim
theorem insS_mem (x y : Str) : ∀ l, y ∈ insS x l ↔ y = x ∨ y ∈ l
  | [] => by simp [insS]
  | z :: l => by
    unfold insS
    split
    · rename_i h; subst h
      simp only [List.mem_cons]
      constructor
      · intro h; exact .inr h
      · rintro (h | h)
        · exact .inl h
        · exact h
    · split
      · simp only [List.mem_cons]
      · simp only [List.mem_cons, insS_mem x y l]
        constructor
        · rintro (h | h | h)
          · exact .inr (.inl h)
          · exact .inl h
          · exact .inr (.inr h)
        · rintro (h | h | h)
          · exact .inr (.inl h)
          · exact .inl h
          · exact .inr (.inr h)
theorem insS_asc (x : Str) : ∀ l, l.Pairwise ltS → (insS x l).Pairwise ltS
  | [], _ => by simp [insS]
  | z :: l, h => by
    unfold insS
    obtain ⟨h1, h2⟩ := List.pairwise_cons.mp h
    split
    · exact h
    · split
      · rename_i h3
        refine List.pairwise_cons.mpr ⟨fun y hy => ?_, h⟩
        rcases List.mem_cons.mp hy with rfl | hy
        · exact h3
        · exact List.lt_trans h3 (h1 y hy)
      · rename_i n h3
        refine List.pairwise_cons.mpr ⟨fun y hy => ?_, insS_asc x l h2⟩
        rcases (insS_mem x y l).mp hy with rfl | hy
        · exact ltS_tri n h3
        · exact h1 y hy
theorem ascS_mem (y : Str) : ∀ xs, y ∈ ascS xs ↔ y ∈ xs
  | [] => Iff.rfl
  | x :: xs => by
    show y ∈ insS x (ascS xs) ↔ _
    rw [insS_mem, ascS_mem y xs, List.mem_cons]
theorem ascS_asc : ∀ xs, (ascS xs).Pairwise ltS
  | [] => List.Pairwise.nil
  | x :: xs => insS_asc x _ (ascS_asc xs)
theorem asc_eq : ∀ {xs ys : List Str}, xs.Pairwise ltS → ys.Pairwise ltS → (∀ k, k ∈ xs ↔ k ∈ ys) → xs = ys
  | [], [], _, _, _ => rfl
  | [], y :: _, _, _, h => (List.not_mem_nil ((h y).mpr List.mem_cons_self)).elim
  | x :: _, [], _, _, h => (List.not_mem_nil ((h x).mp List.mem_cons_self)).elim
  | x :: xs, y :: ys, p, q, h => by
    obtain ⟨p1, p2⟩ := List.pairwise_cons.mp p
    obtain ⟨q1, q2⟩ := List.pairwise_cons.mp q
    have e : x = y := by
      rcases List.mem_cons.mp ((h x).mp List.mem_cons_self) with e | e
      · exact e
      · rcases List.mem_cons.mp ((h y).mpr List.mem_cons_self) with e2 | e2
        · exact e2.symm
        · exact (List.lt_irrefl _ (List.lt_trans (q1 x e) (p1 y e2))).elim
    subst e
    rw [asc_eq p2 q2 fun k => ?_]
    constructor
    · intro hk
      rcases List.mem_cons.mp ((h k).mp (List.mem_cons_of_mem _ hk)) with z | z
      · subst z; exact (List.lt_irrefl _ (p1 k hk)).elim
      · exact z
    · intro hk
      rcases List.mem_cons.mp ((h k).mpr (List.mem_cons_of_mem _ hk)) with z | z
      · subst z; exact (List.lt_irrefl _ (q1 k hk)).elim
      · exact z
theorem asc_of_sorted : ∀ {l : List Str}, sortedS l = true → l.Nodup → l.Pairwise ltS := by
  have key : ∀ (l : List Str) (p : Str), risingS p l = true → (p :: l).Nodup → (p :: l).Pairwise ltS := by
    intro l
    induction l with
    | nil => intro p _ _; exact List.pairwise_cons.mpr ⟨fun _ h => (List.not_mem_nil h).elim, .nil⟩
    | cons x r ih =>
      intro p h n
      have h' : (!ltCps x.cps.toList p.cps.toList && risingS x r) = true := h
      rw [Bool.and_eq_true, Bool.not_eq_true', ltCps_eq, decide_eq_false_iff_not] at h'
      have n1 := List.nodup_cons.mp n
      have ih' := ih x h'.2 n1.2
      have lt : ltS p x := ltS_tri (fun z => n1.1 (z ▸ List.mem_cons_self)) h'.1
      refine List.pairwise_cons.mpr ⟨fun y hy => ?_, ih'⟩
      rcases List.mem_cons.mp hy with rfl | hy
      · exact lt
      · exact List.lt_trans lt ((List.pairwise_cons.mp ih').1 y hy)
  intro l h n
  cases l with
  | nil => exact .nil
  | cons x r => exact key r x h n
theorem insS_len (x : Str) : ∀ l, (insS x l).length ≤ l.length + 1
  | [] => by simp [insS]
  | z :: l => by
    unfold insS
    split
    · simp
    · split
      · simp
      · have := insS_len x l
        simp only [List.length_cons]; omega
theorem ascS_len : ∀ xs, (ascS xs).length ≤ xs.length
  | [] => Nat.le_refl _
  | x :: xs => by
    have h1 := insS_len x (ascS xs)
    have h2 := ascS_len xs
    show (insS x (ascS xs)).length ≤ _
    simp only [List.length_cons]; omega
/-- the set of texts at a -/
def SetS (w : World) (a : Addr) (L : List Str) : HO := .ext fun h => ST.At w h a L
section
variable {X : Cx} {W : Wd} {E : XK}
theorem setS_new {w : World} {P : Program} {H : Hp} {h : Heap} {a : Addr} {L : List Str} (R : ST.At w h a L) : ObjOk P w H h a (SetS w a L) := by
  have ⟨o, _, _, _, ho, _⟩ := R
  exact ⟨R, ⟨o, ho⟩, fun h1 h2 p k => ST.At.at p k⟩
theorem setS_get {pins : List (Addr × Obj)} {σ : L2.St} {H : Hp} {s : Shared} {a : Addr} {L : List Str} (I : Inv X pins σ H s) (ha : H a = some (SetS X.w a L)) : ST.At X.w s.heap a L := (I.hok a _ ha).1
def rSetS (K : PySem.W.Frag) (w : World) : List V → Hp → VK → Prop := fun xs H Q => ∃ (l : Addr) (ss : List Str), xs = [.ref l] ∧ (SqL K H l (ss.map V.str) ∨ SqT K H l (ss.map V.str)) ∧ ss.length < 1000 ∧
  ∀ p L, (∀ k, k ∈ L ↔ k ∈ ss) → L.Nodup → L.length ≤ ss.length → H p = none → Q (.ref p) (upd H p (SetS w p L))
theorem cr_setS (hc : X.calm = true) : CallR X (.type "set") (rSetS X.K X.w) := by
  intro pins s σ H xs us Q I r h
  obtain ⟨l, ss, rfl, hq, few, q⟩ := h
  rw [Vals.ref1 r]
  have fin : ∀ (h' : Heap) (tk : Nat) (L : List Str), ST.At X.w h' s.heap.objs.size L → ST.Of ss ss.length L → (∀ b o, s.heap.get? b = some o → h'.get? b = some o) → EP X pins σ Q (.ref s.heap.objs.size) { s with heap := h', toks := tk } := fun h' tk L R o k => by
    have nd : L.Nodup := by
      obtain ⟨_, _, _, _, _, _, _, _, _, nd, _⟩ := R
      exact nd
    exact ⟨.ref s.heap.objs.size, _, I.laid (t' := tk) k (Nat.le_refl _) (setS_new R), rfl, q _ L (fun j => by rw [o.1 j, List.take_length]) nd o.2 (I.hok.fresh (Nat.le_refl _))⟩
  rcases hq with hq | hq
  · obtain ⟨its, rv, pl, hz⟩ := I.list hq
    exact ST.made_list ss (I.ok.hd hc) pl.isList (by simpa using strsAre_of rv) few fin
  · obtain ⟨its, rv, pl, hz⟩ := I.tuple hq
    exact ST.made_tuple ss (I.ok.hd hc) pl (by simpa using strsAre_of rv) few fin
def rSortS (w : World) : List V → Hp → VK → Prop := fun vs H Q => ∃ (a : Addr) (L : List Str), vs = [V.ref a] ∧ H a = some (SetS w a L) ∧ L.length < 64 ∧
  ∀ (ys : List Str) (p : Addr), ys.Pairwise ltS → (∀ k, k ∈ ys ↔ k ∈ L) → H p = none → Q (.ref p) (upd H p (.lst (ys.map V.str)))
theorem cr_sortS (hc : X.calm = true) : CallR X (.builtin "sorted") (rSortS X.w) := by
  intro pins s σ H vs us Q I r h
  obtain ⟨a, L, rfl, ha, h64, q⟩ := h
  have R := setS_get I ha
  have nd : L.Nodup := by
    obtain ⟨_, _, _, _, _, _, _, _, _, nd, _⟩ := R
    exact nd
  rw [Vals.ref1 r]
  refine ST.told R (I.ok.hd hc) h64 fun s' p out c ys k g o hp hg hi pm hs => ?_
  have hlen : (ys.map V.str).length ≤ sizeLine := by rw [List.length_map, pm.length_eq, sizeLine_eq]; omega
  have hn : H p = none := I.hok.fresh hp
  have J : Inv X pins σ (upd H p (.lst (ys.map V.str))) { s with heap := s'.heap, gens := s'.gens, drawn := s'.drawn, toks := s'.toks } :=
    I.call (ch := []) (Un.laid k hp hn) (I.hok.laid k hp ⟨hlen, out.toList, c, vals_of_strs hi, hg⟩) (by rw [g]; exact I.bare) (fun _ z => nomatch z)
  have e : s' = { s with heap := s'.heap, gens := s'.gens, drawn := s'.drawn, toks := s'.toks } := by
    cases s'
    cases s
    cases o
    rfl
  rw [e]
  exact ⟨.ref p, _, J, rfl, q ys p (asc_of_sorted hs (pm.nodup_iff.mpr nd)) (fun k => pm.mem_iff) hn⟩
theorem rp_strs {K : PySem.W.Frag} {p : Addr} {M : Addr → Prop} {H : Hp} : ∀ {vs : List V} {ss : List Str}, RpL K p M H vs (ss.map D.str) → vs = ss.map V.str
  | _, [], .nil => rfl
  | _, s :: ss, .cons h t => by
    cases h
    rw [rp_strs t]
    rfl
theorem rp_of_strs {K : PySem.W.Frag} {p : Addr} {M : Addr → Prop} {H : Hp} : ∀ {ss : List Str}, RpL K p M H (ss.map V.str) (ss.map D.str)
  | [] => .nil
  | s :: ss => .cons (.str s) rp_of_strs
/-- the texts of data -/
def D.s : D → Str
  | .str x => x
  | _ => Str.empty
def strsD (ds : List D) : Prop := ds = (ds.map D.s).map D.str
/-- sorted(set(e)) -/
def ascL (f : List D → D) : D → (D → Prop) → Prop
  | .lst ds, k => ∃ ss : List Str, ds = ss.map D.str ∧ ss.length < 64 ∧ k (f ((ascS ss).map D.str))
  | .tup ds, k => ∃ ss : List Str, ds = ss.map D.str ∧ ss.length < 64 ∧ k (f ((ascS ss).map D.str))
  | _, _ => False
theorem dx_asc (hc : X.calm = true) (hK : X.K = W.K) {e : Expr} {p1 p2 q1 q2 : Pos} {ta : TD} (hg : Gl X "sorted") (hm : X.mg "sorted" = none) (hg2 : Gl X "set") (hm2 : X.mg "set" = none) (ha : PE X e (lift W E ta))
    (na : starEach [e] X.env = (false, eval e X.env) :: starEach [] X.env := by rfl) :
    PE X (.Call (.Name "sorted" p1) [.Call (.Name "set" p2) [e] [] q2] [] q1) (lift W E (dUn (ascL D.lst) ta)) := by
  refine pe_imp (pe_callB (cr_sortS hc) hg hm boot_sorted (pa_cons (pe_callTy (cr_setS hc) hg2 hm2 boot_set (pa_cons ha pa_nil na) (by decide) (by decide) na rfl) pa_nil rfl) (by decide) (by decide) rfl rfl) fun σ H Q ⟨ρ, n, Φ, Ψ, e, t, k, x⟩ => ?_
  refine ⟨ρ, n, _, Ψ, e, t, fun v H1 d n1 h1 e1 k1 r1 => ?_, x⟩
  have go : ∀ (l : Addr) (ss : List Str), v = .ref l → (SqL X.K H1 l (ss.map V.str) ∨ SqT X.K H1 l (ss.map V.str)) → ss.length < 64 → Φ (.lst ((ascS ss).map D.str)) n1 →
      rSetS X.K X.w [v] H1 fun u H2 => rSortS X.w [u] H2 Q := fun l ss hv hq h64 hf =>
    ⟨l, ss, by rw [hv], hq, by omega, fun p L hL nd hl np => ⟨p, L, rfl, upd_same, by omega, fun ys p2 hy hm hp => by
      have s1 := new_same np (SetS X.w p L)
      have s2 := new_same hp (.lst (ys.map V.str))
      have ey : ys = ascS ss := asc_eq hy (ascS_asc ss) fun k => by rw [hm, hL, ascS_mem]
      have e2 := (e1.same s1).same s2
      refine k _ _ _ n1 hf e2 ((k1.trans (EB.same s1)).trans (EB.same s2)) ?_
      rw [← ey]
      exact .lst ((e1.same s1).al.fresh hp) upd_same rp_of_strs⟩⟩
  unfold ascL at h1
  split at h1 <;> first | exact h1.elim | skip
  · obtain ⟨ss, rfl, h64, hf⟩ := h1
    cases r1 with
    | lst nm h r => exact go _ ss rfl (.inl (rp_strs r ▸ SqL.of h)) h64 hf
  · obtain ⟨ss, rfl, h64, hf⟩ := h1
    cases r1 with
    | tup nm h r => exact go _ ss rfl (.inr (rp_strs r ▸ SqT.of h)) h64 hf
    | tupS h r => exact go _ ss rfl (.inr (by rw [rp_strs r] at h; exact hK ▸ h _)) h64 hf
end
end DL
namespace DL
open PySem PySem.Spec PyProof.Rows L2 Gx KX LamX
/-! ### chained comparison, in range, keywords, dict displays, defs with stars -/
def dChain (f g : D → D → (D → Prop) → Prop) (a b c : TD) : TD := fun ρ n Φ Ψ => a ρ n (fun x n1 => b ρ n1 (fun y n2 => f x y fun z => ∃ k, z = .bl k ∧ (if k = true then c ρ n2 (fun w n3 => g y w fun r => Φ r n3) Ψ else Φ (.bl false) n2)) Ψ) Ψ
def inRgD (a l h : TD) : TD := fun ρ n Φ Ψ => a ρ n (fun x n1 => l ρ n1 (fun y n2 => h ρ n2 (fun z n3 => ∃ i lo hi : Int, x = .int i ∧ y = .int lo ∧ z = .int hi ∧ Φ (.bl (decide (lo ≤ i) && decide (i < hi))) n3) Ψ) Ψ) Ψ
section
variable {X : Cx} {W : Wd} {E : XK}
theorem chain_read {f g : D → D → (D → Prop) → Prop} {ta tb tc : TD} {ρ : Rho} {n : Nat} {σ : L2.St} {H : Hp} {Φ : KD} {Ψ : XD} {Q : VK} (e : EnvOk W ρ n σ H) (t : dChain f g ta tb tc ρ n Φ Ψ)
    (k : ∀ v H' d n', Φ d n' → EnvOk W ρ n' σ H' → EB W.p H H' → Rp W.K W.p (Mu W ρ σ) H' v d → Q v H') (x : ExW W E Ψ) : tChain (rD W f) (rD W g) (lift W E ta) (lift W E tb) (lift W E tc) σ H Q :=
  ⟨ρ, n, _, Ψ, e, t, fun v H1 d n1 h1 e1 k1 r1 => ⟨ρ, n1, _, Ψ, e1, h1, fun u H2 c n2 h2 e2 k2 r2 =>
    ⟨Mu W ρ σ, d, c, _, e2.al, r1.em (e1.eb k2), r2, h2, fun w H3 z hz s r3 => by
      obtain ⟨b, rfl, q⟩ := hz
      cases r3
      refine ⟨b, rfl, ?_⟩
      have e3 := e2.same s
      have k3 := (k1.trans k2).trans (EB.same s)
      cases b with
      | true =>
        rw [if_pos rfl] at q ⊢
        exact ⟨ρ, n2, _, Ψ, e3, q, fun w4 H4 d4 n4 h4 e4 k4 r4 => ⟨Mu W ρ σ, c, d4, _, e4.al, (r2.em (EM.same s)).em (e3.eb k4), r4, h4, fun w5 H5 z5 hz5 s5 r5 => k w5 H5 z5 n4 hz5 (e4.same s5) ((k3.trans k4).trans (EB.same s5)) r5⟩, x⟩
      | false =>
        rw [if_neg (by decide)] at q ⊢
        exact k _ H3 _ n2 q e3 k3 (.bl _)⟩, x⟩, x⟩
theorem dx_chain {f g : D → D → (D → Prop) → Prop} {a b c : Expr} {op op' : CmpOp} {ta tb tc : TD} {pos : Pos} (ho : OpR X (compareOp op) (rD W f)) (ho' : OpR X (compareOp op') (rD W g)) (ha : PE X a (lift W E ta)) (hb : PE X b (lift W E tb)) (hc : PE X c (lift W E tc))
    (hm : lastMarks [op, op'] [b, c] = false := by with_unfolding_all rfl) : PE X (.Compare a [op, op'] [b, c] pos) (lift W E (dChain f g ta tb tc)) := pe_imp (pe_chain ho ho' ha hb hc hm) fun σ H Q ⟨ρ, n, Φ, Ψ, e, t, k, x⟩ => chain_read e t k x
theorem dt_chain {f g : D → D → (D → Prop) → Prop} {a b c : Expr} {op op' : CmpOp} {ta tb tc : TD} {pos : Pos} (ho : OpR X (compareOp op) (rD W f)) (ho' : OpR X (compareOp op') (rD W g)) (ha : PE X a (lift W E ta)) (hb : PE X b (lift W E tb)) (hc : PE X c (lift W E tc))
    (hm : lastMarks [op, op'] [b, c] = false := by with_unfolding_all rfl) : PT X (.Compare a [op, op'] [b, c] pos) (liftT W E (dTest (dChain f g ta tb tc))) := pt_imp (pt_chain ho ho' ha hb hc hm) fun σ H Q ⟨ρ, n, Φ, Ψ, e, t, k, x⟩ =>
  chain_read (E := E) (Φ := fun d n' => ∃ b, d = .bl b ∧ Φ b n') e t (fun v H' d n' hd e' k' r => by
    obtain ⟨b, rfl, hb⟩ := hd
    cases r
    exact ⟨b, rfl, k b H' n' hb e' k'⟩) x
/-! in range -/
theorem in_range {prog : Program} {w : World} {A : Around} {E : Value → Shared → Prop} {s : Shared} {r : Addr} {a b i : Int} {t u v tk : Tok} {Q : Value → Shared → Prop} (hr : IsRange s.heap r a b 1 t u v)
    (h : Q (.bool (decide (a ≤ i) && decide (i < b))) s) : wpAny (model prog w) A (compareOp .In (.int i tk) (.ref r)) Q E s := by
  have hT : s.TypeIs (.ref r) "range" := ⟨_, hr, rfl⟩
  have hp1 : (Builtin.Range.rangePlace? a b 1 i).isSome = (decide (a ≤ i) && decide (i < b)) := by
    unfold Builtin.Range.rangePlace?
    simp only [show ((1 : Int) > 0) = True by simp, if_true, Int.emod_one, beq_self_eq_true, Bool.and_true]
    split <;> rename_i h
    · rw [h]; rfl
    · rw [Bool.eq_false_iff.mpr h]; rfl
  show wpAny _ A (do return .bool (← contains (.ref r) (.int i tk))) Q E s
  refine wpAny_bind (wpAny_contains_slot hT F.slot_range_contains (wpAny_call_entry F.slot_range_contains hT F.entry_range_contains ?_ (F.args_range_contains_2 _ _)))
  obtain ⟨hp, g, d, tk, os⟩ := s
  wp_walk using wpAny_loadPart' hr
  rw [hp1]
  wp_walk
  exact ⟨_, rfl, wpAny_truthy_bool (wpAny_pure h)⟩
theorem dx_inRg {a l h : Expr} {ta tl th : TD} {p q pos : Pos} (hg : Gl X "range") (hm : X.mg "range" = none) (ha : PE X a (lift W E ta)) (hl : PE X l (lift W E tl)) (hh : PE X h (lift W E th))
    (na : starEach [l, h] X.env = (false, eval l X.env) :: starEach [h] X.env := by rfl)
    (nb : starEach [h] X.env = (false, eval h X.env) :: starEach [] X.env := by rfl) (hp : (backTo q (starEach [h] X.env)).any (·.1) = false := by rfl) (hb : behindInMarks .In (.Call (.Name "range" p) [l, h] [] q) = false := by rfl) :
    PE X (.Compare a [.In] [.Call (.Name "range" p) [l, h] [] q] pos) (lift W E (inRgD ta tl th)) := by
  have run : ∀ σ H Q, lift W E (inRgD ta tl th) σ H Q → lift W E ta σ H fun x1 H1 => tRg2 (lift W E tl) (lift W E th) σ H1 fun lo hi H3 => ∃ i, x1 = .int i ∧ Q (.bl (decide (lo ≤ i) && decide (i < hi))) H3 :=
    fun σ H Q ⟨ρ, n, Φ, Ψ, e, t, k, x⟩ => ⟨ρ, n, _, Ψ, e, t, fun v H1 d n1 h1 e1 k1 r1 => ⟨ρ, n1, _, Ψ, e1, h1, fun v2 H2 d2 n2 h2 e2 k2 r2 => ⟨ρ, n2, _, Ψ, e2, h2, fun v3 H3 d3 n3 h3 e3 k3 r3 => by
      obtain ⟨i, lo, hi, rfl, rfl, rfl, q⟩ := h3
      cases r1
      cases r2
      cases r3
      exact ⟨lo, hi, rfl, rfl, i, rfl, k _ H3 _ n3 q e3 ((k1.trans k2).trans k3) (.bl _)⟩, x⟩, x⟩, x⟩
  refine ⟨fun pins s σ H Q I t => ?_⟩
  refine wpAny_Compare1 (thn (ha.run pins s σ H _ I (run σ H Q t)) fun v s1 ⟨x1, H1, I1, r1, q1⟩ => thn (prg_2 hg hm hl hh na nb hp pins s1 σ H1 _ I1 q1) fun u s2 ⟨r, lo, hi, t1, t2, t3, H3, eu, isr, I2, i, ex, q⟩ => ?_) hb
  subst eu
  subst ex
  obtain ⟨tk, rfl⟩ := r1
  exact in_range isr ⟨.bl _, H3, I2, rfl, q⟩
/-! keywords, none by position -/
def dCallK0 (m : Nat) (φ : FD) (g : List D → List D → List D) (b : TAD) : TD := fun ρ n Φ Ψ => b ρ n (fun es n2 => (g [] es).length = m ∧ φ (g [] es) n2 Φ Ψ) Ψ
def liftK (W : Wd) (E : XK) (τ : TAD) : TA := liftA W E τ
theorem pe_callN0 {CX : CXT} {k : Nat} {f : Addr} {fd : FuncData} {ps ks : List Str} {sp : Sp} {x : Str} {p pos : Pos} {kws : List Keyword} {tk : TA} {g : List Value → List Value → List Value} {gV : List V → List V → List V}
    (F : FnOk X.prog X.w X.K X.mg X.base CX k f fd ps sp) (hr : Room k X.A) (hg : Gl X x) (hm : X.mg x = some (.ref f)) (hk : PySem.W.keepIn X.K (.ref f) = true) (hb : KBn X.K fd ps 0 ks g gV) (hx : Passes CX X E)
    (hkw : PK X kws tk) (hall : (backToKw pos (keywordEach kws X.env)).all (·.1.isSome) = true := by rfl) (hks : (backToKw pos (keywordEach kws X.env)).filterMap (·.1) = ks := by rfl)
    (hdb : (x == ("__debug__" : Str)) = false := by decide) 
    (hpl : ((backTo pos (starEach [] X.env)).any (·.1) || (backToKw pos (keywordEach kws X.env)).any (·.1.isNone)) = false := by rfl) :
    PE X (.Call (.Name x p) [] kws pos) (fun σ H Q => tk σ H fun zs H2 => zs.length = ks.length ∧ sp (gV [] zs) H2 Q E) := by
  refine ⟨fun pins s σ H Q I h => ?_⟩
  refine wpAny_Call_Name_kw (ld_glob I hg hm ?_ hdb)
  refine PySem.W.callWith_KW0 (first := []) (h₀ := X.base) I.ok.mod.kin hk hall ?_ hpl
  refine thn (hkw.run pos pins s σ H _ I h) fun ws s2 ⟨zs, H2, I2, rz, l2, q2⟩ => ⟨I2.kIn, ?_⟩
  rw [hks]
  exact run_fnN (us := []) (vs := []) F hr hb hx I2 .nil rz rfl l2 q2
end
end DL
namespace DL
open PySem PySem.Spec PyProof.Rows L2 Gx KX LamX
section
variable {X : Cx} {W : Wd} {E : XK}
/-! keywords -/
theorem dk_nil : PK X [] (liftA W E dNil) := ⟨fun pos pins s σ H Q I ⟨ρ, n, Φ, Ψ, e, t, k, x⟩ => (pk_nil).run pos pins s σ H Q I (k [] H [] n t e (EB.refl _ _) .nil)⟩
theorem dk_cons {e : Expr} {kws : List Keyword} {nm : Option Str} {kpos : Pos} {ta : TD} {tr : TAD} (ha : PE X e (lift W E ta)) (hr : PK X kws (liftA W E tr)) : PK X (⟨nm, e, kpos⟩ :: kws) (liftA W E (dCons ta tr)) :=
  ⟨fun pos pins s σ H Q I ⟨ρ, n, Φ, Ψ, e, t, k, x⟩ => (pk_cons ha hr).run pos pins s σ H Q I
    ⟨ρ, n, _, Ψ, e, t, fun v H1 d n1 h1 e1 k1 r1 => ⟨ρ, n1, _, Ψ, e1, h1, fun vs H2 ds n2 h2 e2 k2 r2 => k _ H2 _ n2 h2 e2 (k1.trans k2) (.cons (r1.em (e1.eb k2)) r2), x⟩, x⟩⟩
section
variable {k n : Nat} {f : Addr} {fd : FuncData} {ps ks : List Str} {φ : FD} {x : Str} {p pos : Pos} {e : Expr} {es : List Expr} {kws : List Keyword} {ta tk : TAD} {g : List Value → List Value → List Value} {gV : List V → List V → List V} {gD : List D → List D → List D}
/-- how the values of a call with keywords are put, over data -/
def PutR (gV : List V → List V → List V) (gD : List D → List D → List D) : Prop := ∀ (K : PySem.W.Frag) (p : Addr) (M : Addr → Prop) (H : Hp) (vs zs : List V) (ds es : List D), RpL K p M H vs ds → RpL K p M H zs es → RpL K p M H (gV vs zs) (gD ds es)
theorem dx_callK0 (F : FnOk X.prog X.w X.K X.mg X.base (L2.CX X.prog X.w) k f fd ps (spD W.K W.ts ps.length φ)) (hr : Room k X.A) (hg : Gl X x) (hm : X.mg x = some (.ref f)) (hk : PySem.W.keepIn X.K (.ref f) = true) (hb : KBn X.K fd ps 0 ks g gV) (hp : PutR gV gD) (hx : Passes (L2.CX X.prog X.w) X E)
    (hkw : PK X kws (liftA W E tk)) (hall : (backToKw pos (keywordEach kws X.env)).all (·.1.isSome) = true := by rfl) (hks : (backToKw pos (keywordEach kws X.env)).filterMap (·.1) = ks := by rfl)
    (hdb : (x == ("__debug__" : Str)) = false := by decide) 
    (hpl : ((backTo pos (starEach [] X.env)).any (·.1) || (backToKw pos (keywordEach kws X.env)).any (·.1.isNone)) = false := by rfl) :
    PE X (.Call (.Name x p) [] kws pos) (lift W E fun ρ n Φ Ψ => tk ρ n (fun es n2 => es.length = ks.length ∧ (gD [] es).length = ps.length ∧ φ (gD [] es) n2 Φ Ψ) Ψ) :=
  pe_imp (pe_callN0 F hr hg hm hk hb hx hkw hall hks hdb hpl) fun σ H Q ⟨ρ, n, Φ, Ψ, e, t, k, x⟩ =>
    ⟨ρ, n, _, Ψ, e, t, fun vs H1 ds n1 h1 e1 k1 r1 => ⟨r1.length.trans h1.1, sp_read e1 (hp _ _ _ _ _ _ _ _ .nil r1) h1.2.1 h1.2.2 (fun v H' d n' hd e' k' r' => k v H' d n' hd e' (k1.trans k') r') x⟩, x⟩
theorem dx_callK (F : FnOk X.prog X.w X.K X.mg X.base (L2.CX X.prog X.w) k f fd ps (spD W.K W.ts ps.length φ)) (hr : Room k X.A) (hg : Gl X x) (hm : X.mg x = some (.ref f)) (hk : PySem.W.keepIn X.K (.ref f) = true) (hb : KBn X.K fd ps n ks g gV) (hp : PutR gV gD) (hx : Passes (L2.CX X.prog X.w) X E)
    (ha : PA X (e :: es) (liftA W E ta)) (hkw : PK X kws (liftA W E tk)) (hall : (backToKw pos (keywordEach kws X.env)).all (·.1.isSome) = true := by rfl) (hks : (backToKw pos (keywordEach kws X.env)).filterMap (·.1) = ks := by rfl)
    (hdb : (x == ("__debug__" : Str)) = false := by decide) (he : starEach (e :: es) X.env = (false, eval e X.env) :: starEach es X.env := by rfl)
    (hpl : ((backTo pos (starEach (e :: es) X.env)).any (·.1) || (backToKw pos (keywordEach kws X.env)).any (·.1.isNone)) = false := by rfl) :
    PE X (.Call (.Name x p) (e :: es) kws pos) (lift W E fun ρ m Φ Ψ => ta ρ m (fun ds m1 => tk ρ m1 (fun es m2 => ds.length = n ∧ es.length = ks.length ∧ (gD ds es).length = ps.length ∧ φ (gD ds es) m2 Φ Ψ) Ψ) Ψ) :=
  pe_imp (pe_callN F hr hg hm hk hb hx ha hkw hall hks hdb he hpl) fun σ H Q ⟨ρ, m, Φ, Ψ, e, t, k, x⟩ =>
    ⟨ρ, m, _, Ψ, e, t, fun vs H1 ds n1 h1 e1 k1 r1 => ⟨ρ, n1, _, Ψ, e1, h1, fun zs H2 es n2 h2 e2 k2 r2 => ⟨r1.length.trans h2.1, r2.length.trans h2.2.1,
      sp_read e2 (hp _ _ _ _ _ _ _ _ (r1.em (e1.eb k2)) r2) h2.2.2.1 h2.2.2.2 (fun v H' d n' hd e' k' r' => k v H' d n' hd e' ((k1.trans k2).trans k') r') x⟩, x⟩, x⟩
end
/-! dict displays -/
theorem dx_dnew {pos : Pos} : PE X (.Dict [] [] pos) (lift W E (dC (.dct []))) := pe_imp pe_dnewK fun σ H Q ⟨ρ, n, Φ, Ψ, e, t, k, x⟩ => fun p np => by
  have s := new_same np (.dK [])
  exact k _ _ _ n t (e.same s) (EB.same s) (.dct (e.al.fresh np) upd_same .nil)
def keyD : D → Option Key
  | .int i => some (.inl i)
  | .str s => some (.inr s)
  | _ => none
def pairsD : List (TD × TD) → Rho → Nat → (List (Key × D) → Nat → Prop) → XD → Prop
  | [], _, n, Φ, _ => Φ [] n
  | (k, v) :: r, ρ, n, Φ, Ψ => k ρ n (fun x n1 => v ρ n1 (fun y n2 => pairsD r ρ n2 (fun kvs n3 => ∃ q, keyD x = some q ∧ Φ ((q, y) :: kvs) n3) Ψ) Ψ) Ψ
def putKD (kvs : List (Key × D)) (k : Key) (v : D) : List (Key × D) :=
  if (kvs.any fun kv => decide (kv.1 = k)) = true then kvs.map (fun kv => if kv.1 = k then (kv.1, v) else kv) else kvs ++ [(k, v)]
def mergeD (kvs more : List (Key × D)) : List (Key × D) := more.foldl (fun acc kv => putKD acc kv.1 kv.2) kvs
def dDisp (ks : List (TD × TD)) : TD := fun ρ n Φ Ψ => pairsD ks (hideR ρ ρ.length) n (fun kvs n1 => Φ (.dct (mergeD [] kvs)) n1) Ψ
theorem rpk_any {K : PySem.W.Frag} {p : Addr} {M : Addr → Prop} {H : Hp} (k : Key) : ∀ {vs : List (Key × V)} {ds : List (Key × D)}, RpK K p M H vs ds → (vs.any fun kv => decide (kv.1 = k)) = ds.any fun kv => decide (kv.1 = k)
  | _, _, .nil => rfl
  | _, _, .cons h r => by rw [List.any_cons, List.any_cons, rpk_any k r]
theorem rpk_map {K : PySem.W.Frag} {p : Addr} {M : Addr → Prop} {H : Hp} {k : Key} {v : V} {d : D} (q : Rp K p M H v d) : ∀ {vs : List (Key × V)} {ds : List (Key × D)}, RpK K p M H vs ds → RpK K p M H (vs.map fun kv => if kv.1 = k then (kv.1, v) else kv) (ds.map fun kv => if kv.1 = k then (kv.1, d) else kv)
  | _, _, .nil => .nil
  | _, _, .cons (k := j) h r => by
    rw [List.map_cons, List.map_cons]
    by_cases e : j = k
    · simp only [e, if_true]
      exact .cons q (rpk_map q r)
    · simp only [e, if_false]
      exact .cons h (rpk_map q r)
theorem rpk_append {K : PySem.W.Frag} {p : Addr} {M : Addr → Prop} {H : Hp} : ∀ {a b : List (Key × V)} {c d : List (Key × D)}, RpK K p M H a c → RpK K p M H b d → RpK K p M H (a ++ b) (c ++ d)
  | _, _, _, _, .nil, q => q
  | _, _, _, _, .cons h r, q => .cons h (rpk_append r q)
theorem rpk_put {K : PySem.W.Frag} {p : Addr} {M : Addr → Prop} {H : Hp} {k : Key} {v : V} {d : D} (q : Rp K p M H v d) {vs : List (Key × V)} {ds : List (Key × D)} (r : RpK K p M H vs ds) : RpK K p M H (putK vs k v) (putKD ds k d) := by
  unfold putK putKD
  rw [rpk_any k r]
  split
  · exact rpk_map q r
  · exact rpk_append r (.cons q .nil)
theorem rpk_merge {K : PySem.W.Frag} {p : Addr} {M : Addr → Prop} {H : Hp} {b : List (Key × V)} {d : List (Key × D)} (r : RpK K p M H b d) : ∀ {a : List (Key × V)} {c : List (Key × D)}, RpK K p M H a c → RpK K p M H (mergeK a b) (mergeD c d) := by
  induction b generalizing d with
  | nil => cases r; exact fun q => q
  | cons x b ih =>
    cases r with
    | cons h r =>
      intro a c q
      exact ih r (rpk_put h q)
theorem key_rp {K : PySem.W.Frag} {p : Addr} {M : Addr → Prop} {H : Hp} {v : V} {d : D} {q : Key} (r : Rp K p M H v d) (h : keyD d = some q) : v = kV q := by
  cases r <;> cases h <;> rfl
theorem exW_in {ρ : Rho} {n : Nat} {σ : L2.St} {H : Hp} {D : Addr} {o : HO} {Ψ : XD} (e : EnvOk W ρ n σ H) (f : H D = none) (x : ExW W E Ψ) : ExW (W.in (Mu W ρ σ) D (upd H D o)) E Ψ := fun er n cls dd H' h em pa ta r =>
  x er n cls dd H' h (fun b u nb hb tb => em b u (fun z => z.elim (fun z => nb (z ▸ e.cp)) fun z => by
    have := e.base b u nb hb tb
    rw [z, f] at this
    cases this) (by
      have q := e.base b u nb hb tb
      show upd H D o b = some u
      rw [upd_ne (fun z => by rw [z, f] at q; cases q)]
      exact q) tb) pa ta ⟨r.1, r.2.elim .inl fun ⟨d, fv, q1, q2, q3⟩ => .inr ⟨d, fv, q1, q2, q3.1.less (fun b mb => .inl (.inl mb)), fun z => q3.2 (.inl (.inl z))⟩⟩
theorem no_mu {W : Wd} {ρ : Rho} {j : Nat} {σ : L2.St} (b : Addr) : Mu W (hideR ρ j) σ b ↔ W.M b := ⟨fun m => m.elim id fun ⟨i, o, q, _⟩ => (hide_own q).elim, .inl⟩
theorem pairs_read {W' : Wd} {ρ : Rho} {j : Nat} {σ : L2.St} {Ψ : XD} {D : Addr} (x : ExW W' E Ψ) (hD : D ≠ W'.p) : ∀ {tds : List (TD × TD)} {n : Nat} {H : Hp} {Φ : List (Key × DL.D) → Nat → Prop} {R : List (V × V) → Hp → Prop} (e : EnvOk W' (hideR ρ j) n σ H) (hd : H D = some (.dK []))
    (t : pairsD tds (hideR ρ j) n Φ Ψ) (k : ∀ (kvs : List (Key × V)) H' ds n', Φ ds n' → EnvOk W' (hideR ρ j) n' σ H' → EB W'.p H H' → RpK W'.K W'.p W'.M H' kvs ds → kvs.length = tds.length → R (kvs.map fun kv => (kV kv.1, kv.2)) H'),
    tPairs (tds.map fun p => (lift W' E p.1, lift W' E p.2)) σ H R
  | [], n, H, Φ, R, e, hd, t, k => k [] H [] n t e (EB.refl _ _) .nil rfl
  | (tk, tv) :: r, n, H, Φ, R, e, hd, t, k => ⟨_, n, _, Ψ, e, t, fun v H1 d n1 h1 e1 k1 r1 => ⟨_, n1, _, Ψ, e1, h1, fun u H2 c n2 h2 e2 k2 r2 =>
      pairs_read x hD (R := fun ps H3 => R ((v, u) :: ps) H3) e2 (k2 D _ hD (k1 D _ hD hd (by intro ps z; cases z)) (by intro ps z; cases z)) h2 fun kvs H3 ds n3 h3 e3 k3 r3 ln => by
        obtain ⟨q, hq, h3⟩ := h3
        have r1' := r1.em ((e1.eb k2).trans (e2.eb k3))
        have ev := key_rp r1' hq
        subst ev
        exact k ((q, u) :: kvs) H3 ((q, c) :: ds) n3 h3 e3 ((k1.trans k2).trans k3) (.cons ((r2.em (e2.eb k3)).less fun b m => (no_mu b).mpr m) r3) (by rw [List.length_cons, List.length_cons, ln]), x⟩, x⟩
/-- at any such world -/
def liftAny (W : Wd) (E : XK) (τ : TD) : TE := fun σ H Q => ∃ W' : Wd, W'.K = W.K ∧ W'.ts = W.ts ∧ lift W' E τ σ H Q
theorem pe_any {e : Expr} {τ : TD} (h : ∀ W' : Wd, W'.K = W.K → W'.ts = W.ts → PE X e (lift W' E τ)) : PE X e (liftAny W E τ) := ⟨fun pins s σ H Q I ⟨W', h1, h2, h3⟩ => (h W' h1 h2).run pins s σ H Q I h3⟩
theorem pairs_any {W' : Wd} (h1 : W'.K = W.K) (h2 : W'.ts = W.ts) : ∀ {tds : List (TD × TD)} {σ : L2.St} {H : Hp} {R : List (V × V) → Hp → Prop}, tPairs (tds.map fun p => (lift W' E p.1, lift W' E p.2)) σ H R → tPairs (tds.map fun p => (liftAny W E p.1, liftAny W E p.2)) σ H R
  | [], _, _, _, t => t
  | _ :: _, _, _, _, ⟨ρ, n, Φ, Ψ, e, t, k, x⟩ => ⟨W', h1, h2, ρ, n, Φ, Ψ, e, t, fun v H' d n' g1 g2 g3 g4 => by
      obtain ⟨ρ, n, Φ, Ψ, e, t, k, x⟩ := k v H' d n' g1 g2 g3 g4
      exact ⟨W', h1, h2, ρ, n, Φ, Ψ, e, t, fun v H' d n' g1 g2 g3 g4 => pairs_any h1 h2 (k v H' d n' g1 g2 g3 g4), x⟩, x⟩
abbrev DPs (X : Cx) (W : Wd) (E : XK) (pos : Pos) (keys : List (Option Expr)) (values : List Expr) (tds : List (TD × TD)) : Prop := PPs X pos keys values (tds.map fun p => (liftAny W E p.1, liftAny W E p.2))
theorem dps_nil {pos : Pos} : DPs X W E pos [] [] [] := pps_nil
theorem dps_cons {pos : Pos} {k v : Expr} {ks : List (Option Expr)} {vs : List Expr} {tk tv : TD} {tds : List (TD × TD)} (hk : ∀ W' : Wd, W'.K = W.K → W'.ts = W.ts → PE X k (lift W' E tk)) (hv : ∀ W' : Wd, W'.K = W.K → W'.ts = W.ts → PE X v (lift W' E tv))
    (hr : DPs X W E pos ks vs tds) : DPs X W E pos (some k :: ks) (v :: vs) ((tk, tv) :: tds) := pps_cons (pe_any hk) (pe_any hv) hr
theorem dx_disp {keys : List (Option Expr)} {values : List Expr} {pos : Pos} {tds : List (TD × TD)}
    (h : DPs X W E pos keys values tds) (hall : keys.all (·.isSome) = true) (hl2 : keys.length = values.length) (h0 : keys ≠ [])
    (h15 : keys.length ≤ 15) (h16 : tds.length ≤ 15) : PE X (.Dict keys values pos) (lift W E (dDisp tds)) :=
  pe_imp (pe_disp h hall hl2 h0 h15) fun σ H Q ⟨ρ, n, Φ, Ψ, e, t, k, x⟩ => fun p np => by
    have nM : ¬ Mu W ρ σ p := e.al.fresh np
    have pD : p ≠ W.p := fun z => nM (z ▸ e.mup)
    have qD : p ≠ W.q := fun z => nM (z ▸ .inl e.mq)
    have sD := new_same np (.dK [])
    have ws : wipe σ [ρ.length] = σ := by
      show (σ.set ρ.length none) = σ
      rw [e.len, List.set_eq_of_length_le (Nat.le_refl _)]
    have eW := inner_ok (j := ρ.length) (o := .dK []) e np (by intro ps z; cases z)
    rw [ws] at eW
    refine pairs_any (W' := W.in (Mu W ρ σ) p (upd H p (.dK []))) rfl rfl (pairs_read (exW_in e np x) pD eW upd_same t fun kvs H2 ds n2 h2 e2 k2 r2 ln => ?_)
    have hp2 : H2 p = some (.dK []) := k2 p _ pD upd_same (by intro ps z; cases z)
    refine ⟨hp2, kvs, rfl, by rw [ln]; exact h16, ?_⟩
    have eb : EB W.p H (upd H2 p (.dK (mergeK [] kvs))) := fun b o nb hb tb => by
      have nb2 : b ≠ p := fun z => by rw [z, np] at hb; cases hb
      rw [upd_ne nb2]
      exact k2 b o nb (sD _ _ hb) tb
    have pen2 : PenAt (upd H2 p (.dK (mergeK [] kvs))) W.p W.q n2 := by
      obtain ⟨ns, a, r, p1, p2, p3, p4⟩ := e2.pen
      exact ⟨ns, a, r, by rw [upd_ne (fun z => pD z.symm)]; exact p1, p2, by rw [upd_ne (fun z => qD z.symm)]; exact p3, p4⟩
    have tab2 : Tabs W.ts (upd H2 p (.dK (mergeK [] kvs))) := fun pq hp => by
      obtain ⟨ps, g1, g2, g3⟩ := e2.tab pq hp
      refine ⟨ps, by rw [upd_ne (fun z => by rw [z, hp2] at g1; cases g1)]; exact g1, g2, fun pos cv hc => ?_⟩
      obtain ⟨d, e1, e2⟩ := g3 pos cv hc
      refine ⟨d, e1, ?_⟩
      rw [upd_ne (fun z => ?_)]
      · exact e2
      · rw [z] at e2
        unfold CodeO at e2
        rw [hp2] at e2
        cases e2
    refine k _ _ _ n2 h2 (e.step eb pen2 tab2) eb (.dct nM upd_same ?_)
    exact rpk_merge ((r2.em (EM.upd (M := (W.in (Mu W ρ σ) p (upd H p (.dK []))).M) (.inr rfl))).less fun b mb => .inl mb) .nil
end
end DL
namespace DL
open PySem PySem.Spec PyProof.Rows L2 Gx KX LamX
/-! ### defs with stars -/
/-- promises by positional values, of any number -/
def spR (K : PySem.W.Frag) (ts : List (Addr × Str)) (φ : FD) : Sp := fun vs H Q E => ∃ m, spD K ts m φ vs H Q E
def spIR (K : PySem.W.Frag) (ts : List (Addr × Str)) (c : Str) (φ : FD) : Sp := fun vs H Q E => ∃ m, spI K ts m c φ vs H Q E
/-- m parameters, then what is left over as a tuple -/
def restD (m : Nat) (φ : FD) : FD := fun ds n Φ Ψ => m ≤ ds.length ∧ ds.length ≤ sizeLine ∧ φ (ds.take m ++ [.tup (ds.drop m)]) n Φ Ψ
section
variable {P : Program} {w : World} {K : PySem.W.Frag} {mg : Str → Option Value} {base : Heap} {ts : List (Addr × Str)}
theorem at_w {X : Cx} {W : Wd} {k : Nat} {f : Addr} {fd : FuncData} {ps : List Str} {m : Nat} {φ : FD} {CX : CXT} (hK : X.K = W.K) (ht : W.ts = ts) (F : FnOk X.prog X.w X.K X.mg X.base CX k f fd ps (spD X.K ts m φ)) : FnOk X.prog X.w X.K X.mg X.base CX k f fd ps (spD W.K W.ts m φ) := by
  rw [← hK, ht]; exact F
theorem at_g {X : Cx} {W : Wd} {k : Nat} {f : Addr} {fd : FuncData} {ps : List Str} {m : Nat} {φ : FD} {CX : CXT} (hK : X.K = W.K) (ht : W.ts = ts) (F : FnG X.prog X.w X.K X.mg X.base CX k f fd ps (spD X.K ts m φ)) : FnG X.prog X.w X.K X.mg X.base CX k f fd ps (spD W.K W.ts m φ) := by
  rw [← hK, ht]; exact F
theorem at_i {X : Cx} {W : Wd} {k : Nat} {f : Addr} {fd : FuncData} {ps : List Str} {m : Nat} {c : Str} {φ : FD} {CX : CXT} (hK : X.K = W.K) (ht : W.ts = ts) (F : FnOk X.prog X.w X.K X.mg X.base CX k f fd ps (spI X.K ts m c φ)) : FnOk X.prog X.w X.K X.mg X.base CX k f fd ps (spI W.K W.ts m c φ) := by
  rw [← hK, ht]; exact F
theorem at_r {X : Cx} {W : Wd} {k : Nat} {f : Addr} {φ : FD} {CX : CXT} (hK : X.K = W.K) (ht : W.ts = ts) (F : FnR X.prog X.w X.K X.mg X.base CX k f (spR X.K ts φ)) : FnR X.prog X.w X.K X.mg X.base CX k f (spR W.K W.ts φ) := by
  rw [← hK, ht]; exact F
theorem at_ir {X : Cx} {W : Wd} {k : Nat} {f : Addr} {c : Str} {φ : FD} {CX : CXT} (hK : X.K = W.K) (ht : W.ts = ts) (F : FnR X.prog X.w X.K X.mg X.base CX k f (spIR X.K ts c φ)) : FnR X.prog X.w X.K X.mg X.base CX k f (spIR W.K W.ts c φ) := by
  rw [← hK, ht]; exact F
theorem rpl_split {p : Addr} {M : Addr → Prop} {H : Hp} {vs : List V} {ds : List D} (m : Nat) (h : m ≤ ds.length) (r : RpL K p M H vs ds) : vs = vs.take m ++ vs.drop m ∧ (vs.take m).length = m :=
  ⟨(List.take_append_drop m vs).symm, by rw [List.length_take, r.length]; omega⟩
/-- f(a, .., *v) -/
theorem fn_starD {x qual : Str} {params : Arguments} {body : List Stmt} {scope : Scope} {f : Addr} {fd : FuncData} {N ps : List Str} {pv : Str} {k : Nat} {τ : TSD}
    (F : FunD K x qual params body scope [] [] f fd) (S : FnScope N (ps ++ [pv]) scope)
    (bnd : ∀ (kV doc pm : Value) (an : Option Addr) (cdv ct : Value) (us rest : List Value), us.length = ps.length → bindArgs (PySem.W.fnOf x qual params body scope .none kV doc pm an cdv ct) ⟨us ++ rest, []⟩ = (newTuple rest >>= fun t => pure (ps.zip us ++ [(pv, t)])))
    (hb : ∀ (cdv : Value) (A : Around) (outer : List Env) (s : Shared) (H : Hp) (E : XK) (W : Wd), W.K = K → W.ts = ts → Room k (A.deeper (envOfC qual scope s.heap.objs.size f cdv)) →
      PSs (cxOf (L2.CX P w) P w K mg base N qual scope f cdv A outer s H E) body (liftS W E τ)) :
    FnR P w K mg base (L2.CX P w) (k + 1) f (spR K ts (restD ps.length (fnD N.length τ))) := by
  obtain ⟨oc, od, dV, kV, doc, pm, an, cdv, ct, osl, rfl, lk, hcd, hD, hK⟩ := F.ex
  rcases hD with ⟨_, rfl⟩ | ⟨e, _⟩
  case inr => exact absurd rfl e
  refine (StX.fn_star (sp := spD K ts (ps ++ [pv]).length (fnD N.length τ)) lk hcd S StX.cxUp (bnd kV doc pm an cdv ct) fun A outer s H vs Q E hr ⟨p, q, M, ds, n, Φ, Ψ, h1, h2, h3, h4, h5, h6, h7, h8, h9, h10⟩ =>
    ⟨_, hb cdv A outer s H E ⟨K, p, q, ts, M, (· = p), H⟩ rfl rfl hr, _, n, _, start_ok h1 h2 h3 S.pre h4 h5 h6 h7, h8, ends_ok h9 h10⟩).imp ?_
  rintro vs H Q E ⟨m, p, q, M, ds, n, Φ, Ψ, h1, h2, h3, h4, h5, h6, h7, ⟨h8, h8s, h8f⟩, h9, h10⟩
  obtain ⟨ev, el⟩ := rpl_split ps.length h8 h5
  refine ⟨_, _, ev, el, by rw [List.length_drop, h5.length]; omega, fun a na => ?_⟩
  have s := new_same na (.tup (vs.drop ps.length))
  have r1 := h5.em (EM.same s)
  refine ⟨p, q, M, _, n, Φ, Ψ, h1, h2, fun b mb => (h3 b mb).imp fun o z => ⟨s _ _ z.1, z.2⟩, ?_, (r1.take ps.length).append (.cons (.tup (h3.fresh na) upd_same (r1.drop ps.length)) .nil), h6.same s, h7.ext s, h8f, fun v H' d n' hd eb pa ta rp => h9 v H' d n' hd ((EB.same s).trans eb) pa ta rp, fun er n' cls dd H' he eb pa ta r => h10 er n' cls dd H' he ((EB.same s).trans eb) pa ta r⟩
  rw [List.length_append, List.length_take, List.length_append]
  simp only [List.length_cons, List.length_nil]
  omega
theorem upd_comm {H : Hp} {a b : Addr} {x y : HO} (h : a ≠ b) : upd (upd H a x) b y = upd (upd H b y) a x := by
  funext c
  by_cases hb : c = b
  · subst hb
    rw [upd_same, upd_ne (fun z => h z.symm), upd_same]
  · rw [upd_ne hb]
    by_cases ha : c = a
    · subst ha
      rw [upd_same, upd_same]
    · rw [upd_ne ha, upd_ne ha, upd_ne hb]
theorem init_read {X : Cx} {body : List Stmt} {N ps : List Str} {c : Str} {τ : TSD} {E : XK} {vs : List V} {H : Hp} {Q : VK} (pre : N.take ps.length = ps) (hb : ∀ W : Wd, W.K = K → W.ts = ts → PSs X body (liftS W E τ)) (hs : spI K ts ps.length c (inD' N.length c τ) vs H Q E) :
    ∃ t, PSs X body t ∧ t { nx := fun _ H' => Q .non H', rt := Q } (L2.start N vs) H := by
  obtain ⟨p, q, M, H0, x, dx, ws, ds, n, Φ, Ψ, h1, h2, h3, hx, hdx, hne, hH, hv, h4, h5, h6, h7, h8, h9, h10⟩ := hs
  subst hH
  subst hv
  have e0 := initStart_ok (K := K) (ts := ts) (c := c) h1 h2 h3 hx hdx hne pre h4 h5 h6 h7
  refine ⟨_, hb ⟨K, p, q, ts, M, (· = p), H0⟩ rfl rfl, _, n, _, e0, h8, ⟨fun σ' H' ρ' n' h e r => ?_, fun _ _ _ _ h _ _ => h.elim, fun _ _ _ _ h _ _ => h.elim, fun v H' d n' h _ _ _ _ => h.elim, fun er n' cls dd H' h eb pa ta r => h10 er n' cls dd H' h (em_eb eb) pa ta r⟩⟩
  obtain ⟨fs, g1, g2⟩ := h
  obtain ⟨a, q1, ⟨dx', fv, q2, q3⟩, q4, q5⟩ := e.ow 0 _ g1
  obtain ⟨_, q6⟩ := r.ins 0 _ _ g1
  have ax : some (some (V.ref a)) = some (some (V.ref x)) := by
    rw [← q1, q6]
    have : L2.start N (.ref x :: ws) = some (V.ref x) :: (ws.map some ++ List.replicate (N.length - (ws.length + 1)) none) := by
      unfold L2.start
      rw [List.map_cons, List.cons_append, List.length_cons]
    rw [this]
    rfl
  cases ax
  refine h9 H' _ n' g2 (em_eb e.base) e.pen e.tab ?_
  have na : ¬ M x := fun m => by
    obtain ⟨o, z, _⟩ := h3 x m
    rw [hx] at z
    cases z
  exact .ob na q2 (q3.less fun b m => .inl m)
/-- __init__(self, a, .., *v) -/
theorem in_starD {x qual : Str} {params : Arguments} {body : List Stmt} {scope : Scope} {f : Addr} {fd : FuncData} {N ps : List Str} {pv s0 : Str} {k : Nat} {c : Str} {τ : TSD}
    (F : FunD K x qual params body scope [] [] f fd) (S : FnScope N ((s0 :: ps) ++ [pv]) scope)
    (bnd : ∀ (kV doc pm : Value) (an : Option Addr) (cdv ct : Value) (us rest : List Value), us.length = (s0 :: ps).length → bindArgs (PySem.W.fnOf x qual params body scope .none kV doc pm an cdv ct) ⟨us ++ rest, []⟩ = (newTuple rest >>= fun t => pure ((s0 :: ps).zip us ++ [(pv, t)])))
    (hb : ∀ (cdv : Value) (A : Around) (outer : List Env) (s : Shared) (H : Hp) (E : XK) (W : Wd), W.K = K → W.ts = ts → Room k (A.deeper (envOfC qual scope s.heap.objs.size f cdv)) →
      PSs (cxOf (L2.CX P w) P w K mg base N qual scope f cdv A outer s H E) body (liftS W E τ)) :
    FnR P w K mg base (L2.CX P w) (k + 1) f (spIR K ts c (restD ps.length (inD' N.length c τ))) := by
  obtain ⟨oc, od, dV, kV, doc, pm, an, cdv, ct, osl, rfl, lk, hcd, hD, hK⟩ := F.ex
  rcases hD with ⟨_, rfl⟩ | ⟨e, _⟩
  case inr => exact absurd rfl e
  refine (StX.fn_star (sp := spI K ts ((s0 :: ps) ++ [pv]).length c (inD' N.length c τ)) lk hcd S StX.cxUp (bnd kV doc pm an cdv ct) fun A outer s H vs Q E hr hs => init_read S.pre (fun W h1 h2 => hb cdv A outer s H E W h1 h2 hr) hs).imp ?_
  rintro vs H Q E ⟨m, p, q, M, H0, x, dx, ws, ds, n, Φ, Ψ, h1, h2, h3, hx, hdx, hne, hH, hv, h4, h5, h6, h7, ⟨h8, h8s, h8f⟩, h9, h10⟩
  subst hH
  subst hv
  obtain ⟨ev, el⟩ := rpl_split ps.length h8 h5
  refine ⟨.ref x :: ws.take ps.length, ws.drop ps.length, by rw [List.cons_append, ← ev], by rw [List.length_cons, List.length_cons, el], by rw [List.length_drop, h5.length]; omega, fun a na => ?_⟩
  have nax : x ≠ a := fun z => by subst z; rw [upd_same] at na; cases na
  have nad : dx ≠ a := fun z => by subst z; rw [upd_ne hne, upd_same] at na; cases na
  have na0 : H0 a = none := by rw [upd_ne (fun z => nax z.symm), upd_ne (fun z => nad z.symm)] at na; exact na
  have s := new_same na0 (.tup (ws.drop ps.length))
  have r1 := h5.em (EM.same s)
  refine ⟨p, q, M, upd H0 a (.tup (ws.drop ps.length)), x, dx, ws.take ps.length ++ [V.ref a], _, n, Φ, Ψ, h1, h2, fun b mb => (h3 b mb).imp fun o z => ⟨s _ _ z.1, z.2⟩, by rw [upd_ne nax]; exact hx, by rw [upd_ne nad]; exact hdx, hne, ?_, rfl, ?_,
    (r1.take ps.length).append (.cons (.tup (h3.fresh na0) upd_same (r1.drop ps.length)) .nil), h6.same s, h7.ext s, h8f, fun H' d n' hd eb pa ta rp => h9 H' d n' hd ((EB.same s).trans eb) pa ta rp, fun er n' cls dd H' he eb pa ta r => h10 er n' cls dd H' he ((EB.same s).trans eb) pa ta r⟩
  · rw [upd_comm nax, upd_comm nad]
  · simp only [List.length_append, List.length_take, List.length_cons, List.length_nil]
    omega
end

/-! the calls -/
def dR (φ : FD) (a : TAD) : TD := fun ρ n Φ Ψ => a ρ n (fun ds n1 => φ ds n1 Φ Ψ) Ψ
section
variable {X : Cx} {W : Wd} {E : XK} {k : Nat} {f : Addr} {φ : FD} {x c : Str} {p pos sp_ : Pos} {e : Expr} {es : List Expr} {ta : TAD} {te : TD}
theorem dx_callR (F : FnR X.prog X.w X.K X.mg X.base (L2.CX X.prog X.w) k f (spR W.K W.ts φ)) (hr : Room k X.A) (hg : Gl X x) (hm : X.mg x = some (.ref f)) (hk : PySem.W.keepIn X.K (.ref f) = true) (hx : Passes (L2.CX X.prog X.w) X E) (ha : PA X (e :: es) (liftA W E ta))
    (hd : (x == ("__debug__" : Str)) = false := by decide) (he : starEach (e :: es) X.env = (false, eval e X.env) :: starEach es X.env := by rfl) (hpl : (backTo pos (starEach es X.env)).any (·.1) = false := by rfl) :
    PE X (.Call (.Name x p) (e :: es) [] pos) (lift W E (dR φ ta)) := by
  have h : PE X (.Call (.Name x p) (e :: es) [] pos) (fun σ H Q => liftA W E ta σ H fun vs H1 => spR W.K W.ts φ vs H1 Q E) := by
    refine ⟨fun pins s σ H Q I h => ?_⟩
    refine wpAny_Call_Name_kw (ld_glob I hg hm ?_ hd)
    refine PySem.W.callWith_K (h₀ := X.base) I.ok.mod.kin hk (thn (ha.run pos pins s σ H _ I h) fun us s1 ⟨vs, H1, I1, r, q⟩ => ⟨I1.kIn, ?_⟩) he hpl
    exact wpAny_call (run_fnR F hr hx I1 r q)
  exact pe_imp h fun σ H Q ⟨ρ, n, Φ, Ψ, e, t, k, x⟩ => ⟨ρ, n, _, Ψ, e, t, fun vs H1 ds n1 h1 e1 k1 r1 => ⟨_, sp_read e1 r1 rfl h1 (fun v H' d n' hd e' k' r' => k v H' d n' hd e' (k1.trans k') r') x⟩, x⟩
/-- x(*y) -/
theorem dx_callS (hK : X.K = W.K) (F : FnR X.prog X.w X.K X.mg X.base (L2.CX X.prog X.w) k f (spR W.K W.ts φ)) (hr : Room k X.A) (hg : Gl X x) (hm : X.mg x = some (.ref f)) (hk : PySem.W.keepIn X.K (.ref f) = true) (hx : Passes (L2.CX X.prog X.w) X E) (he : PE X e (lift W E te))
    (hd : (x == ("__debug__" : Str)) = false := by decide) (hst : starEach [.Starred e sp_] X.env = [(true, eval e X.env)] := by rfl) :
    PE X (.Call (.Name x p) [.Starred e sp_] [] pos) (lift W E fun ρ n Φ Ψ => te ρ n (fun y n1 => ∃ ds, (y = .tup ds ∨ y = .lst ds) ∧ φ ds n1 Φ Ψ) Ψ) :=
  pe_imp (StX.pe_callS1 F hr hk hg hm hx he hd hst) fun σ H Q ⟨ρ, n, Φ, Ψ, e, t, k, x⟩ => ⟨ρ, n, _, Ψ, e, t, fun v H1 d n1 h1 e1 k1 r1 => by
    obtain ⟨ds, hd, h1⟩ := h1
    have go : ∀ vs, RpL W.K W.p (Mu W ρ σ) H1 vs ds → spR W.K W.ts φ vs H1 Q E := fun vs r => ⟨_, sp_read e1 r rfl h1 (fun v H' d n' hd e' k' r' => k v H' d n' hd e' (k1.trans k') r') x⟩
    rcases hd with rfl | rfl
    · cases r1 with
      | tup n h r => exact ⟨_, _, rfl, .inl (SqT.of h), go _ r⟩
      | tupS h r => exact ⟨_, _, rfl, .inl (hK ▸ h _), go _ r⟩
    · cases r1 with
      | lst n h r => exact ⟨_, _, rfl, .inr (SqL.of h), go _ r⟩, x⟩
theorem makeR_read {ρ : Rho} {n : Nat} {σ : L2.St} {H1 : Hp} {Φ : KD} {Ψ : XD} {Q : VK} {vs : List V} {ds : List D} (e1 : EnvOk W ρ n σ H1) (r1 : RpL W.K W.p (Mu W ρ σ) H1 vs ds) (h1 : φ ds n Φ Ψ)
    (k : ∀ v H' d n', Φ d n' → EnvOk W ρ n' σ H' → EB W.p H1 H' → Rp W.K W.p (Mu W ρ σ) H' v d → Q v H') (x : ExW W E Ψ) :
    ∀ y dx, H1 y = Option.none → H1 dx = Option.none → dx ≠ y → spIR W.K W.ts c φ (V.ref y :: vs) (upd (upd H1 dx (.own y)) y (.ins (He.ga W.K c) dx [])) (fun v H2 => v = .non ∧ Q (.ref y) H2) E := fun y dx ny nd ne =>
  ⟨ds.length + 1, W.p, W.q, Mu W ρ σ, H1, y, dx, vs, ds, n, Φ, Ψ, e1.mup, .inl e1.mq, e1.al, ny, nd, ne, rfl, rfl, rfl, r1, e1.pen, e1.tab, h1,
    fun H' d n' hd eb pa ta rp => ⟨rfl, k _ H' d n' hd (e1.step eb pa ta) eb rp⟩,
    fun er n' cls dd H' he eb pa ta ⟨r1, r2⟩ => x er n' cls dd H' he (e1.base.trans (EM.eb eb e1.cp)) pa ta ⟨r1, r2.elim .inl fun ⟨d, fv, q1, q2, q3⟩ => .inr ⟨d, fv, q1, q2, q3.1.less (fun b mb => .inl mb), fun z => q3.2 (.inl z)⟩⟩⟩
theorem dx_makeR (M : Mk X.K (He.ga W.K c) f) (F : FnR X.prog X.w X.K X.mg X.base (L2.CX X.prog X.w) k f (spIR W.K W.ts c φ)) (hr : Room (k + 1) X.A) (hg : Gl X x) (hm : X.mg x = some (.ref (He.ga W.K c))) (hx : Passes (L2.CX X.prog X.w) X E) (ha : PA X (e :: es) (liftA W E ta))
    (hd : (x == ("__debug__" : Str)) = false := by decide) (he : starEach (e :: es) X.env = (false, eval e X.env) :: starEach es X.env := by rfl) (hpl : (backTo pos (starEach es X.env)).any (·.1) = false := by rfl) :
    PE X (.Call (.Name x p) (e :: es) [] pos) (lift W E (dR φ ta)) :=
  pe_imp (StX.pe_makeR M F hr hg hm hx ha hd he hpl) fun σ H Q ⟨ρ, n, Φ, Ψ, e, t, k, x⟩ => ⟨ρ, n, _, Ψ, e, t, fun vs H1 ds n1 h1 e1 k1 r1 => makeR_read e1 r1 h1 (fun v H' d n' hd e' k' r' => k v H' d n' hd e' (k1.trans k') r') x, x⟩
/-- C(*y) -/
theorem dx_makeS (hK : X.K = W.K) (M : Mk X.K (He.ga W.K c) f) (F : FnR X.prog X.w X.K X.mg X.base (L2.CX X.prog X.w) k f (spIR W.K W.ts c φ)) (hr : Room (k + 1) X.A) (hg : Gl X x) (hm : X.mg x = some (.ref (He.ga W.K c))) (hx : Passes (L2.CX X.prog X.w) X E) (he : PE X e (lift W E te))
    (hd : (x == ("__debug__" : Str)) = false := by decide) (hst : starEach [.Starred e sp_] X.env = [(true, eval e X.env)] := by rfl) :
    PE X (.Call (.Name x p) [.Starred e sp_] [] pos) (lift W E fun ρ n Φ Ψ => te ρ n (fun y n1 => ∃ ds, (y = .tup ds ∨ y = .lst ds) ∧ φ ds n1 Φ Ψ) Ψ) := by
  have h : PE X (.Call (.Name x p) [.Starred e sp_] [] pos) (fun σ H Q => lift W E te σ H fun y H1 => ∃ a xs, y = V.ref a ∧ (SqT X.K H1 a xs ∨ SqL X.K H1 a xs) ∧ ∀ y dx, H1 y = Option.none → H1 dx = Option.none → dx ≠ y → spIR W.K W.ts c φ (V.ref y :: xs) (upd (upd H1 dx (.own y)) y (.ins (He.ga W.K c) dx [])) (fun v H2 => v = .non ∧ Q (.ref y) H2) E) := by
    refine ⟨fun pins s σ H Q I h => ?_⟩
    refine wpAny_Call_Name_kw (ld_glob I hg hm ?_ hd)
    refine PySem.W.callWith_S (h₀ := X.base) I.ok.mod.kin M.kp (thn (he.run pins s σ H _ I h) fun v s1 ⟨y, H1, I1, ry, a, xs, ey, hxs, q⟩ => ?_) hst
    subst ey
    obtain rfl : v = Value.ref a := ry
    exact StX.star_any I1 hxs fun us s2 I2 rv => ⟨I2.kIn, StX.run_makeR M F hr hx I2 rv q⟩
  refine pe_imp h fun σ H Q ⟨ρ, n, Φ, Ψ, e, t, k, x⟩ => ⟨ρ, n, _, Ψ, e, t, fun v H1 d n1 h1 e1 k1 r1 => ?_, x⟩
  obtain ⟨ds, hd, h1⟩ := h1
  have go := fun vs (r : RpL W.K W.p (Mu W ρ σ) H1 vs ds) => makeR_read (c := c) (Q := Q) (E := E) e1 r h1 (fun v H' d n' hd e' k' r' => k v H' d n' hd e' (k1.trans k') r') x
  rcases hd with rfl | rfl
  · cases r1 with
    | tup n h r => exact ⟨_, _, rfl, .inl (SqT.of h), go _ r⟩
    | tupS h r => exact ⟨_, _, rfl, .inl (hK ▸ h _), go _ r⟩
  · cases r1 with
    | lst n h r => exact ⟨_, _, rfl, .inr (SqL.of h), go _ r⟩
end
end DL
namespace DL
open PySem PySem.Spec PyProof.Rows L2 Gx KX LamX
/-! isinstance of built-in and own classes, as functions over data -/
def D.tn : D → Option String
  | .non => some "NoneType" | .bl _ => some "bool" | .int _ => some "int" | .str _ => some "str" | .tup _ => some "tuple" | .lst _ => some "list" | .dct _ => some "dict"
  | _ => none
def kitT (a b : String) : Bool := a == b || (a == "bool" && b == "int")
/-- isinstance(d, T), T built-in; cs: own classes below none of these -/
def isB (T : String) (cs : List Str) : D → Option Bool
  | .ob c _ => if cs.contains c then some false else none
  | d => d.tn.map fun a => kitT a T
/-- isinstance(d, C), C an own class; cs: own classes and whether they are below C -/
def isC (cs es : List (Str × Bool)) : D → Option Bool
  | .ob c _ => cs.lookup c
  | .er c _ => es.lookup c
  | d => d.tn.map fun _ => false
theorem kitT_ok {T : String} (h : T = "int" ∨ T = "bool" ∨ T = "str" ∨ T = "tuple" ∨ T = "list" ∨ T = "dict") {K : PySem.W.Frag} : ∀ {d : D} {a : String}, d.tn = some a → d.tag K = .type a ∧ PySem.W.kitOne K (.type a) (.type T) = some (kitT a T) ∧ (∀ c fs, d ≠ .ob c fs) ∧ (∀ c, d ≠ .cl c) ∧ d ≠ .pen ∧ (∀ a, d ≠ .fn a) ∧ ∀ c fs, d ≠ .er c fs := by
  intro d a e
  have key : PySem.W.kitOne K (.type a) (.type T) = some (kitT a T) := by
    rcases h with rfl | rfl | rfl | rfl | rfl | rfl <;> cases d <;> cases e <;> exact kit_ty (by decide +kernel)
  refine ⟨by cases d <;> cases e <;> rfl, key, ?_, ?_, ?_, ?_, ?_⟩ <;> cases d <;> cases e <;> simp
section
variable {X : Cx} {W : Wd} {E : XK}
theorem dx_isB {T : String} {cs : List Str} (hK : X.K = W.K) {e : Expr} {x : Str} {p q pos : Pos} {ta : TD} (hcs : ∀ c ∈ cs, PySem.W.kitOne X.K (.ref (He.ga X.K c)) (.type T) = some false ∧ ClsJ X.K (He.ga X.K c))
    (hg : Gl X "isinstance") (hm : X.mg "isinstance" = none) (ha : PE X e (lift W E ta)) (hcl : PE X (.Name x q) (tC (.ty T)))
    (he : starEach [e, .Name x q] X.env = (false, eval e X.env) :: starEach [.Name x q] X.env := by rfl) (hpl : (backTo pos (starEach [.Name x q] X.env)).any (·.1) = false := by rfl) (he2 : starEach [.Name x q] X.env = (false, eval (.Name x q) X.env) :: starEach [] X.env := by rfl)
    (hT : T = "int" ∨ T = "bool" ∨ T = "str" ∨ T = "tuple" ∨ T = "list" ∨ T = "dict" := by simp) :
    PE X (.Call (.Name "isinstance" p) [e, .Name x q] [] pos) (lift W E (isiD (isB T cs) ta)) := by
  refine dx_isi hK hg hm ha hcl (.ty T) (fun d b h => ?_) he hpl he2
  have base : ∀ {d : D}, (d.tn.map fun a => kitT a T) = some b → PySem.W.kitOne X.K (d.tag X.K) (.type T) = some b ∧ (∀ c fs, d = .ob c fs → ClsJ X.K (He.ga X.K c)) ∧ (∀ c, d ≠ .cl c) ∧ d ≠ .pen ∧ (∀ a, d ≠ .fn a) ∧ ∀ c fs, d = .er c fs → ExcC X.K (He.ga X.K c) := fun {d} h => by
    cases e : d.tn with
    | none => rw [e] at h; cases h
    | some a =>
      rw [e] at h
      obtain ⟨h1, h2, h3, h4, h5, h7, h6⟩ := kitT_ok hT (K := X.K) e
      exact ⟨by rw [h1, h2]; exact h, fun c fs z => (h3 c fs z).elim, h4, h5, h7, fun c fs z => (h6 c fs z).elim⟩
  cases d with
  | ob c fs =>
    have h' : (if cs.contains c then some false else none) = some b := h
    split at h'
    · rename_i hc
      cases h'
      obtain ⟨g1, g2⟩ := hcs c (by simpa using hc)
      exact ⟨g1, (fun c' fs' z => by cases z; exact g2), (fun _ z => nomatch z), (fun z => nomatch z), (fun _ z => nomatch z), fun _ _ z => nomatch z⟩
    · cases h'
  | er c fs => cases h
  | non => exact base (d := .non) h
  | bl _ => exact base (d := .bl _) h
  | int _ => exact base (d := .int _) h
  | str _ => exact base (d := .str _) h
  | tup _ => exact base (d := .tup _) h
  | lst _ => exact base (d := .lst _) h
  | dct _ => exact base (d := .dct _) h
  | cl _ => exact base (d := .cl _) h
  | pen => exact base (d := .pen) h
  | fn _ => exact base (d := .fn _) h
theorem dx_isC {C : Str} {cs es : List (Str × Bool)} (hK : X.K = W.K) {e : Expr} {x : Str} {p q pos : Pos} {ta : TD} (hcs : ∀ c ∈ cs, PySem.W.kitOne X.K (.ref (He.ga X.K c.1)) (.ref (He.ga X.K C)) = some c.2 ∧ ClsJ X.K (He.ga X.K c.1))
    (hes : ∀ c ∈ es, PySem.W.kitOne X.K (.ref (He.ga X.K c.1)) (.ref (He.ga X.K C)) = some c.2 ∧ ExcC X.K (He.ga X.K c.1))
    (hb : ∀ a ∈ ["NoneType", "bool", "int", "str", "tuple", "list", "dict"], PySem.W.kitOne X.K (.type a) (.ref (He.ga X.K C)) = some false)
    (hg : Gl X "isinstance") (hm : X.mg "isinstance" = none) (ha : PE X e (lift W E ta)) (hcl : PE X (.Name x q) (tC (.ref (He.ga X.K C))))
    (he : starEach [e, .Name x q] X.env = (false, eval e X.env) :: starEach [.Name x q] X.env := by rfl) (hpl : (backTo pos (starEach [.Name x q] X.env)).any (·.1) = false := by rfl) (he2 : starEach [.Name x q] X.env = (false, eval (.Name x q) X.env) :: starEach [] X.env := by rfl) :
    PE X (.Call (.Name "isinstance" p) [e, .Name x q] [] pos) (lift W E (isiD (isC cs es) ta)) := by
  refine dx_isi hK hg hm ha hcl (.own _) (fun d b h => ?_) he hpl he2
  have base : ∀ {d : D}, (d.tn.map fun _ => false) = some b → PySem.W.kitOne X.K (d.tag X.K) (.ref (He.ga X.K C)) = some b ∧ (∀ c fs, d = .ob c fs → ClsJ X.K (He.ga X.K c)) ∧ (∀ c, d ≠ .cl c) ∧ d ≠ .pen ∧ (∀ a, d ≠ .fn a) ∧ ∀ c fs, d = .er c fs → ExcC X.K (He.ga X.K c) := fun {d} h => by
    cases e : d.tn with
    | none => rw [e] at h; cases h
    | some a =>
      rw [e] at h
      have hm : a ∈ ["NoneType", "bool", "int", "str", "tuple", "list", "dict"] := by cases d <;> cases e <;> decide
      obtain ⟨h1, _, h3, h4, h5, h7, h6⟩ := kitT_ok (.inl rfl) (K := X.K) e
      exact ⟨by rw [h1, hb a hm]; exact h, fun c fs z => (h3 c fs z).elim, h4, h5, h7, fun c fs z => (h6 c fs z).elim⟩
  have mem : ∀ (c : Str) (l : List (Str × Bool)), l.lookup c = some b → (c, b) ∈ l := fun c l => by
    induction l with
    | nil => intro z; cases z
    | cons y l ih =>
      intro z
      obtain ⟨k, v⟩ := y
      rw [List.lookup_cons] at z
      split at z
      · rename_i hk
        cases z
        rw [beq_iff_eq] at hk
        subst hk
        exact List.mem_cons_self
      · exact List.mem_cons_of_mem _ (ih z)
  cases d with
  | ob c fs =>
    obtain ⟨g1, g2⟩ := hcs _ (mem c cs h)
    exact ⟨g1, (fun c' fs' z => by cases z; exact g2), (fun _ z => nomatch z), (fun z => nomatch z), (fun _ z => nomatch z), fun _ _ z => nomatch z⟩
  | er c fs =>
    obtain ⟨g1, g2⟩ := hes _ (mem c es h)
    exact ⟨g1, (fun _ _ z => nomatch z), (fun _ z => nomatch z), (fun z => nomatch z), (fun _ z => nomatch z), fun c' fs' z => by cases z; exact g2⟩
  | non => exact base (d := .non) h
  | bl _ => exact base (d := .bl _) h
  | int _ => exact base (d := .int _) h
  | str _ => exact base (d := .str _) h
  | tup _ => exact base (d := .tup _) h
  | lst _ => exact base (d := .lst _) h
  | dct _ => exact base (d := .dct _) h
  | cl _ => exact base (d := .cl _) h
  | pen => exact base (d := .pen) h
  | fn _ => exact base (d := .fn _) h
/-! wrappers -/
section
variable {k : Nat} {f : Addr} {fd : FuncData} {ps : List Str} {φ : FD} {x c : Str} {p pos sp_ : Pos} {e : Expr} {es : List Expr} {ta : TAD} {te : TD} {us : List Value} {dvs : List V} {dd : List D} {ts : List (Addr × Str)} {m : Nat}
theorem dx_call' (hK : X.K = W.K) (ht : W.ts = ts) (F : FnOk X.prog X.w X.K X.mg X.base (L2.CX X.prog X.w) k f fd ps (spD X.K ts m φ)) (hr : Room k X.A) (hg : Gl X x) (hm : X.mg x = some (.ref f)) (hk : PySem.W.keepIn X.K (.ref f) = true) (hb : Binds X.K fd ps us) (hv : Vals dvs us)
    (hd : ∀ (p : Addr) M H, RpL X.K p M H dvs dd) (hx : Passes (L2.CX X.prog X.w) X E) (ha : PA X (e :: es) (liftA W E ta)) (hdb : (x == ("__debug__" : Str)) = false := by decide) (he : starEach (e :: es) X.env = (false, eval e X.env) :: starEach es X.env := by rfl)
    (hpl : (backTo pos (starEach es X.env)).any (·.1) = false := by rfl) (hps : ps.length = m := by rfl) : PE X (.Call (.Name x p) (e :: es) [] pos) (lift W E (dCall m φ dd ta)) := by
  subst hps
  exact dx_call (at_w hK ht F) hr hg hm hk hb hv (fun M H => by rw [← hK]; exact hd _ M H) hx ha hdb he hpl
theorem dx_callG' (hK : X.K = W.K) (ht : W.ts = ts) (gu : X.A.guards = some []) (F : FnG X.prog X.w X.K X.mg X.base (L2.CX X.prog X.w) k f fd ps (spD X.K ts m φ)) (hr : Room k X.A) (hg : Gl X x) (hm : X.mg x = some (.ref f)) (hk : PySem.W.keepIn X.K (.ref f) = true) (hb : Binds X.K fd ps us) (hv : Vals dvs us)
    (hd : ∀ (p : Addr) M H, RpL X.K p M H dvs dd) (hx : Passes (L2.CX X.prog X.w) X E) (ha : PA X (e :: es) (liftA W E ta)) (hdb : (x == ("__debug__" : Str)) = false := by decide) (he : starEach (e :: es) X.env = (false, eval e X.env) :: starEach es X.env := by rfl)
    (hpl : (backTo pos (starEach es X.env)).any (·.1) = false := by rfl) (hps : ps.length = m := by rfl) : PE X (.Call (.Name x p) (e :: es) [] pos) (lift W E (dCall m φ dd ta)) := by
  subst hps
  exact dx_callG gu (at_g hK ht F) hr hg hm hk hb hv (fun M H => by rw [← hK]; exact hd _ M H) hx ha hdb he hpl
theorem dx_call0' (hK : X.K = W.K) (ht : W.ts = ts) (F : FnOk X.prog X.w X.K X.mg X.base (L2.CX X.prog X.w) k f fd ps (spD X.K ts m φ)) (hr : Room k X.A) (hg : Gl X x) (hm : X.mg x = some (.ref f)) (hk : PySem.W.keepIn X.K (.ref f) = true) (hb : Binds X.K fd ps us) (hv : Vals dvs us)
    (hd : ∀ (p : Addr) M H, RpL X.K p M H dvs dd) (hx : Passes (L2.CX X.prog X.w) X E) (hdb : (x == ("__debug__" : Str)) = false := by decide) (hps : ps.length = m := by rfl) : PE X (.Call (.Name x p) [] [] pos) (lift W E (dCall m φ dd dNil)) := by
  subst hps
  exact dx_call0 (at_w hK ht F) hr hg hm hk hb hv (fun M H => by rw [← hK]; exact hd _ M H) hx hdb
theorem dx_callR' (hK : X.K = W.K) (ht : W.ts = ts) (F : FnR X.prog X.w X.K X.mg X.base (L2.CX X.prog X.w) k f (spR X.K ts φ)) (hr : Room k X.A) (hg : Gl X x) (hm : X.mg x = some (.ref f)) (hk : PySem.W.keepIn X.K (.ref f) = true) (hx : Passes (L2.CX X.prog X.w) X E) (ha : PA X (e :: es) (liftA W E ta))
    (hd : (x == ("__debug__" : Str)) = false := by decide) (he : starEach (e :: es) X.env = (false, eval e X.env) :: starEach es X.env := by rfl) (hpl : (backTo pos (starEach es X.env)).any (·.1) = false := by rfl) :
    PE X (.Call (.Name x p) (e :: es) [] pos) (lift W E (dR φ ta)) := dx_callR (at_r hK ht F) hr hg hm hk hx ha hd he hpl
/-- what calls by keyword, with a star, make of their arguments -/
def dKw0 (m : Nat) (φ : FD) (b : TAD) : TD := fun ρ n Φ Ψ => b ρ n (fun es n2 => es.length = m ∧ ([] ++ es).length = m ∧ φ ([] ++ es) n2 Φ Ψ) Ψ
def dSt (φ : FD) (a : TD) : TD := fun ρ n Φ Ψ => a ρ n (fun y n1 => ∃ ds, (y = .tup ds ∨ y = .lst ds) ∧ φ ds n1 Φ Ψ) Ψ
theorem dx_callS' (hK : X.K = W.K) (ht : W.ts = ts) (F : FnR X.prog X.w X.K X.mg X.base (L2.CX X.prog X.w) k f (spR X.K ts φ)) (hr : Room k X.A) (hg : Gl X x) (hm : X.mg x = some (.ref f)) (hk : PySem.W.keepIn X.K (.ref f) = true) (hx : Passes (L2.CX X.prog X.w) X E) (he : PE X e (lift W E te))
    (hd : (x == ("__debug__" : Str)) = false := by decide) (hst : starEach [.Starred e sp_] X.env = [(true, eval e X.env)] := by rfl) :
    PE X (.Call (.Name x p) [.Starred e sp_] [] pos) (lift W E (dSt φ te)) := dx_callS hK (at_r hK ht F) hr hg hm hk hx he hd hst
theorem dx_makeR' (hK : X.K = W.K) (ht : W.ts = ts) (M : Mk X.K (He.ga X.K c) f) (F : FnR X.prog X.w X.K X.mg X.base (L2.CX X.prog X.w) k f (spIR X.K ts c φ)) (hr : Room (k + 1) X.A) (hg : Gl X x) (hm : X.mg x = some (.ref (He.ga X.K c))) (hx : Passes (L2.CX X.prog X.w) X E) (ha : PA X (e :: es) (liftA W E ta))
    (hd : (x == ("__debug__" : Str)) = false := by decide) (he : starEach (e :: es) X.env = (false, eval e X.env) :: starEach es X.env := by rfl) (hpl : (backTo pos (starEach es X.env)).any (·.1) = false := by rfl) :
    PE X (.Call (.Name x p) (e :: es) [] pos) (lift W E (dR φ ta)) := dx_makeR (by rw [← hK]; exact M) (at_ir hK ht F) hr hg (by rw [← hK]; exact hm) hx ha hd he hpl
theorem dx_makeS' (hK : X.K = W.K) (ht : W.ts = ts) (M : Mk X.K (He.ga X.K c) f) (F : FnR X.prog X.w X.K X.mg X.base (L2.CX X.prog X.w) k f (spIR X.K ts c φ)) (hr : Room (k + 1) X.A) (hg : Gl X x) (hm : X.mg x = some (.ref (He.ga X.K c))) (hx : Passes (L2.CX X.prog X.w) X E) (he : PE X e (lift W E te))
    (hd : (x == ("__debug__" : Str)) = false := by decide) (hst : starEach [.Starred e sp_] X.env = [(true, eval e X.env)] := by rfl) :
    PE X (.Call (.Name x p) [.Starred e sp_] [] pos) (lift W E (dSt φ te)) := dx_makeS hK (by rw [← hK]; exact M) (at_ir hK ht F) hr hg (by rw [← hK]; exact hm) hx he hd hst
theorem dx_make' (hK : X.K = W.K) (ht : W.ts = ts) (M : Mk X.K (He.ga X.K c) f) (F : FnOk X.prog X.w X.K X.mg X.base (L2.CX X.prog X.w) k f fd ps (spI X.K ts m c φ)) (hr : Room (k + 1) X.A) (hg : Gl X x) (hm : X.mg x = some (.ref (He.ga X.K c))) (hb : Binds X.K fd ps us) (hv : Vals dvs us)
    (hd : ∀ (p : Addr) M H, RpL X.K p M H dvs dd) (hx : Passes (L2.CX X.prog X.w) X E) (ha : PA X (e :: es) (liftA W E ta)) (hdb : (x == ("__debug__" : Str)) = false := by decide) (he : starEach (e :: es) X.env = (false, eval e X.env) :: starEach es X.env := by rfl)
    (hpl : (backTo pos (starEach es X.env)).any (·.1) = false := by rfl) (hps : ps.length = m := by rfl) : PE X (.Call (.Name x p) (e :: es) [] pos) (lift W E (dMake m φ dd ta)) := by
  subst hps
  exact dx_make (by rw [← hK]; exact M) (at_i hK ht F) hr hg (by rw [← hK]; exact hm) hb hv (fun M H => by rw [← hK]; exact hd _ M H) hx ha hdb he hpl
theorem dx_kw0' {kws : List Keyword} {tk : TAD} {ks : List Str} {g : List Value → List Value → List Value} {gV : List V → List V → List V} (hK : X.K = W.K) (ht : W.ts = ts) (F : FnOk X.prog X.w X.K X.mg X.base (L2.CX X.prog X.w) k f fd ps (spD X.K ts m φ)) (hr : Room k X.A) (hg : Gl X x) (hm : X.mg x = some (.ref f)) (hk : PySem.W.keepIn X.K (.ref f) = true) (hl : ks.length = ps.length) (hb : KBn X.K fd ps 0 ks g gV) (hp : PutR gV (fun us ws => us ++ ws)) (hx : Passes (L2.CX X.prog X.w) X E)
    (hkw : PK X kws (liftA W E tk)) (hall : (backToKw pos (keywordEach kws X.env)).all (·.1.isSome) = true := by rfl) (hks : (backToKw pos (keywordEach kws X.env)).filterMap (·.1) = ks := by rfl)
    (hdb : (x == ("__debug__" : Str)) = false := by decide) 
    (hpl : ((backTo pos (starEach [] X.env)).any (·.1) || (backToKw pos (keywordEach kws X.env)).any (·.1.isNone)) = false := by rfl)
    (hps : ps.length = m := by rfl) :
    PE X (.Call (.Name x p) [] kws pos) (lift W E (dKw0 m φ tk)) := by
  subst hps
  have h := dx_callK0 (p := p) (at_w hK ht F) hr hg hm hk hb hp hx hkw hall hks hdb hpl
  rw [hl] at h
  exact h
end
/-- a statement that is never come to -/
def sNever : TSD := fun _ _ _ => False
theorem ds_never {st : Stmt} : PS X st (liftS W E sNever) := ⟨fun _ _ _ _ _ _ ⟨_, _, _, _, h, _⟩ => h.elim⟩
theorem dss_never {st : List Stmt} : PSs X st (liftS W E sNever) := ⟨fun _ _ _ _ _ _ ⟨_, _, _, _, h, _⟩ => h.elim⟩
theorem hu65 {k : Nat} {A : Around} (hr : Room k A) : A.units + 65 < cLine := by have := hr.un; omega
end
end DL
namespace DL
open PySem PySem.Spec PyProof.Rows L2 Gx KX LamX
/-! the law's def -/
def spLawD (K : PySem.W.Frag) (ts : List (Addr × Str)) : Sp := fun vs H Q _ => ∃ (a : Addr) (ns : List Int), vs = [.ref a] ∧ SqL K H a (ns.map V.int) ∧ ns.length ≤ 63 ∧ Tabs ts H ∧ ∀ H', Q (.bl true) H'
def lawRho (l : Nat) : Rho := .un :: .d .pen :: List.replicate (l - 2) .un
def lawEn : EnD := { nx := fun _ _ => False, rt := fun d _ => d = .bl true, ex := fun _ _ => False }
def anyS (K : PySem.W.Frag) (ts : List (Addr × Str)) (E : XK) (τ : TSD) : TS := fun Dn σ H => ∃ W : Wd, W.K = K ∧ W.ts = ts ∧ liftS W E τ Dn σ H
theorem pss_any {X : Cx} {K : PySem.W.Frag} {ts : List (Addr × Str)} {E : XK} {τ : TSD} {ss : List Stmt} (h : ∀ W : Wd, W.K = K → W.ts = ts → PSs X ss (liftS W E τ)) : PSs X ss (anyS K ts E τ) :=
  ⟨fun pins s σ H D I ⟨W, h1, h2, h3⟩ => (h W h1 h2).run pins s σ H D I h3⟩
theorem env_law {K : PySem.W.Frag} {ts : List (Addr × Str)} {N : List Str} {a p q : Addr} {H : Hp} (h2 : 2 ≤ N.length) (pa : PenAt H p q 0) (ta : Tabs ts H) :
    EnvOk ⟨K, p, q, ts, fun b => b = p ∨ b = q, (· = p), H⟩ (lawRho N.length) 0 ((L2.start N [.ref a]).set 1 (some (.ref p))) H := by
  have no : ∀ (i : Nat) (o : Ow), (lawRho N.length)[i]? = some (Sl.own o) → False := fun i o z => by
    match i with
    | 0 => cases z
    | 1 => cases z
    | i + 2 =>
      have z' : (List.replicate (N.length - 2) Sl.un)[i]? = some (Sl.own o) := z
      rw [List.getElem?_replicate] at z'
      split at z' <;> cases z'
  have al : Al (fun b => b = p ∨ b = q) H := fun b m => by
    obtain ⟨ns, x, r, g1, g2, g3, _⟩ := pa
    rcases m with rfl | rfl
    · exact ⟨_, g1, by intro ps z; cases z⟩
    · exact ⟨_, g3, by intro ps z; cases z⟩
  refine ⟨fun i x z => ?_, fun i o z => (no i o z).elim, fun i j o o' b z => (no i o z).elim, pa, ta, EM.refl _ _, rfl, fun b z => .inl z, .inr rfl, al, al, ?_⟩
  · match i with
    | 0 => cases z
    | 1 =>
      cases z
      refine ⟨.ref p, ?_, .pen⟩
      rw [List.getElem?_set, if_pos rfl, if_pos]
      unfold L2.start
      simp only [List.length_append, List.length_map, List.length_replicate, List.length_cons, List.length_nil]
      omega
    | i + 2 =>
      have z' : (List.replicate (N.length - 2) Sl.un)[i]? = some (Sl.d x) := z
      rw [List.getElem?_replicate] at z'
      split at z' <;> cases z'
  · unfold lawRho L2.start
    simp only [List.length_set, List.length_append, List.length_map, List.length_replicate, List.length_cons, List.length_nil]
    omega
/-- behind the pen's making -/
theorem law_read {K : PySem.W.Frag} {ts : List (Addr × Str)} {N : List Str} {a p q : Addr} {H : Hp} {E : XK} {Q : VK} {τ : TSD} (h2 : 2 ≤ N.length) (pa : PenAt H p q 0) (ta : Tabs ts H) (k : ∀ H', Q (.bl true) H') (t : τ lawEn (lawRho N.length) 0) :
    anyS K ts E τ { nx := fun _ H' => Q .non H', rt := Q } ((L2.start N [.ref a]).set 1 (some (.ref p))) H :=
  ⟨⟨K, p, q, ts, fun b => b = p ∨ b = q, (· = p), H⟩, rfl, rfl, lawRho N.length, 0, lawEn, env_law h2 pa ta, t,
    ⟨fun _ _ _ _ h _ _ => h.elim, fun _ _ _ _ h _ _ => h.elim, fun _ _ _ _ h _ _ => h.elim, fun v H' d n' h _ _ _ r => by
      have hd : d = .bl true := h
      subst hd
      cases r
      exact k H', fun _ _ _ _ _ h => h.elim⟩⟩
/-! ### loops, read by an invariant -/
theorem loop_inv {g : TGD} {b : TSD} {En : EnD} (I : Nat → Rho → Nat → Prop) : ∀ {ds : List D} (i : Nat) {ρ : Rho} {n : Nat},
    (∀ (j : Nat) (d : D) (ρ : Rho) (n : Nat) (E' : EnD), ds[j]? = some d → I (i + j) ρ n → (∀ ρ' n', I (i + j + 1) ρ' n' → E'.nx ρ' n' ∧ E'.ct ρ' n') → E'.rt = En.rt → E'.ex = En.ex → E'.bk = En.nx → g d ρ fun ρ' => b E' ρ' n) →
    I i ρ n → (∀ ρ' n', I (i + ds.length) ρ' n' → En.nx ρ' n') → loopD g b En ds ρ n
  | [], i, ρ, n, _, h, k => k ρ n (by simpa using h)
  | d :: ds, i, ρ, n, hs, h, k => by
    unfold loopD
    have rec_ : ∀ ρ' n', I (i + 1) ρ' n' → loopD g b En ds ρ' n' := fun ρ' n' h' =>
      loop_inv I (i + 1) (fun j e ρ n E' hj hI hn hr hx hb => hs (j + 1) e ρ n E' hj (by rw [show i + (j + 1) = i + 1 + j by omega]; exact hI) (fun ρ' n' h2 => hn ρ' n' (by rw [show i + 1 + j + 1 = i + (j + 1) + 1 by omega]; exact h2)) hr hx hb) h' (by
        intro ρ2 n2 h2
        exact k ρ2 n2 (by rw [List.length_cons, ← Nat.add_assoc, Nat.add_right_comm]; exact h2))
    exact hs 0 d ρ n _ rfl h (fun ρ' n' h' => ⟨rec_ ρ' n' h', rec_ ρ' n' h'⟩) rfl rfl rfl
end DL
/-! caught errors as data -/
namespace DL
open PySem PySem.Spec PyProof.Rows L2 Gx KX LamX
/-- a caught error's object -/
def ErO (cls : Value) (d : Option Addr) (a : Addr) : HO := .ext fun h => ∃ oe : Obj, h.get? a = some oe ∧ Zc cls d oe ∧ ∃ vs, oe.data = .fields vs
theorem inv_er {X : Cx} {pins : List (Addr × Obj)} {σ : L2.St} {H : Hp} {s : Shared} {a : Addr} {oe : Obj} {cls : Value} {d : Option Addr} (I : Inv X pins σ H s) (ha : s.heap.get? a = some oe) (hz : Zc cls d oe) (hf : ∃ vs, oe.data = .fields vs) (hn : H a = none)
    (h0 : ∀ o, X.s_0.heap.get? a = some o → False) (hl : a ≠ X.env.locals) (hp : ∀ p ∈ X.pn ++ pins, p.1 ≠ a) : Inv X pins σ (upd H a (ErO cls d a)) s := by
  have ne : ∀ {b : Addr} {o : HO}, H b = some o → b ≠ a := fun h => ne_of_none h hn
  obtain ⟨vs, hd⟩ := hf
  refine ⟨I.ok, I.os, I.bare, ⟨I.base.keep, I.base.slot, fun b o h1 h2 h3 => ?_, I.base.there, fun b xs h => ?_, fun b o u h => ?_, fun b ps h => ?_⟩, I.loc, I.cell, ?_, fun x c h => ?_, fun p q => ?_, fun b o h => ?_, I.len⟩
  · rw [upd_ne (fun z => by rw [z] at h1; exact h0 _ h1)]
    exact I.base.free b o h1 h2 h3
  · have q := I.base.tups b xs h
    rw [upd_ne (ne q)]; exact q
  · have q := I.base.frzs b o u h
    rw [upd_ne (ne q)]; exact q
  · obtain ⟨more, q⟩ := I.base.tbls b ps h
    exact ⟨more, by rw [upd_ne (ne q)]; exact q⟩
  · rw [upd_ne (fun z => hl z.symm)]; exact I.free
  · rw [upd_ne (fun z => ?_)]
    · exact I.freeC x c h
    · obtain ⟨v, o, ho, hc⟩ := I.cell x c h
      rw [z, ha] at ho
      cases ho
      rw [hd] at hc
      cases hc
  · obtain ⟨h1, h2, h3⟩ := I.pin p q
    exact ⟨h1, by rw [upd_ne (hp p q)]; exact h2, h3⟩
  · by_cases hb : b = a
    · subst hb
      rw [upd_same] at h
      cases h
      exact ⟨⟨oe, ha, hz, vs, hd⟩, ⟨oe, ha⟩, fun h1 h2 ⟨o, g1, g2⟩ k => ⟨o, k _ g1, g2⟩⟩
    · rw [upd_ne hb] at h
      refine (I.hok b o h).stay (fun _ _ _ q => q) (fun c q => ?_) (fun c xs q => ?_)
      · rw [upd_ne (ne q)]; exact q
      · rw [upd_ne (ne q)]; exact q
/-- what the clause 'except x as n' wishes, the rest of the block following it: t1, where the error is kept -/
def wEr (K : PySem.W.Frag) (c : Value) (i : Nat) (ts t1 : Addr → Value → Option Addr → TS) (Wout : WX) (D : Ends) : WX := fun cls d σ H =>
  ∃ b, PySem.W.exmOne K cls c = some b ∧ (b = true → ∀ a, H a = none → ts a cls d { nx := fun σ' H' => H' a = none → t1 a cls d D (σ'.set i none) (upd H' a (ErO cls d a)), rt := D.rt, bk := fun σ' H' => D.bk (σ'.set i none) H', ct := fun σ' H' => D.ct (σ'.set i none) H' } (σ.set i (some (.ref a))) H) ∧
    (b = false → Wout cls d σ H)
section
variable {X : Cx} {x n : Str} {c : Value} {i : Nat} {body suite rest : List Stmt} {b₀ : Stmt} {np pos pos' : Pos} {tb : WX → TS} {ts t1 : Addr → Value → Option Addr → TS} {t0 : TS} {Wout : WX}
theorem pss_try_er (hex : X.ex = []) (hs : X.stack = X.env :: X.outer) (hf : X.env.frame = some X.env.locals) (hN : X.N.Nodup) (hi : X.N[i]? = some n) (hln : X.env.kindOf n = some .local) (hc : Names X x c) (tk : Takes X Wout)
    (hb : ∀ (W : WX) (pn : List (Addr × Obj)) (xe : Value → Shared → Prop), Takes (X.tr pn xe) W → PassesOwn (model X.prog X.w) X.A X.env xe → PSs (X.tr pn xe) body (tb W))
    (hsu : ∀ (a : Addr) (oe : Obj) (cls : Value) (d : Option Addr) (pn : List (Addr × Obj)), Zc cls d oe → (∃ vs, oe.data = .fields vs) → PSs (X.suite a ((a, oe) :: pn)) (b₀ :: suite) (ts a cls d))
    (h0 : PSs X rest t0)
    (h1 : ∀ (a : Addr) (cls : Value) (d : Option Addr) (pn : List (Addr × Obj)), PSs (X.tr pn X.xe) rest (t1 a cls d)) :
    PSs X (.Try body [.ExceptHandler (some (.Name x np)) (some n) (b₀ :: suite) pos'] [] [] pos :: rest) (fun D σ H => tb (wEr X.K c i ts t1 Wout D) { D with nx := t0 D } σ H) := by
  refine ⟨fun pins s σ H D I h => ?_⟩
  have okX := I.ok
  have fr0 : X.A.frames = some (X.env :: X.outer) := by rw [okX.frames, hs]
  have lc0 : Loc X.env.scope n := .inl hln
  -- what stands behind the try: the rest where nothing was caught; the ends where the rest was run already
  let SPr : Flow → Shared → Prop := fun f w1 => match f with
    | .next => wpAny (model X.prog X.w) X.A (execs rest X.env) (SP X pins D) X.xe w1
    | f => SP X pins D f w1
  refine wpAny_execs_cons (wpAny_mono (Q := SPr) ?_ (fun f w2 q => ?_) (fun _ _ z => z))
  · refine wpAny_Try_except ?_
    refine wpAny_mono ((hb (wEr X.K c i ts t1 Wout D) (X.pn ++ pins) (fun e s₁ => wpAny (model X.prog X.w) X.A (noteFrame e X.env) (fun _ s₂ => wpAny (model X.prog X.w) X.A (setFlight e none) (fun _ s₃ =>
      wpAny (model X.prog X.w) X.A (handleBy e X.env [.ExceptHandler (some (.Name x np)) (some n) (b₀ :: suite) pos']) SPr X.xe s₃) X.xe s₂) X.xe s₁) (fun u w1 hx => ?_) PassesOwn.looking).run [] s σ H { D with nx := t0 D } (I.toTry _) h) (fun f w2 hq => ?_) (fun e w2 he => he)
    · -- the catch
      obtain ⟨a, B, sg, pz, τ, G, cls, d, rfl, Jt, gb, us, s0, nn, oo, bb, b, eb1, yes, no⟩ := hx
      have J : Inv X pins τ G sg := Jt.ofTry okX
      have sk : Sky B (X.env :: X.outer) a (Zc cls d) X.env.locals w1.heap := by rw [← hs]; exact s0
      show wpAny (model X.prog X.w) X.A (noteFrame (.ref a) X.env) _ _ _
      refine Sky.land Zc.steady fr0 hf sk fun ha fa ua => ?_
      have Ja : Inv X pins τ G { w1 with heap := ha } := J.landed gb fa.1 (us.trans ua) oo bb
      obtain ⟨oa, va, ea, za, da⟩ := fa.there
      have offFr : ∀ {h : Heap} {o : Obj} {vs : Array Value}, h.FunFrames B (X.env :: X.outer) → h.get? a = some o → o.data = .fields vs → a ∉ frs (X.env :: X.outer) := fun {h o vs} ff e dd hm => by
        obtain ⟨_, o', e', hnf⟩ := ff.mem hm
        rw [e] at e'; cases e'
        exact hnf _ dd
      have nf := offFr fa.2.2.1 ea da
      have nl : a ≠ X.env.locals := fun z => nf (List.mem_filterMap.mpr ⟨X.env, List.mem_cons_self, by rw [hf, z]⟩)
      have ng : a ∉ X.fs := fun hm => by
        obtain ⟨e, he, q⟩ := List.mem_filterMap.mp hm
        exact nf (List.mem_filterMap.mpr ⟨e, List.mem_cons_of_mem _ he, q⟩)
      have Sa := Ja.suite ea da nn nl ng
      refine wpAny_handleBy_cons (codeAny_handlers_test ?_) (by intro q; cases q)
      have ty0 : PySem.W.Looks (model X.prog X.w) ha (typeOf (.ref a)) cls := fun A Q E s k q => wpAny_typeOf_ref (k _ _ ea) (by rw [za.1]; exact q)
      have mt := PySem.W.exm_one (M := model X.prog X.w) (Ja.kIn) ty0 eb1
      have ask : ∀ {Q : Value → Shared → Prop} {E : Value → Shared → Prop}, Q c { w1 with heap := ha } → wpAny (model X.prog X.w) (X.A.mark (some (.ref a))) (eval (.Name x np) X.env) Q E { w1 with heap := ha } := fun {Q E} q => by
        obtain ⟨hg, hdbg, hm | ⟨hm, hv, hnn⟩⟩ := hc
        · exact ld_glob (X := X.suite a ((a, oa) :: (X.pn ++ pins))) Sa hg hm q hdbg
        · exact ld_blt (X := X.suite a ((a, oa) :: (X.pn ++ pins))) Sa hg hm hv q hnn hdbg
      refine ask (mt.here ?_)
      cases b with
      | true =>
        refine codeAny_handlers_suite_as ?_
        refine HandSPX.lands_againZ fa fun hb2 fb ub => ?_
        have Jb : Inv X pins τ G { w1 with heap := hb2 } := J.landed gb fb.1 ((us.trans ua).trans ub) oo bb
        obtain ⟨ob, vb, eb, zb, db⟩ := fb.there
        have Sb := Jb.suite eb db nn nl ng
        refine store_ok (X := X.suite a ((a, ob) :: (X.pn ++ pins))) (v := .ref a) Sb hN hi lc0 rfl (fun w5 Sc => ?_) (.inr hln)
        refine wpAny_mono ((hsu a ob cls d (X.pn ++ pins) zb ⟨_, db⟩).run [] w5 _ G _ Sc (yes rfl a nn)) (fun f w6 hq => ?_) (fun _ _ z => False.elim z)
        -- the rest, the error known
        have keep1 : ∀ {τ6 : L2.St} {G6 : Hp} {w6 : Shared}, Inv (X.suite a ((a, ob) :: (X.pn ++ pins))) [] τ6 G6 w6 → Inv (X.tr ((a, ob) :: (X.pn ++ pins)) X.xe) [] τ6 G6 w6 := fun S =>
          ⟨okX.toTry _ _, S.os, S.bare, S.base, S.loc, S.cell, S.free, S.freeC, S.pin, S.hok, S.len⟩
        have back1 : ∀ {τ6 : L2.St} {G6 : Hp} {w6 : Shared}, Inv (X.tr ((a, ob) :: (X.pn ++ pins)) X.xe) [] τ6 G6 w6 → Inv X pins τ6 G6 w6 := fun S =>
          ⟨okX, S.os, S.bare, S.base, S.loc, S.cell, S.free, S.freeC, fun p hp => S.pin p (List.mem_append_left _ (List.mem_cons_of_mem _ hp)), S.hok, S.len⟩
        have back2 : ∀ {τ6 : L2.St} {G6 : Hp} {w6 : Shared}, Inv (X.tr (X.pn ++ pins) X.xe) [] τ6 G6 w6 → Inv X pins τ6 G6 w6 := fun S =>
          ⟨okX, S.os, S.bare, S.base, S.loc, S.cell, S.free, S.freeC, fun p hp => S.pin p (List.mem_append_left _ hp), S.hok, S.len⟩
        have ng2 : a ∉ X.ex := fun hm => by
          rw [hex] at hm
          exact absurd hm (by simp)
        have after : ∀ {τ6 : L2.St} {G6 : Hp} {Q : Shared → Prop}, Inv (X.suite a ((a, ob) :: (X.pn ++ pins))) [] τ6 G6 w6 → (∀ w7, Inv (X.tr ((a, ob) :: (X.pn ++ pins)) X.xe) [] (τ6.set i none) G6 w7 → Q w7) →
            wpAny (model X.prog X.w) X.A (do bindName X.env n .none; unbindBehindTheSuite X.env n pos') (fun _ w7 => Q w7) X.xe w6 := fun {τ6 G6 Q} Sd hq =>
          gone_ok (X := X.tr ((a, ob) :: (X.pn ++ pins)) X.xe) (keep1 Sd) hN hi hln hq
        cases f with
        | next =>
          obtain ⟨τ6, G6, Sd, k6⟩ := hq
          refine after Sd fun w7 Jz => ?_
          have pz := Jz.pin (a, ob) (List.mem_append_left _ List.mem_cons_self)
          have a0 : ∀ o, sg.heap.get? a = some o → False := fun o q => by
            have z := gb a o q (by rw [hs]; exact nf)
            rw [fb.2.1] at z
            cases z
          have Je : Inv (X.tr (X.pn ++ pins) X.xe) [] (τ6.set i none) (upd G6 a (ErO cls d a)) w7 := inv_er
            ⟨okX.toTry _ _, Jz.os, Jz.bare, Jz.base, Jz.loc, Jz.cell, Jz.free, Jz.freeC, fun p hp => Jz.pin p (by
              rcases List.mem_append.mp hp with hp | hp
              · exact List.mem_append_left _ (List.mem_cons_of_mem _ hp)
              · exact absurd hp (by simp)), Jz.hok, Jz.len⟩ pz.1 zb ⟨_, db⟩ pz.2.1 (fun o q => by
              obtain ⟨o', q'⟩ := J.base.there a o q ng2
              exact a0 o' q') pz.2.2.1 (fun p hp z => by
              rcases List.mem_append.mp hp with hp | hp
              · have q := (J.pin p hp).1
                rw [z] at q
                exact a0 _ q
              · exact absurd hp (by simp))
          refine wpAny_mono ((h1 a cls d (X.pn ++ pins)).run [] w7 _ _ D Je (k6 pz.2.1)) (fun f w8 hq8 => ?_) (fun _ _ z => z)
          cases f with
          | next => obtain ⟨τ8, G8, Sz, k8⟩ := hq8; exact ⟨τ8, G8, back2 Sz, k8⟩
          | brk => obtain ⟨τ8, G8, Sz, k8⟩ := hq8; exact ⟨τ8, G8, back2 Sz, k8⟩
          | cont => obtain ⟨τ8, G8, Sz, k8⟩ := hq8; exact ⟨τ8, G8, back2 Sz, k8⟩
          | ret u => obtain ⟨y8, τ8, G8, Sz, rr8, k8⟩ := hq8; exact ⟨y8, τ8, G8, back2 Sz, rr8, k8⟩
        | brk =>
          obtain ⟨τ6, G6, Sd, k6⟩ := hq
          exact after Sd fun w7 Jz => ⟨_, _, back1 Jz, k6⟩
        | cont =>
          obtain ⟨τ6, G6, Sd, k6⟩ := hq
          exact after Sd fun w7 Jz => ⟨_, _, back1 Jz, k6⟩
        | ret u =>
          obtain ⟨y6, τ6, G6, Sd, rr6, k6⟩ := hq
          exact after Sd fun w7 Jz => ⟨_, _, _, back1 Jz, rr6, k6⟩
      | false =>
        show wpAny _ X.A (handleBy (.ref a) X.env []) _ _ _
        refine wpAny_handleBy_nil ?_
        obtain ⟨k1, k2, k3, oe, vs, T, oT, ts', he, hz, hd, h1, hr⟩ := id fa
        unfold PySem.passOn
        refine wpAny_bind (wpAny_field he hd h1 ?_)
        rw [if_neg (show ¬ ((Value.ref T == Value.none) = true) from by simp)]
        have go : wpAny (model X.prog X.w) X.A (setFlight (.ref a) X.env.frame) (fun _ s4 => wpAny (model X.prog X.w) X.A (throw (.ref a) : Sem Flow) SPr X.xe s4) X.xe { w1 with heap := ha } := by
          rw [hf]
          refine HandSPX.setFlight_upZ fa fun hb2 hh4 ub => wpAny_throw (tk _ _ ?_)
          exact ⟨a, B, sg, pins, τ, G, cls, d, rfl, J, gb, (us.trans ua).trans ub, .inr (.inr (by rw [hs]; exact hh4)), nn, oo, bb, no rfl⟩
        first
          | exact wpAny_bind (wpAny_pure (wpAny_bind go))
          | exact wpAny_bind go
    · cases f with
      | next =>
        obtain ⟨τ, G, Jt, q⟩ := hq
        exact wpAny_execs_nil (h0.run pins w2 τ G D (Jt.ofTry okX) q)
      | brk =>
        obtain ⟨τ, G, Jt, q⟩ := hq
        exact ⟨τ, G, Jt.ofTry okX, q⟩
      | cont =>
        obtain ⟨τ, G, Jt, q⟩ := hq
        exact ⟨τ, G, Jt.ofTry okX, q⟩
      | ret u =>
        obtain ⟨v, τ, G, Jt, r, q⟩ := hq
        exact ⟨v, τ, G, Jt.ofTry okX, r, q⟩
  · cases f with
    | next => exact q
    | brk => exact q
    | cont => exact q
    | ret u => exact q
end
end DL
/-! operators of own classes, attributes -/
namespace DL
open PySem PySem.Spec PyProof.Rows L2 Gx KX LamX
/-- an operation on two data that may call -/
abbrev F2 := D → D → Nat → KD → XD → Prop
abbrev F1 := D → Nat → KD → XD → Prop
def dOpN (f : F2) (a b : TD) : TD := fun ρ n Φ Ψ => a ρ n (fun x n1 => b ρ n1 (fun y n2 => f x y n2 Φ Ψ) Ψ) Ψ
def dUnN (f : F1) (a : TD) : TD := fun ρ n Φ Ψ => a ρ n (fun x n1 => f x n1 Φ Ψ) Ψ
/-- an operation that calls nothing -/
def pureN (f : D → D → (D → Prop) → Prop) : F2 := fun x y n Φ _ => f x y fun z => Φ z n
def pure1 (f : D → (D → Prop) → Prop) : F1 := fun x n Φ _ => f x fun z => Φ z n
/-- by the class of the first -/
def selN (tbl : List (Str × FD)) (ok : D → Bool) (g : F2) : F2 := fun x y n Φ Ψ => match x with
  | .ob c fs => ∃ φ, tbl.lookup c = some φ ∧ ok y = true ∧ φ [.ob c fs, y] n Φ Ψ
  | x => g x y n Φ Ψ
/-- by the class of the second, the second first; the answer is a truth value -/
def selR (neg : Bool) (tbl : List (Str × FD)) (g : F2) : F2 := fun x y n Φ Ψ => match y with
  | .ob c fs => ∃ φ, tbl.lookup c = some φ ∧ φ [.ob c fs, x] n (fun z n' => ∃ b, z = .bl b ∧ Φ (.bl (neg ^^ b)) n') Ψ
  | y => g x y n Φ Ψ
def sel1 (tbl : List (Str × FD)) (g : F1) : F1 := fun x n Φ Ψ => match x with
  | .ob c fs => ∃ φ, tbl.lookup c = some φ ∧ φ [.ob c fs] n Φ Ψ
  | x => g x n Φ Ψ
/-- own ==, for != -/
def selNe (tbl : List (Str × FD)) (ok : D → Bool) (g : F2) : F2 := fun x y n Φ Ψ => match x with
  | .ob c fs => ∃ φ, tbl.lookup c = some φ ∧ ok y = true ∧ φ [.ob c fs, y] n (fun z n' => ∃ b, z = .bl b ∧ Φ (.bl (!b)) n') Ψ
  | x => g x y n Φ Ψ
def rN (W : Wd) (E : XK) (f : F2) : R2 := fun x y H Q => ∃ (ρ : Rho) (σ : L2.St) (n : Nat) (Φ : KD) (Ψ : XD) (d e : D), EnvOk W ρ n σ H ∧ Rp W.K W.p (Mu W ρ σ) H x d ∧ Rp W.K W.p (Mu W ρ σ) H y e ∧ f d e n Φ Ψ ∧
  (∀ v H' z n', Φ z n' → EnvOk W ρ n' σ H' → EB W.p H H' → Rp W.K W.p (Mu W ρ σ) H' v z → Q v H') ∧ ExW W E Ψ
def uN (W : Wd) (E : XK) (f : F1) : V → Hp → VK → Prop := fun x H Q => ∃ (ρ : Rho) (σ : L2.St) (n : Nat) (Φ : KD) (Ψ : XD) (d : D), EnvOk W ρ n σ H ∧ Rp W.K W.p (Mu W ρ σ) H x d ∧ f d n Φ Ψ ∧
  (∀ v H' z n', Φ z n' → EnvOk W ρ n' σ H' → EB W.p H H' → Rp W.K W.p (Mu W ρ σ) H' v z → Q v H') ∧ ExW W E Ψ
section
variable {X : Cx} {W : Wd} {E : XK}
theorem twoN {f : F2} {ta tb : TD} {ρ : Rho} {n : Nat} {σ : L2.St} {H : Hp} {Φ : KD} {Ψ : XD} {Q : VK} (e : EnvOk W ρ n σ H) (t : dOpN f ta tb ρ n Φ Ψ)
    (k : ∀ v H' d n', Φ d n' → EnvOk W ρ n' σ H' → EB W.p H H' → Rp W.K W.p (Mu W ρ σ) H' v d → Q v H') (x : ExW W E Ψ) : tOp (rN W E f) (lift W E ta) (lift W E tb) σ H Q :=
  ⟨ρ, n, _, Ψ, e, t, fun v H1 d n1 h1 e1 k1 r1 => ⟨ρ, n1, _, Ψ, e1, h1, fun u H2 c n2 h2 e2 k2 r2 =>
    ⟨ρ, σ, n2, Φ, Ψ, d, c, e2, r1.em (e1.eb k2), r2, h2, fun w H3 z n3 hz e3 k3 r3 => k w H3 z n3 hz e3 ((k1.trans k2).trans k3) r3, x⟩, x⟩, x⟩
theorem dx_opN {f : F2} {a b : Expr} {op : Operator} {ta tb : TD} {pos : Pos} (ho : OpR X (binaryOp op) (rN W E f)) (ha : PE X a (lift W E ta)) (hb : PE X b (lift W E tb)) :
    PE X (.BinOp a op b pos) (lift W E (dOpN f ta tb)) := pe_imp (pe_op ho ha hb) fun σ H Q ⟨ρ, n, Φ, Ψ, e, t, k, x⟩ => twoN e t k x
theorem dx_cmpN {f : F2} {a b : Expr} {op : CmpOp} {ta tb : TD} {pos : Pos} (ho : OpR X (compareOp op) (rN W E f)) (ha : PE X a (lift W E ta)) (hb : PE X b (lift W E tb)) (hm : behindInMarks op b = false) :
    PE X (.Compare a [op] [b] pos) (lift W E (dOpN f ta tb)) := pe_imp (pe_cmpR ho ha hb hm) fun σ H Q ⟨ρ, n, Φ, Ψ, e, t, k, x⟩ => twoN e t k x
theorem dt_cmpN {f : F2} {a b : Expr} {op : CmpOp} {ta tb : TD} {pos : Pos} (ho : OpR X (compareOp op) (rN W E f)) (ha : PE X a (lift W E ta)) (hb : PE X b (lift W E tb)) (hm : behindInMarks op b = false) :
    PT X (.Compare a [op] [b] pos) (liftT W E (dTest (dOpN f ta tb))) := pt_imp (pt_cmpR ho ha hb hm) fun σ H Q ⟨ρ, n, Φ, Ψ, e, t, k, x⟩ =>
  twoN (E := E) (Φ := fun d n' => ∃ b, d = .bl b ∧ Φ b n') e t (fun v H' d n' hd e' k' r => by
    obtain ⟨b, rfl, hb⟩ := hd
    cases r
    exact ⟨b, rfl, k b H' n' hb e' k'⟩) x
theorem dx_unN {f : F1} {a : Expr} {op : UnaryOp} {ta : TD} {pos : Pos} (ho : UnR X (unaryOp op) (uN W E f)) (ha : PE X a (lift W E ta)) :
    PE X (.UnaryOp op a pos) (lift W E (dUnN f ta)) := pe_imp (pe_un ho ha) fun σ H Q ⟨ρ, n, Φ, Ψ, e, t, k, x⟩ =>
  ⟨ρ, n, _, Ψ, e, t, fun v H1 d n1 h1 e1 k1 r1 => ⟨ρ, σ, n1, Φ, Ψ, d, e1, r1, h1, fun w H3 z n3 hz e3 k3 r3 => k w H3 z n3 hz e3 (k1.trans k3) r3, x⟩, x⟩
theorem on_pure {A : Value → Value → Sem Value} {f : D → D → (D → Prop) → Prop} (h : OpR X A (rD W f)) : OpR X A (rN W E (pureN f)) := by
  intro pins s σ H x y v u Q I rx ry ⟨ρ, σ', n, Φ, Ψ, d, e, e0, r1, r2, f0, k, _⟩
  exact h pins s σ H x y v u Q I rx ry ⟨_, d, e, _, e0.al, r1, r2, f0, fun v H' z hz s r => k v H' z n hz (e0.same s) (EB.same s) r⟩
/-- what a table says of its classes -/
def TBL (P : Str → FD → Prop) (tbl : List (Str × FD)) : Prop := ∀ c φ, tbl.lookup c = some φ → P c φ
theorem tbl_nil {P : Str → FD → Prop} : TBL P [] := fun _ _ h => by cases h
theorem tbl_cons {P : Str → FD → Prop} {c : Str} {φ : FD} {t : List (Str × FD)} (h : P c φ) (r : TBL P t) : TBL P ((c, φ) :: t) := fun c' φ' e => by
  rw [List.lookup_cons] at e
  split at e
  · rename_i q
    cases e
    rw [beq_iff_eq] at q
    subst q
    exact h
  · exact r c' φ' e
/-- a method of m values in all, called by a class's way nm -/
def PM (X : Cx) (ts : List (Addr × Str)) (k m : Nat) (nm : Str) (more : Addr → Prop) : Str → FD → Prop := fun c φ => ∃ f fd ps, Meth X.K (He.ga X.K c) nm f ∧ ps.length = m ∧ FnOk X.prog X.w X.K X.mg X.base (L2.CX X.prog X.w) k f fd ps (spD X.K ts m φ) ∧ Binds X.K fd ps [] ∧ more (He.ga X.K c)
theorem ok_get {W : Wd} {M : Addr → Prop} {H : Hp} {v : V} {d : D} (r : Rp W.K W.p M H v d) (J : ∀ c fs, d = .ob c fs → ClsJ W.K (He.ga W.K c)) (h1 : ∀ c, d ≠ .cl c) (h2 : d ≠ .pen) (h3 : ∀ c fs, d ≠ .er c fs) (h4 : ∀ a, d ≠ .fn a) : TyX W.K H v (d.tag W.K) := tyx_of r J h1 h2 h3 h4
/-- the right side of an own ==, <, .. -/
def okR (cs : List Str) : D → Bool
  | .ob c _ => cs.contains c
  | .cl _ => false | .pen => false | .er _ _ => false | .fn _ => false
  | _ => true
def RightOk (K : PySem.W.Frag) (cs : List Str) (C : Addr) : Prop := (∀ c ∈ cs, ClsJ K (He.ga K c) ∧ PySem.W.notFirst K C (.ref (He.ga K c)) = true) ∧ ∀ T ∈ ["NoneType", "bool", "int", "str", "tuple", "list", "dict"], PySem.W.notFirst K C (.type T) = true
theorem right_ty {K : PySem.W.Frag} {W : Wd} (hK : K = W.K) {cs : List Str} {C : Addr} {M : Addr → Prop} {H : Hp} {v : V} {d : D} (R : RightOk K cs C) (r : Rp W.K W.p M H v d) (h : okR cs d = true) : TyX W.K H v (d.tag W.K) ∧ PySem.W.notFirst W.K C (d.tag W.K) = true := by
  subst hK
  obtain ⟨R1, R2⟩ := R
  refine ⟨tyx_of r (fun c fs z => ?_) (fun c z => ?_) (fun z => ?_) (fun c fs z => ?_) (fun a z => ?_), ?_⟩
  · subst z; exact (R1 c (by simpa [okR] using h)).1
  · subst z; cases h
  · subst z; cases h
  · subst z; cases h
  · subst z; cases h
  · cases d with
    | ob c fs => exact (R1 c (by simpa [okR] using h)).2
    | non => exact R2 _ (by simp)
    | bl _ => exact R2 _ (by simp)
    | int _ => exact R2 _ (by simp)
    | str _ => exact R2 _ (by simp)
    | tup _ => exact R2 _ (by simp)
    | lst _ => exact R2 _ (by simp)
    | dct _ => exact R2 _ (by simp)
    | cl _ => cases h
    | pen => cases h
    | er _ _ => cases h
    | fn _ => cases h
theorem ob_get {W : Wd} {M : Addr → Prop} {H : Hp} {v : V} {c : Str} {fs : List (Str × D)} {pins : List (Addr × Obj)} {σ : L2.St} {s : Shared} {u : Value} (hK : X.K = W.K) (I : Inv X pins σ H s) (r : Rp W.K W.p M H v (.ob c fs)) (rv : RelV v u) :
    ∃ (a : Addr) (ox : Obj) (od : Option Obj), v = .ref a ∧ u = .ref a ∧ PySem.W.InstAt s.heap a ox (He.ga X.K c) od ∧ ox.data = .plain := by
  obtain ⟨a, dx, fv, rfl, ea, rf⟩ := rp_ob r
  obtain rfl : u = Value.ref a := rv
  rw [← hK] at ea
  obtain ⟨mA, J, _⟩ := ins_get I.hok ea
  obtain ⟨od, J, _⟩ := J.look
  exact ⟨a, _, od, rfl, rfl, J, rfl⟩
/-- a promise read where the operands are -/
theorem sp_two {φ : FD} {n : Nat} {ρ : Rho} {σ : L2.St} {H : Hp} {Q : VK} {Φ : KD} {Ψ : XD} {x y : V} {d e : D} (hK : X.K = W.K) {ts : List (Addr × Str)} (ht : W.ts = ts) (e0 : EnvOk W ρ n σ H) (r1 : Rp W.K W.p (Mu W ρ σ) H x d) (r2 : Rp W.K W.p (Mu W ρ σ) H y e) (h : φ [d, e] n Φ Ψ)
    (k : ∀ v H' z n', Φ z n' → EnvOk W ρ n' σ H' → EB W.p H H' → Rp W.K W.p (Mu W ρ σ) H' v z → Q v H') (x0 : ExW W E Ψ) : spD X.K ts 2 φ [x, y] H Q E := by
  rw [hK, ← ht]
  exact sp_read (m := 2) e0 (.cons r1 (.cons r2 .nil)) rfl h k x0
theorem sp_one {φ : FD} {n : Nat} {ρ : Rho} {σ : L2.St} {H : Hp} {Q : VK} {Φ : KD} {Ψ : XD} {x : V} {d : D} (hK : X.K = W.K) {ts : List (Addr × Str)} (ht : W.ts = ts) (e0 : EnvOk W ρ n σ H) (r1 : Rp W.K W.p (Mu W ρ σ) H x d) (h : φ [d] n Φ Ψ)
    (k : ∀ v H' z n', Φ z n' → EnvOk W ρ n' σ H' → EB W.p H H' → Rp W.K W.p (Mu W ρ σ) H' v z → Q v H') (x0 : ExW W E Ψ) : spD X.K ts 1 φ [x] H Q E := by
  rw [hK, ← ht]
  exact sp_read (m := 1) e0 (.cons r1 .nil) rfl h k x0
/-- own comparisons: ==, <, <= -/
theorem on_cmp {op : CmpOp} (hop : ∀ a b, compareOp op a b = richCompare op a b) {tbl : List (Str × FD)} {cs : List Str} {g : F2} {k : Nat} {ts : List (Addr × Str)} {nm : Str} (hnm : (cmpInfo op).2.1 = nm) (hK : X.K = W.K) (ht : W.ts = ts) (T : TBL (PM X ts k 2 nm (RightOk X.K cs)) tbl) (hr : Room k X.A) (hx : Passes (L2.CX X.prog X.w) X E)
    (hg : OpR X (compareOp op) (rN W E g)) : OpR X (compareOp op) (rN W E (selN tbl (okR cs) g)) := by
  intro pins s σ H x y v u Q I rx ry ⟨ρ, σ', n, Φ, Ψ, d, e, e0, r1, r2, f0, k0, x0⟩
  unfold selN at f0
  split at f0
  · rename_i c fs
    obtain ⟨φ, h1, h2, h3⟩ := f0
    obtain ⟨f, fd, ps, m, hl, F, hb, R⟩ := T c φ h1
    obtain ⟨ty, nf⟩ := right_ty hK R r2 h2
    obtain ⟨a, ox, od, rfl, rfl, J, _⟩ := ob_get hK I r1 rx
    obtain ⟨Z, KZ, z, _⟩ := kit_of (t := e.tag W.K) I ry (by rw [hK]; exact ty)
    obtain ⟨mm, hF⟩ := I.fr
    rw [hop]
    refine PySem.W.cmp_K (op := op) (hr.units0) hF I.ok.mod.kin J (KZ.ty _ _ I.kIn z) (by rw [hK] at nf ⊢; exact nf) (by rw [hnm]; exact m.at_) m.fn ?_
    refine wpAny_mono (Nx.run_at F hr I.env0 hb hx I (.cons (show RelV (.ref a) (.ref a) from rfl) (.cons ry .nil)) (sp_two hK ht e0 r1 r2 h3 k0 x0)) ?_ (fun _ _ e => e)
    rintro r s' ⟨c, H', I', rc, qc⟩
    exact Nx.back rc ⟨c, H', I', rc, qc⟩
  · exact hg pins s σ H x y v u Q I rx ry ⟨ρ, σ', n, Φ, Ψ, _, e, e0, r1, r2, f0, k0, x0⟩
/-- what != asks of a class with an own == -/
def NeOk (K : PySem.W.Frag) (cs : List Str) (C : Addr) : Prop := RightOk K cs C ∧ PySem.W.findIn K (.ref C) "__ne__" = some (some (.builtin "object.__ne__")) ∧ PySem.W.mroIn K C (.type "object") = some true
theorem on_ne {tbl : List (Str × FD)} {cs : List Str} {g : F2} {k : Nat} {ts : List (Addr × Str)} (hK : X.K = W.K) (ht : W.ts = ts) (T : TBL (PM X ts k 2 "__eq__" (NeOk X.K cs)) tbl) (hr : Room (k + 1) X.A) (hx : Passes (L2.CX X.prog X.w) X E)
    (hg : OpR X (compareOp .NotEq) (rN W E g)) : OpR X (compareOp .NotEq) (rN W E (selNe tbl (okR cs) g)) := by
  intro pins s σ H x y v u Q I rx ry ⟨ρ, σ', n, Φ, Ψ, d, e, e0, r1, r2, f0, k0, x0⟩
  unfold selNe at f0
  split at f0
  · rename_i c fs
    obtain ⟨φ, h1, h2, h3⟩ := f0
    obtain ⟨f, fd, ps, m, hl, F, hb, R, R2, R3⟩ := T c φ h1
    obtain ⟨ty, nf⟩ := right_ty hK R r2 h2
    obtain ⟨a, ox, od, rfl, rfl, J, _⟩ := ob_get hK I r1 rx
    obtain ⟨Z, KZ, z, _⟩ := kit_of (t := e.tag W.K) I ry (by rw [hK]; exact ty)
    show wpAny _ _ (richCompare .NotEq _ _) _ _ _
    refine Nx.rc_ne (by have := hr.un; omega) I.kIn J (KZ.ty _ _ I.kIn z) (by rw [hK] at nf ⊢; exact nf) R3 R2 m.at_ m.fn ?_
    refine wpAny_mono (Nx.run_at F hr.in1 I.env0.in1 hb hx I (.cons (show RelV (.ref a) (.ref a) from rfl) (.cons ry .nil)) (sp_two (Q := fun z H' => ∃ b, z = .bl b ∧ Q (.bl (!b)) H') hK ht e0 r1 r2 h3 (fun v H' z n' hz e' k' r' => ?_) x0)) ?_ (fun _ _ e => e)
    · obtain ⟨b, rfl, hz⟩ := hz
      cases r'
      exact ⟨b, rfl, k0 _ H' _ n' hz e' k' (.bl _)⟩
    · rintro r s' ⟨c, H', I', rc, b, rfl, qb⟩
      cases (show r = Value.bool b from rc)
      exact ⟨b, rfl, .bl (!b), H', I', rfl, qb⟩
  · exact hg pins s σ H x y v u Q I rx ry ⟨ρ, σ', n, Φ, Ψ, _, e, e0, r1, r2, f0, k0, x0⟩
/-- x in y, not in -/
theorem on_in {tbl : List (Str × FD)} {g : F2} {k : Nat} {ts : List (Addr × Str)} (hK : X.K = W.K) (ht : W.ts = ts) (T : TBL (PM X ts k 2 "__contains__" fun _ => True) tbl) (hr : Room k X.A) (hx : Passes (L2.CX X.prog X.w) X E)
    (hg : OpR X (compareOp .In) (rN W E g)) : OpR X (compareOp .In) (rN W E (selR false tbl g)) := by
  intro pins s σ H x y v u Q I rx ry ⟨ρ, σ', n, Φ, Ψ, d, e, e0, r1, r2, f0, k0, x0⟩
  unfold selR at f0
  split at f0
  · rename_i c fs
    obtain ⟨φ, h1, h3⟩ := f0
    obtain ⟨f, fd, ps, m, hl, F, hb, _⟩ := T c φ h1
    obtain ⟨a, ox, od, rfl, rfl, J, _⟩ := ob_get hK I r2 ry
    obtain ⟨mm, hF⟩ := I.fr
    refine PySem.W.in_K hF I.ok.mod.kin J m.at_ m.fn ?_
    refine wpAny_mono (Nx.run_at F hr I.env0 hb hx I (.cons (show RelV (.ref a) (.ref a) from rfl) (.cons rx .nil)) (sp_two (Q := fun z H' => ∃ b, z = .bl b ∧ Q (.bl b) H') hK ht e0 r2 r1 h3 (fun v H' z n' hz e' k' r' => ?_) x0)) ?_ (fun _ _ e => e)
    · obtain ⟨b, rfl, hz⟩ := hz
      cases r'
      rw [Bool.false_xor] at hz
      exact ⟨b, rfl, k0 _ H' _ n' hz e' k' (.bl _)⟩
    · rintro r s' ⟨c, H', I', rc, b, rfl, qb⟩
      cases (show r = Value.bool b from rc)
      exact wpAny_truthy_bool ⟨.bl b, H', I', rfl, qb⟩
  · exact hg pins s σ H x y v u Q I rx ry ⟨ρ, σ', n, Φ, Ψ, d, _, e0, r1, r2, f0, k0, x0⟩
theorem on_notIn {tbl : List (Str × FD)} {g : F2} {k : Nat} {ts : List (Addr × Str)} (hK : X.K = W.K) (ht : W.ts = ts) (T : TBL (PM X ts k 2 "__contains__" fun _ => True) tbl) (hr : Room k X.A) (hx : Passes (L2.CX X.prog X.w) X E)
    (hg : OpR X (compareOp .NotIn) (rN W E g)) : OpR X (compareOp .NotIn) (rN W E (selR true tbl g)) := by
  intro pins s σ H x y v u Q I rx ry ⟨ρ, σ', n, Φ, Ψ, d, e, e0, r1, r2, f0, k0, x0⟩
  unfold selR at f0
  split at f0
  · rename_i c fs
    obtain ⟨φ, h1, h3⟩ := f0
    obtain ⟨f, fd, ps, m, hl, F, hb, _⟩ := T c φ h1
    obtain ⟨a, ox, od, rfl, rfl, J, _⟩ := ob_get hK I r2 ry
    obtain ⟨mm, hF⟩ := I.fr
    refine PySem.W.notIn_K hF I.ok.mod.kin J m.at_ m.fn ?_
    refine wpAny_mono (Nx.run_at F hr I.env0 hb hx I (.cons (show RelV (.ref a) (.ref a) from rfl) (.cons rx .nil)) (sp_two (Q := fun z H' => ∃ b, z = .bl b ∧ Q (.bl (!b)) H') hK ht e0 r2 r1 h3 (fun v H' z n' hz e' k' r' => ?_) x0)) ?_ (fun _ _ e => e)
    · obtain ⟨b, rfl, hz⟩ := hz
      cases r'
      rw [Bool.true_xor] at hz
      exact ⟨b, rfl, k0 _ H' _ n' hz e' k' (.bl _)⟩
    · rintro r s' ⟨c, H', I', rc, b, rfl, qb⟩
      cases (show r = Value.bool b from rc)
      exact wpAny_truthy_bool ⟨.bl (!b), H', I', rfl, qb⟩
  · exact hg pins s σ H x y v u Q I rx ry ⟨ρ, σ', n, Φ, Ψ, d, _, e0, r1, r2, f0, k0, x0⟩
/-- what | & - ask of a class: nm, the dunder; rn, the reflected one; on the right the class itself or a built-in kind -/
def BinOk (K : PySem.W.Frag) (nm rn : Str) (cs : List Str) (C : Addr) : Prop := (PySem.W.selfFirst K C = true ∧ ∃ rc, PySem.W.findIn K (.ref C) rn = some rc ∧ (rc = none ∨ ∃ g : Addr, rc = some (.ref g))) ∧
  (∀ T ∈ ["NoneType", "bool", "int", "str", "tuple", "list", "dict"], ∃ fo ro, PySem.W.findIn K (.type T) nm = some fo ∧ PySem.W.findIn K (.type T) rn = some ro ∧ PySem.W.subIn K (.type T) (.ref C) = some false) ∧
  ∀ c ∈ cs, ClsJ K (He.ga K c) ∧ He.ga K c = C
theorem typeOf_base {H : Hp} {M : Addr → Prop} {pins : List (Addr × Obj)} {σ : L2.St} {s : Shared} {v : V} {u : Value} {d : D} {T : String} (hK : X.K = W.K) (I : Inv X pins σ H s) (r : Rp W.K W.p M H v d) (ru : RelV v u) (h : d.tn = some T) : PySem.W.Looks (model X.prog X.w) s.heap (typeOf u) (.type T) := by
  have ty : TyX X.K H v (d.tag X.K) := by
    rw [hK]
    exact tyx_of r (fun c fs z => by subst z; cases h) (fun c z => by subst z; cases h) (fun z => by subst z; cases h) (fun c fs z => by subst z; cases h) (fun a z => by subst z; cases h)
  obtain ⟨Z, KZ, z, _⟩ := kit_of I ru ty
  have := KZ.ty (model X.prog X.w) _ I.kIn z
  cases d <;> cases h <;> exact this
end
section
open PySem.W in
/-- a op b, a of an own class, b of a built-in kind: the way of a's class -/
theorem bin1_kind {pr : Program} {w : World} {A : Around} {E : Value → Shared → Prop} {s : Shared} {K : PySem.W.Frag} {x C f : Addr} {ox : Obj} {od : Option Obj} {T nn : String} {b : Value} {nm rn : Str} {fo ro rc : Option Value} {Q : Value → Shared → Prop}
    (kin : K.In s.heap) (J : PySem.W.InstAt s.heap x ox C od) (tb : PySem.W.Looks (model pr w) s.heap (typeOf b) (.type T)) (c1 : PySem.W.selfFirst K C = true) (e1 : PySem.dunder nn = nm) (e2 : dunderR nn = rn)
    (m1 : PySem.W.findIn K (.ref C) nm = some (some (.ref f))) (m2 : PySem.W.isFn K (.ref f) = true) (m3 : PySem.W.findIn K (.ref C) rn = some rc) (m4 : rc = none ∨ ∃ g : Addr, rc = some (.ref g))
    (t1 : PySem.W.findIn K (.type T) nm = some fo) (t2 : PySem.W.findIn K (.type T) rn = some ro) (t3 : PySem.W.subIn K (.type T) (.ref C) = some false)
    (go : wpAny (model pr w) A (call (.ref f) [.ref x, b]) (PySem.W.CmpBack Q) E s) : wpAny (model pr w) A (binaryOp1 nn (.ref x) b) (fun r s' => ∃ v, r = some v ∧ Q v s') E s := by
  obtain ⟨cd, rest, q1, q2⟩ := PySem.W.ksp_first c1
  subst e1 e2
  have way := PySem.W.ksp_try kin J m1 m2 go
  obtain ⟨hp, gs, dr, tk, os⟩ := s
  have k1 : PySem.W.Looks (model pr w) hp (typeOf (.ref x)) (.ref C) := J.type
  have k2 : PySem.W.Looks (model pr w) hp (typeOf b) (.type T) := tb
  have k3 := PySem.W.fills_K (M := model pr w) kin q1 q2 m1
  have k4 := PySem.W.ksp_fillsT (M := model pr w) kin t1 t2
  have k5 := PySem.W.looks_subIn (M := model pr w) kin t3
  have k6 := PySem.W.ksp_inPy (M := model pr w) kin m1 m3 m4
  have k7 : PySem.W.Looks (model pr w) hp (numberSlotInPython (.type T) nn) false := PySem.W.Looks.of_pure rfl
  have k8 := PySem.W.looks_findIn (M := model pr w) kin t2
  generalize ((fo.isSome && !isSeqSlot fo) || (ro.isSome && !isSeqSlot ro)) = rt at k4
  have ne : (Value.ref C == Value.type T) = false := Bool.eq_false_iff.mpr fun q => by cases beq_iff_eq.mp q
  unfold binaryOp1
  refine wpAny_bind (k1.at (wpAny_bind (k2.at (wpAny_bind (k3.at ?_)))))
  simp only [ne, Bool.false_eq_true, if_false]
  cases rt <;>
  · ksp_lk
    refine wpAny_mono way (fun r s' ⟨v, e, hq⟩ => ?_) fun _ _ e => e
    subst e
    ksp_lk
    exact ⟨v, rfl, hq⟩
/-- .. b of the same class -/
theorem bin1_same {pr : Program} {w : World} {A : Around} {E : Value → Shared → Prop} {s : Shared} {K : PySem.W.Frag} {x C f : Addr} {ox : Obj} {od : Option Obj} {nn : String} {b : Value} {nm : Str} {Q : Value → Shared → Prop}
    (kin : K.In s.heap) (J : PySem.W.InstAt s.heap x ox C od) (tb : PySem.W.Looks (model pr w) s.heap (typeOf b) (.ref C)) (c1 : PySem.W.selfFirst K C = true) (e1 : PySem.dunder nn = nm)
    (m1 : PySem.W.findIn K (.ref C) nm = some (some (.ref f))) (m2 : PySem.W.isFn K (.ref f) = true)
    (go : wpAny (model pr w) A (call (.ref f) [.ref x, b]) (PySem.W.CmpBack Q) E s) : wpAny (model pr w) A (binaryOp1 nn (.ref x) b) (fun r s' => ∃ v, r = some v ∧ Q v s') E s := by
  obtain ⟨cd, rest, q1, q2⟩ := PySem.W.ksp_first c1
  subst e1
  have way := PySem.W.ksp_try kin J m1 m2 go
  obtain ⟨hp, gs, dr, tk, os⟩ := s
  have k1 : PySem.W.Looks (model pr w) hp (typeOf (.ref x)) (.ref C) := J.type
  have k2 : PySem.W.Looks (model pr w) hp (typeOf b) (.ref C) := tb
  have k3 := PySem.W.fills_K (M := model pr w) kin q1 q2 m1
  unfold binaryOp1
  refine wpAny_bind (k1.at (wpAny_bind (k2.at (wpAny_bind (k3.at ?_)))))
  simp only [beq_self_eq_true, if_true]
  ksp_lk
  refine wpAny_mono way (fun r s' ⟨v, e, hq⟩ => ?_) fun _ _ e => e
  subst e
  ksp_lk
  exact ⟨v, rfl, hq⟩
theorem bin_of1 {pr : Program} {w : World} {A : Around} {E : Value → Shared → Prop} {s : Shared} {op : Operator} {a b : Value} {Q : Value → Shared → Prop} (h : wpAny (model pr w) A (binaryOp1 op.info.2 a b) (fun r s' => ∃ v, r = some v ∧ Q v s') E s) : wpAny (model pr w) A (binaryOp op a b) Q E s := by
  simp only [binaryOp]
  refine wpAny_holding (wpAny_bind (wpAny_mono h (fun r s' ⟨v, e, q⟩ => ?_) fun _ _ e => e))
  subst e
  exact wpAny_pure q
/-- no class of it has a way in place -/
def noInpl (K : PySem.W.Frag) (C : Addr) (i : Str) : Bool := (PySem.W.clsIn K C).any fun cd => cd.mro.all fun c => PySem.W.findIn K c i == some none
theorem fills_no {pr : Program} {w : World} {K : PySem.W.Frag} {C : Addr} {nn : String} {h : Heap} (kin : K.In h) (n : noInpl K C (dunderI nn) = true) : PySem.W.Looks (model pr w) h (fillsInplaceSlot (.ref C) nn false) false := by
  obtain ⟨cd, q1, q2⟩ : ∃ cd, PySem.W.clsIn K C = some cd ∧ (cd.mro.all fun c => PySem.W.findIn K c (dunderI nn) == some none) = true := by
    unfold noInpl at n
    cases e : PySem.W.clsIn K C with
    | none => rw [e] at n; cases n
    | some cd => rw [e] at n; exact ⟨cd, rfl, n⟩
  have Lm : PySem.W.Looks (model pr w) h (mroOf (.ref C)) cd.mro := (PySem.W.looks_clsIn kin q1).andThen (f := fun cd => pure cd.mro) .now
  have each : ∀ (g : Value → Sem Bool) (l : List Value), (∀ c ∈ l, ∀ (A : Around) (Q : Bool → Shared → Prop) (E : Value → Shared → Prop) (s : Shared), K.In s.heap → Q false s → wpAny (model pr w) A (g c) Q E s) →
      ∀ (A : Around) (Q : Bool → Shared → Prop) (E : Value → Shared → Prop) (s : Shared), K.In s.heap → Q false s → wpAny (model pr w) A (l.anyM g) Q E s := by
    intro g l
    induction l with
    | nil => intro _ A Q E s _ q; exact wpAny_pure q
    | cons c r ih =>
      intro ha A Q E s kin' q
      rw [List.anyM_cons]
      exact wpAny_bind (ha c List.mem_cons_self A _ E s kin' (ih (fun c hc => ha c (List.mem_cons_of_mem _ hc)) A Q E s kin' q))
  intro A Q E s k q
  unfold fillsInplaceSlot
  refine wpAny_bind ((Lm.keeps k).here (each _ _ (fun c hc A Q E s kin' q => ?_) A Q E s (kin.keeps k) q))
  exact wpAny_bind ((PySem.W.looks_findIn kin' (beq_iff_eq.mp (List.all_eq_true.mp q2 c hc))).here (wpAny_pure q))
theorem inpl_of1 {pr : Program} {w : World} {A : Around} {E : Value → Shared → Prop} {s : Shared} {K : PySem.W.Frag} {x C : Addr} {ox : Obj} {od : Option Obj} {op : Operator} {b : Value} {Q : Value → Shared → Prop} (hop : (op == .Add) = false) (kin : K.In s.heap) (J : PySem.W.InstAt s.heap x ox C od) (n : noInpl K C (dunderI op.info.2) = true)
    (h : wpAny (model pr w) A (binaryOp1 op.info.2 (.ref x) b) (fun r s' => ∃ v, r = some v ∧ Q v s') E s) : wpAny (model pr w) A (inplaceOp op (.ref x) b) Q E s := by
  unfold inplaceOp
  refine wpAny_holding (wpAny_bind (J.type.here (wpAny_bind ?_)))
  rw [hop]
  refine (fills_no (pr := pr) (w := w) kin n).here ?_
  refine wpAny_bind (m := binaryOp1 op.info.2 (.ref x) b) (wpAny_mono h (fun r s' ⟨v, e, q⟩ => ?_) fun _ _ e => e)
  subst e
  exact wpAny_pure q
end
section
variable {X : Cx} {W : Wd} {E : XK}
theorem on_bin {op : Operator} {nm rn : Str} {tbl : List (Str × FD)} {cs : List Str} {g : F2} {k : Nat} {ts : List (Addr × Str)} (e1 : PySem.dunder op.info.2 = nm) (e2 : dunderR op.info.2 = rn) (hK : X.K = W.K) (ht : W.ts = ts) (T : TBL (PM X ts k 2 nm (BinOk X.K nm rn cs)) tbl) (hr : Room k X.A) (hx : Passes (L2.CX X.prog X.w) X E)
    (hg : OpR X (binaryOp op) (rN W E g)) : OpR X (binaryOp op) (rN W E (selN tbl (okR cs) g)) := by
  intro pins s σ H x y v u Q I rx ry ⟨ρ, σ', n, Φ, Ψ, d, e, e0, r1, r2, f0, k0, x0⟩
  unfold selN at f0
  split at f0
  · rename_i c fs
    obtain ⟨φ, h1, h2, h3⟩ := f0
    obtain ⟨f, fd, ps, m, hl, F, hb, ⟨B1, rc, B2, B3⟩, B4, B5⟩ := T c φ h1
    obtain ⟨a, ox, od, rfl, rfl, J, _⟩ := ob_get hK I r1 rx
    have run := Nx.run_at F hr I.env0 hb hx I (.cons (show RelV (.ref a) (.ref a) from rfl) (.cons ry .nil)) (sp_two hK ht e0 r1 r2 h3 k0 x0)
    have run' : wpAny (model X.prog X.w) X.A (call (.ref f) [.ref a, u]) (PySem.W.CmpBack (EP X pins σ Q)) X.xe s := wpAny_mono run (fun r s' ⟨c, H', I', rc, qc⟩ => Nx.back rc ⟨c, H', I', rc, qc⟩) (fun _ _ e => e)
    have byT : ∀ T, e.tn = some T → T ∈ ["NoneType", "bool", "int", "str", "tuple", "list", "dict"] → wpAny (model X.prog X.w) X.A (binaryOp op (.ref a) u) (EP X pins σ Q) X.xe s := fun T hT hm => by
      obtain ⟨fo, ro, t1, t2, t3⟩ := B4 T hm
      exact bin_of1 (bin1_kind I.kIn J (typeOf_base hK I r2 ry hT) B1 e1 e2 m.at_ m.fn B2 B3 t1 t2 t3 run')
    cases e with
    | ob c2 fs2 =>
      obtain ⟨_, ec⟩ := B5 c2 (by simpa [okR] using h2)
      obtain ⟨a2, ox2, od2, rfl, rfl, J2, _⟩ := ob_get hK I r2 ry
      rw [ec] at J2
      exact bin_of1 (bin1_same I.kIn J J2.type B1 e1 m.at_ m.fn run')
    | non => exact byT _ rfl (by simp)
    | bl _ => exact byT _ rfl (by simp)
    | int _ => exact byT _ rfl (by simp)
    | str _ => exact byT _ rfl (by simp)
    | tup _ => exact byT _ rfl (by simp)
    | lst _ => exact byT _ rfl (by simp)
    | dct _ => exact byT _ rfl (by simp)
    | cl _ => cases h2
    | pen => cases h2
    | er _ _ => cases h2
    | fn _ => cases h2
  · exact hg pins s σ H x y v u Q I rx ry ⟨ρ, σ', n, Φ, Ψ, _, e, e0, r1, r2, f0, k0, x0⟩
/-! ### attributes: fields, properties, errors' fields -/
def attD (fcs ecs : List Str) (ps : List (Str × FD)) (f : Str) : F1 := fun x n Φ _ => match x with
  | .ob c fs => (fcs.contains c = true ∧ ∃ y, fs.lookup f = some y ∧ Φ y n) ∨ (∃ φ, ps.lookup c = some φ ∧ φ [.ob c fs] n Φ (fun _ _ => False))
  | .er c fs => ecs.contains c = true ∧ ∃ y, fs.lookup f = some y ∧ Φ y n
  | _ => False
def PProp (X : Cx) (ts : List (Addr × Str)) (k : Nat) (f : Str) : Str → FD → Prop := fun c φ => Cls X.K (He.ga X.K c) ∧ ∃ p g fd, PropOf X.K (He.ga X.K c) f p g ∧ FnOk X.prog X.w X.K X.mg X.base (L2.CX X.prog X.w) k g fd ["self"] (spD X.K ts 1 φ) ∧ Binds X.K fd ["self"] []
theorem dx_att {fcs ecs : List Str} {ps : List (Str × FD)} {k : Nat} {f : Str} {e : Expr} {pos : Pos} {to_ : TD} {ts : List (Addr × Str)} (hK : X.K = W.K) (ht : W.ts = ts) (hf : ∀ c ∈ fcs, Cls X.K (He.ga X.K c) ∧ NoAttr X.K (He.ga X.K c) f)
    (hec : ∀ c ∈ ecs, XfC X.K (He.ga X.K c) ∧ PySem.W.findIn X.K (.ref (He.ga X.K c)) f = some none) (T : TBL (PProp X ts k f) ps) (he : PE X e (lift W E to_)) (hr : Room (k + 1) X.A) (hab : attributeBase e f X.env (eval e X.env) = eval e X.env := by rfl) :
    PE X (.Attribute e f pos) (lift W E (dUnN (attD fcs ecs ps f) to_)) := by
  refine ⟨fun pins s σ H Q I ⟨ρ, n, Φ, Ψ, e0, t, k0, x0⟩ => ?_⟩
  refine attr_of hab (thn (he.run pins s σ H (fun v H1 => ∃ d n1, attD fcs ecs ps f d n1 Φ Ψ ∧ EnvOk W ρ n1 σ H1 ∧ EB W.p H H1 ∧ Rp W.K W.p (Mu W ρ σ) H1 v d) I
    ⟨ρ, n, _, Ψ, e0, t, fun v H1 d n1 h1 e1 k1 r1 => ⟨d, n1, h1, e1, k1, r1⟩, x0⟩) fun u s1 ⟨x, H1, I1, rx, d, n1, q, e1, k1, r1⟩ => ?_)
  unfold attD at q
  split at q
  · rename_i c fs
    have r1' := r1
    obtain ⟨a, dx, fv, rfl, ea, rf⟩ := rp_ob r1
    obtain rfl : u = Value.ref a := rx
    rw [← hK] at ea
    rcases q with ⟨hc, y, hy, hΦ⟩ | ⟨φ, hp, h⟩
    · obtain ⟨g1, g2⟩ := hf c (by simpa using hc)
      obtain ⟨v, hv, rv⟩ := rf.lookup hy
      exact getattr_ok I1 ea g1 g2 hv fun u s' I' ru => ⟨v, H1, I', ru, k0 v H1 y n1 hΦ e1 k1 rv⟩
    · obtain ⟨g1, p, g, fd, g2, F, hb⟩ := T c φ hp
      exact getprop_ok I1 ea g1 g2 F hr hb .nil (passF (X := X.nox)) (sp_one (E := EF) hK ht e1 r1' h (fun v H' d n' hd e' k' r' => k0 v H' d n' hd e' (k1.trans k') r') exF)
  · rename_i c fs
    obtain ⟨hc, y, hy, hΦ⟩ := q
    obtain ⟨g1, g2⟩ := hec c (by simpa using hc)
    cases r1 with
    | er n n2 h kk h2 r =>
      obtain rfl : u = Value.ref _ := rx
      obtain ⟨v, hv, rv⟩ := r.lookup hy
      have T1 := g1
      obtain ⟨φ, rfl, kk⟩ := kk
      obtain ⟨w1, _⟩ := I1.hok _ _ h
      obtain ⟨oe, w2, w3, vs, w4⟩ := kk _ w1
      obtain ⟨mA, hns, hr2⟩ := (show ObjOk X.prog X.w H1 s1.heap _ (.xd _) from I1.hok _ _ h2)
      obtain ⟨od, ho, hl⟩ := lookIn_ns hns
      obtain ⟨u, hu, ru⟩ := RelO.some_of (v := v) (o := mA f) (by rw [← hv]; exact hr2 f)
      have J : PySem.W.InstAt s1.heap _ oe (He.ga X.K c) (some od) := ⟨w2, by rw [hK]; exact w3.1, by unfold PySem.W.notCls; rw [w4] <;> rfl, by rw [w3.2]; exact ho⟩
      exact HandSPX.exc_get I1.kIn J T1.ga T1.gg T1.exC (PySem.W.findObj_own T1.hdC g2 rfl (by rw [hl, hu])) (handed_of ru) ⟨v, H1, I1.tok _, ru, k0 v H1 y n1 hΦ e1 k1 rv⟩
    | er0 n h kk => cases hy
  · exact q.elim
/-! ### ~x, len(x), x[i], x() -/
theorem un_invN {tbl : List (Str × FD)} {g : F1} {k : Nat} {ts : List (Addr × Str)} (hK : X.K = W.K) (ht : W.ts = ts) (T : TBL (PM X ts k 1 "__invert__" fun _ => True) tbl) (hr : Room k X.A) (hx : Passes (L2.CX X.prog X.w) X E)
    (hg : UnR X (unaryOp .Invert) (uN W E g)) : UnR X (unaryOp .Invert) (uN W E (sel1 tbl g)) := by
  intro pins s σ H x v Q I rx ⟨ρ, σ', n, Φ, Ψ, d, e0, r1, f0, k0, x0⟩
  unfold sel1 at f0
  split at f0
  · rename_i c fs
    obtain ⟨φ, h1, h3⟩ := f0
    obtain ⟨f, fd, ps, m, hl, F, hb, _⟩ := T c φ h1
    obtain ⟨a, ox, od, rfl, rfl, J, _⟩ := ob_get hK I r1 rx
    obtain ⟨mm, hF⟩ := I.fr
    exact PySem.W.ksp_inv hF I.ok.mod.kin J m.at_ m.fn (Nx.run_at F hr I.env0 hb hx I (.cons (show RelV (.ref a) (.ref a) from rfl) .nil) (sp_one hK ht e0 r1 h3 k0 x0))
  · exact hg pins s σ H x v Q I rx ⟨ρ, σ', n, Φ, Ψ, _, e0, r1, f0, k0, x0⟩
end
end DL
/-! own variables; methods of texts -/
namespace DL
open PySem PySem.Spec PyProof.Rows L2 Gx KX LamX
/-- nothing stands at a but perhaps a table -/
def Nw (H : Hp) (a : Addr) : Prop := ∀ o, H a = some o → ∃ ps, o = .tbl ps
theorem nw_none {H : Hp} {a : Addr} (h : H a = none) : Nw H a := fun o e => by rw [h] at e; cases e
theorem nw_eb {W : Wd} {H H1 : Hp} {a : Addr} (k : EB W.p H H1) (hp : a ≠ W.p) (h : H1 a = none) : Nw H a := fun o e => by
  by_cases ht : ∃ ps, o = .tbl ps
  · exact ht
  · have q := k a o hp e (fun ps z => ht ⟨ps, z⟩)
    rw [h] at q
    cases q
abbrev TFD := Rho → Nat → (Ow → Nat → Prop) → XD → Prop
/-- an expression that makes a new object -/
def liftF (W : Wd) (E : XK) (τ : TFD) : TE := fun σ H Q => ∃ (ρ : Rho) (n : Nat) (Φ : Ow → Nat → Prop) (Ψ : XD), EnvOk W ρ n σ H ∧ τ ρ n Φ Ψ ∧
  (∀ a H' o n', Φ o n' → EnvOk W ρ n' σ H' → EB W.p H H' → Nw H a → OwOk W (fun b => Mu W ρ σ b ∨ b = a) H' a o → Q (.ref a) H') ∧ ExW W E Ψ
def fLst (a : TAD) : TFD := fun ρ n Φ Ψ => a ρ n (fun xs n1 => xs.length ≤ sizeLine ∧ Φ (.lst xs) n1) Ψ
def fDct : TFD := fun _ n Φ _ => Φ (.dct []) n
/-- list(e) -/
def fList (a : TD) : TFD := fun ρ n Φ Ψ => a ρ n (fun x n1 => ∃ xs, (x = .lst xs ∨ x = .tup xs ∨ ∃ z : Str, x = .str z ∧ z.length ≤ sizeLine ∧ xs = chS z) ∧ Φ (.lst xs) n1) Ψ
/-- a + b of lists -/
def fCat (a b : TD) : TFD := fun ρ n Φ Ψ => a ρ n (fun x n1 => b ρ n1 (fun y n2 => ∃ xs ys, x = .lst xs ∧ y = .lst ys ∧ xs.length + ys.length ≤ sizeLine ∧ Φ (.lst (xs ++ ys)) n2) Ψ) Ψ
def fSl (a : TD) (l h : TOD) : TFD := fun ρ n Φ Ψ => a ρ n (fun x n1 => l ρ n1 (fun lo n2 => h ρ n2 (fun hi n3 => ∃ xs, x = .lst xs ∧ Φ (.lst (cutD xs lo hi)) n3) Ψ) Ψ) Ψ
section
variable {X : Cx} {W : Wd} {E : XK}
theorem EnvOk.pne {ρ : Rho} {n : Nat} {σ : L2.St} {H : Hp} (e : EnvOk W ρ n σ H) {a : Addr} (h : H a = none) : a ≠ W.p := fun z => by
  obtain ⟨xs, q⟩ := e.pen.at_
  rw [← z, h] at q
  cases q
theorem df_lst {es : List Expr} {pos : Pos} {ta : TAD} (ha : PA X es (liftA W E ta)) : PE X (.List es pos) (liftF W E (fLst ta)) := pe_imp (pe_lst ha) fun σ H Q ⟨ρ, n, Φ, Ψ, e, t, k, x⟩ =>
  ⟨ρ, n, _, Ψ, e, t, fun vs H1 ds n1 h1 e1 k1 r1 => ⟨by rw [r1.length]; exact h1.1, fun p np => by
    have s := new_same np (.lst vs)
    exact k p _ _ n1 h1.2 (e1.same s) (k1.trans (EB.same s)) (nw_eb k1 (e1.pne np) np) ⟨vs, upd_same, (r1.more np).em (EM.same s)⟩⟩, x⟩
theorem df_dct {pos : Pos} : PE X (.Dict [] [] pos) (liftF W E fDct) := pe_imp pe_dnewK fun σ H Q ⟨ρ, n, Φ, Ψ, e, t, k, x⟩ => fun p np => by
  have s := new_same np (.dK [])
  exact k p _ _ n t (e.same s) (EB.same s) (nw_none np) ⟨[], upd_same, .nil⟩
def rListF (W : Wd) : List V → Hp → VK → Prop := fun xs H Q => ∃ (M : Addr → Prop) (v : V) (d : D) (ds : List D), xs = [v] ∧ Rp W.K W.p M H v d ∧ (d = .lst ds ∨ d = .tup ds ∨ ∃ z : Str, d = .str z ∧ z.length ≤ sizeLine ∧ ds = chS z) ∧ ∀ a vs, H a = none → RpL W.K W.p M H vs ds → Q (.ref a) (upd H a (.lst vs))
theorem cf_list (hc : X.calm = true) (hK : X.K = W.K) : CallR X (.type "list") (rListF W) := by
  intro pins s σ H xs us Q I r ⟨M, v, d, ds, hx, r1, hd, q⟩
  subst hx
  rcases hd with rfl | rfl | ⟨z, rfl, hz, rfl⟩
  · cases r1 with
    | lst n1 h1 l1 => exact call_list_of pins s σ H _ us Q I r ⟨_, _, rfl, .inl (SqL.of h1), fun p np => q p _ np l1⟩
  · cases r1 with
    | tup n1 h1 l1 => exact call_list_of pins s σ H _ us Q I r ⟨_, _, rfl, .inr (SqT.of h1), fun p np => q p _ np l1⟩
    | tupS h1 l1 => exact call_list_of pins s σ H _ us Q I r ⟨_, _, rfl, .inr (hK ▸ h1 _), fun p np => q p _ np l1⟩
  · cases r1
    exact call_list_sign hc pins s σ H _ us Q I r ⟨_, rfl, hz, fun p np => q p _ np (ch_rp _)⟩
theorem df_list (hc : X.calm = true) (hK : X.K = W.K) {e : Expr} {p pos : Pos} {ta : TD} (hg : Gl X "list") (hm : X.mg "list" = none) (ha : PE X e (lift W E ta)) (he : starEach [e] X.env = (false, eval e X.env) :: starEach [] X.env := by rfl) : PE X (.Call (.Name "list" p) [e] [] pos) (liftF W E (fList ta)) :=
  pe_imp (pe_callTy (cf_list hc hK) hg hm (by decide +kernel) (pa_cons ha pa_nil he) (by decide) (by decide) he rfl) fun σ H Q ⟨ρ, n, Φ, Ψ, e, t, k, x⟩ =>
    ⟨ρ, n, _, Ψ, e, t, fun v H1 d n1 ⟨ds, hd, h1⟩ e1 k1 r1 => ⟨_, v, d, ds, rfl, r1, hd, fun a vs na rl => by
      have s := new_same na (.lst vs)
      exact k a _ _ n1 h1 (e1.same s) (k1.trans (EB.same s)) (nw_eb k1 (e1.pne na) na) ⟨vs, upd_same, (rl.more na).em (EM.same s)⟩⟩, x⟩
def rCatF (W : Wd) : R2 := fun x y H Q => ∃ (M : Addr → Prop) (xs ys : List D), Rp W.K W.p M H x (.lst xs) ∧ Rp W.K W.p M H y (.lst ys) ∧ xs.length + ys.length ≤ sizeLine ∧ ∀ a vs, H a = none → RpL W.K W.p M H vs (xs ++ ys) → Q (.ref a) (upd H a (.lst vs))
theorem of_cat : OpR X (binaryOp .Add) (rCatF W) := by
  intro pins s σ H x y v u Q I rx ry ⟨M, xs, ys, r1, r2, hs, q⟩
  cases r1 with
  | lst n1 h1 l1 => cases r2 with
    | lst n2 h2 l2 => exact op_cat pins s σ H _ _ v u Q I rx ry ⟨_, _, _, _, rfl, rfl, h1, h2, by rw [l1.length, l2.length]; exact hs, fun p np => q p _ np (l1.append l2)⟩
theorem df_cat {a b : Expr} {ta tb : TD} {pos : Pos} (ha : PE X a (lift W E ta)) (hb : PE X b (lift W E tb)) : PE X (.BinOp a .Add b pos) (liftF W E (fCat ta tb)) :=
  pe_imp (pe_op (of_cat (W := W)) ha hb) fun σ H Q ⟨ρ, n, Φ, Ψ, e, t, k, x⟩ => ⟨ρ, n, _, Ψ, e, t, fun v H1 d n1 h1 e1 k1 r1 => ⟨ρ, n1, _, Ψ, e1, h1, fun u H2 c n2 ⟨xs, ys, q1, q2, q3, h2⟩ e2 k2 r2 => by
    subst q1 q2
    refine ⟨Mu W ρ σ, xs, ys, r1.em (e1.eb k2), r2, q3, fun a vs na rl => ?_⟩
    have s := new_same na (.lst vs)
    exact k a _ _ n2 h2 (e2.same s) ((k1.trans k2).trans (EB.same s)) (nw_eb (k1.trans k2) (e2.pne na) na) ⟨vs, upd_same, (rl.more na).em (EM.same s)⟩, x⟩, x⟩
theorem OwOk.gen {M M' : Addr → Prop} {H H' : Hp} {b : Addr} {o : Ow} (h : OwOk W M H b o) (e : EM M H H') (m : ∀ b, M' b → M b ∨ Nw H b) (k : ∀ u, H b = some u → (∀ ps, u ≠ .tbl ps) → H' b = some u) : OwOk W M' H' b o := by
  cases o with
  | lst ds =>
    obtain ⟨vs, h1, h2⟩ := h
    exact ⟨vs, k _ h1 (by intro ps z; cases z), h2.gen e m⟩
  | dct ks =>
    obtain ⟨vs, h1, h2⟩ := h
    exact ⟨vs, k _ h1 (by intro ps z; cases z), h2.gen e m⟩
  | ins c fs =>
    obtain ⟨dx, vs, h1, h2⟩ := h
    exact ⟨dx, vs, k _ h1 (by intro ps z; cases z), h2.gen e m⟩
/-- a new object, made meanwhile, becomes the def's own -/
theorem EnvOk.own' {ρ : Rho} {n n' : Nat} {σ : L2.St} {H H' : Hp} {i : Nat} {o : Ow} {a : Addr} (e0 : EnvOk W ρ n σ H) (e : EnvOk W ρ n' σ H') (eb : EB W.p H H') (nw : Nw H a) (h : OwOk W (fun b => Mu W ρ σ b ∨ b = a) H' a o) :
    EnvOk W (ρ.set i (.own o)) n' (σ.set i (some (.ref a))) H' := by
  have le : ∀ b, Mu W (ρ.set i (Sl.own o)) (σ.set i (some (.ref a))) b → Mu W ρ σ b ∨ b = a := fun b => mu_own
  have lw : ∀ b, Mu W (ρ.set i (Sl.own o)) (σ.set i (some (.ref a))) b → Mu W ρ σ b ∨ Nw H b := fun b m => (le b m).imp id fun z => by subst z; exact nw
  have em : EM (Mu W ρ σ) H H' := EM.eb eb e0.mup
  have ap : a ≠ W.p := fun z => by
    obtain ⟨xs, q⟩ := e0.pen.at_
    rw [← z] at q
    obtain ⟨ps, w⟩ := nw _ q
    cases w
  refine ⟨fun j y g => ?_, fun j o' g => ?_, fun j k o1 o2 b h1 h2 h3 h4 => ?_, e.pen, e.tab, e.base, e.cp, e.cm, e.mq, e.mal, e.mlv, by rw [List.length_set, List.length_set, e.len]⟩
  · rcases set_get g with ⟨_, z⟩ | ⟨ne, z⟩
    · cases z
    · obtain ⟨w, h1, h2⟩ := e0.sl j y z
      exact ⟨w, by rw [List.getElem?_set, if_neg (fun z => ne z.symm)]; exact h1, h2.gen em lw⟩
  · rcases set_get g with ⟨rfl, z⟩ | ⟨ne, z⟩
    · cases z
      have hl : j < σ.length := by
        have := (List.getElem?_eq_some_iff.mp g).1
        rw [List.length_set, e.len] at this
        exact this
      refine ⟨a, by rw [List.getElem?_set, if_pos rfl, if_pos hl], h.less le, ap, fun u hu => ?_⟩
      by_cases ht : ∃ ps, u = .tbl ps
      · exact ht
      · exact nw u (e0.base a u (fun z => by
          obtain ⟨o', q1, q2⟩ := e0.mlv a (e0.cm _ z)
          obtain ⟨ps, q3⟩ := nw _ q1
          exact q2 ps q3) hu (fun ps z => ht ⟨ps, z⟩))
    · obtain ⟨b, h1, h2, h3, h4⟩ := e0.ow j o' z
      exact ⟨b, by rw [List.getElem?_set, if_neg (fun z => ne z.symm)]; exact h1, h2.gen em lw (fun u hu ht => eb b u h3 hu ht), h3, h4⟩
  · have old : ∀ (j : Nat) (o1 : Ow), ρ[j]? = some (Sl.own o1) → σ[j]? = some (some (V.ref a)) → False := fun j o1 g1 g2 => by
      obtain ⟨b, q1, q2, _⟩ := e0.ow j o1 g1
      rw [g2] at q1
      cases q1
      obtain ⟨w, q3, q4⟩ := q2.there
      obtain ⟨ps, q5⟩ := nw _ q3
      exact q4 ps q5
    rcases set_get h1 with ⟨e1, z1⟩ | ⟨n1, z1⟩
    · rcases set_get h2 with ⟨e2, z2⟩ | ⟨n2, z2⟩
      · rw [e1, e2]
      · rcases set_get h3 with ⟨_, z3⟩ | ⟨n3, _⟩
        · cases z3
          rw [List.getElem?_set, if_neg (fun z => n2 z.symm)] at h4
          exact (old _ _ z2 h4).elim
        · exact absurd e1 n3
    · rw [List.getElem?_set, if_neg (fun z => n1 z.symm)] at h3
      rcases set_get h2 with ⟨e2, z2⟩ | ⟨n2, z2⟩
      · rcases set_get h4 with ⟨_, z3⟩ | ⟨n3, _⟩
        · cases z3
          exact (old _ _ z1 h3).elim
        · exact absurd e2 n3
      · rw [List.getElem?_set, if_neg (fun z => n2 z.symm)] at h4
        exact e0.inj j k o1 o2 b z1 z2 h3 h4
theorem Rl.own' {ρ : Rho} {n : Nat} {σ : L2.St} {H H' : Hp} {i : Nat} {o : Ow} {a : Addr} (e0 : EnvOk W ρ n σ H) (eb : EB W.p H H') (nw : Nw H a) (ni : ∀ c fs, o ≠ .ins c fs) : Rl W ρ σ H (ρ.set i (.own o)) (σ.set i (some (.ref a))) H' :=
  ⟨EM.eb eb e0.mup, fun b m => (mu_own m).imp id fun z => by subst z; exact nw, fun j c fs h => by
    rcases set_get h with ⟨_, z⟩ | ⟨ne, z⟩
    · cases z; exact (ni _ _ rfl).elim
    · exact ⟨⟨fs, z⟩, by rw [List.getElem?_set, if_neg (fun z => ne z.symm)]⟩⟩
/-- x = a new object -/
def sOwn (i : Nat) (f : TFD) : TSD := fun En ρ n => f ρ n (fun o n1 => (∀ c fs, o ≠ .ins c fs) ∧ En.nx (ρ.set i (.own o)) n1) En.ex
theorem ds_own {i : Nat} {x : Str} {e : Expr} {tf : TFD} {pos pos' : Pos} (hN : X.N.Nodup) (hi : X.N[i]? = some x) (hx : Loc X.env.scope x) (hf : X.fn x = true ∨ X.env.scope.names.lookup x = some .local) (he : PE X e (liftF W E tf)) (hs : swapsWith e (some (.Name x pos')) pos.line X.env = pure false := by rfl) :
    PS X (.Assign [.Name x pos'] e pos) (liftS W E (sOwn i tf)) := ps_imp (ps_set hN hi hx he hs hf) fun D σ H ⟨ρ, n, En, e, t, k⟩ =>
  ⟨ρ, n, _, _, e, t, fun a H' o n' h e' q nw ow => k.nx _ H' _ n' h.2 (e.own' e' q nw ow) (Rl.own' e q nw h.1), k.ex⟩
/-- x.append(e) -/
def sApp (i : Nat) (a : TD) : TSD := fun En ρ n => ∃ ds, ρ[i]? = some (.own (.lst ds)) ∧ a ρ n (fun y n1 => ds.length < sizeLine ∧ En.nx (ρ.set i (.own (.lst (ds ++ [y])))) n1) En.ex
theorem put_lst {ρ : Rho} {n : Nat} {σ : L2.St} {H : Hp} {i : Nat} {o : Ow} {a : Addr} {vs : List V} {ds : List D} (e : EnvOk W ρ n σ H) (h : ρ[i]? = some (.own o)) (ha : σ[i]? = some (some (.ref a))) (no : ∀ c fs, o ≠ .ins c fs) (r : RpL W.K W.p (Mu W ρ σ) H vs ds) :
    EnvOk W (ρ.set i (.own (.lst ds))) n σ (upd H a (.lst vs)) ∧ Rl W ρ σ H (ρ.set i (.own (.lst ds))) σ (upd H a (.lst vs)) :=
  ⟨e.put h ha fun H' hH em => ⟨vs, hH, r.em em⟩, Rl.put h ha fun c fs z => by cases z⟩
theorem ds_app {i : Nat} {o e : Expr} {apos cpos pos : Pos} {ta : TD} (hi : PE X o (tVar i)) (he : PE X e (lift W E ta))
    (hbase : attributeBase o "append" X.env (eval o X.env) = eval o X.env := by rfl)
    (hfew : ((backTo cpos (starEach [e] X.env)).all (fun x => !x.1) && (backToKw cpos (keywordEach [] X.env)).all (fun x => x.1.isSome)
      && decide ([e].length + ([] : List Keyword).length + (if ([] : List Keyword).isEmpty then 0 else 1) < 30)) = true := by rfl)
    (hline : (apos.endLine == cpos.line) = true := by rfl) (hs : starEach [e] X.env = (false, eval e X.env) :: starEach [] X.env := by rfl) (hplain : (backTo cpos (starEach [] X.env)).any (·.1) = false := by rfl) :
    PS X (.Expr (.Call (.Attribute o "append" apos) [e] [] cpos) pos) (liftS W E (sApp i ta)) := by
  refine ps_imp (ps_expr (pe_bm PySem.F.plainAttrs_list PySem.F.slot_list_append PySem.F.type_list_append mt_append hi (pa_cons he pa_nil hs) hbase hfew hline hs hplain)) fun D σ H ⟨ρ, n, En, e, ⟨ds, ho, t⟩, k⟩ => ?_
  obtain ⟨a, h1, ⟨vs, h2, h3⟩, h4, h5⟩ := e.ow i _ ho
  refine ⟨.ref a, h1, .inl ⟨rfl, vs, SqL.of h2⟩, ρ, n, _, _, e, t, fun v H1 d n1 hd e1 k1 r1 => ?_, k.ex⟩
  obtain ⟨g1, g2⟩ := hd
  have m2 := k1 a _ h4 h2 (by intro ps z; cases z)
  have r3 : RpL W.K W.p (Mu W ρ σ) H1 vs ds := h3.em (e.eb k1)
  obtain ⟨e2, l2⟩ := put_lst e1 ho h1 (by intro c fs z; cases z) (r3.snoc r1)
  exact ⟨a, vs, v, rfl, rfl, m2, by rw [r3.length]; exact g1, k.nx σ _ _ n1 g2 e2 ((Rl.eb k1 e.mp).trans l2)⟩
/-! ### an own variable read, for a while -/
def D.flat : D → Bool
  | .non => true | .bl _ => true | .int _ => true | .str _ => true
  | _ => false
theorem flat_rp {K : PySem.W.Frag} {p : Addr} {M M' : Addr → Prop} {H H' : Hp} {v : V} {d : D} (r : Rp K p M H v d) (h : d.flat = true) : Rp K p M' H' v d := by
  cases r <;> first | (cases h; done) | constructor
def dTr (i : Nat) (a : TD) : TD := fun ρ n Φ _ => ∃ o, ρ[i]? = some (.own o) ∧ a (ρ.set i (.d o.toD)) n (fun x n1 => x.flat = true ∧ Φ x n1) (fun _ _ => False)
def dTrT (i : Nat) (a : TTD) : TTD := fun ρ n Φ _ => ∃ o, ρ[i]? = some (.own o) ∧ a (ρ.set i (.d o.toD)) n Φ (fun _ _ => False)
theorem exN {W : Wd} {E : XK} : ExW W E (fun _ _ => False) := fun _ _ _ _ _ h => h.elim
theorem dx_tr (i : Nat) {a : Expr} {ta : TD} (ha : PE X a (lift W E ta)) : PE X a (lift W E (dTr i ta)) := pe_imp ha fun σ H Q ⟨ρ, n, Φ, Ψ, e, ⟨o, ho, t⟩, k, x⟩ =>
  ⟨_, n, _, _, e.freeze ho, t, fun v H' d n' hd e' kb r => k v H' d n' hd.2 (e.step kb e'.pen e'.tab) kb (flat_rp r hd.1), exN⟩
theorem dt_tr (i : Nat) {a : Expr} {ta : TTD} (ha : PT X a (liftT W E ta)) : PT X a (liftT W E (dTrT i ta)) := pt_imp ha fun σ H Q ⟨ρ, n, Φ, Ψ, e, ⟨o, ho, t⟩, k, x⟩ =>
  ⟨_, n, _, _, e.freeze ho, t, fun b H' n' hd e' kb => k b H' n' hd (e.step kb e'.pen e'.tab) kb, exN⟩
/-- it changes no more -/
def sFz (i : Nat) (t : TSD) : TSD := fun En ρ n => ∃ o, ρ[i]? = some (.own o) ∧ t En (ρ.set i (.d o.toD)) n
theorem fz_read (i : Nat) {t : TSD} {D : Ends} {σ : L2.St} {H : Hp} (h : liftS W E (sFz i t) D σ H) : liftS W E t D σ H := by
  obtain ⟨ρ, n, En, e, ⟨o, ho, t⟩, k⟩ := h
  exact ⟨_, n, En, e.freeze ho, t, k.from Rl.freeze⟩
theorem ds_fz (i : Nat) {st : Stmt} {t : TSD} (h : PS X st (liftS W E t)) : PS X st (liftS W E (sFz i t)) := ps_imp h fun D σ H q => fz_read i q
theorem dss_fz (i : Nat) {st : List Stmt} {t : TSD} (h : PSs X st (liftS W E t)) : PSs X st (liftS W E (sFz i t)) := pss_imp h fun D σ H q => fz_read i q
/-- a, b = e, f: two new objects -/
def sPar2 (i j : Nat) (f g : TFD) : TSD := fun En ρ n => f ρ n (fun o n1 => g ρ n1 (fun o' n2 => (∀ c fs, o ≠ .ins c fs) ∧ (∀ c fs, o' ≠ .ins c fs) ∧ En.nx ((ρ.set i (.own o)).set j (.own o')) n2) En.ex) En.ex
/-! ### methods of texts -/
def splitD : D → List D → (D → Prop) → Prop
  | .str a, [.str b], k => (b.length == 0) = false ∧ a.length + 2 ≤ sizeLine ∧ k (.lst ((Txt.split a b).map D.str))
  | _, _, _ => False
def rmpD : D → List D → (D → Prop) → Prop
  | .str a, [.str b], k => a.length ≤ sizeLine ∧ k (.str (Txt.removeprefix a b))
  | _, _, _ => False
def dBm (f : D → List D → (D → Prop) → Prop) (o : TD) (a : TAD) : TD := fun ρ n Φ Ψ => o ρ n (fun x n1 => (∃ s, x = .str s) ∧ a ρ n1 (fun ds n2 => f x ds fun z => Φ z n2) Ψ) Ψ
def mD (W : Wd) (f : D → List D → (D → Prop) → Prop) : V → List V → Hp → VK → Prop := fun x xs H Q => ∃ (M : Addr → Prop) (d : D) (ds : List D) (k : D → Prop), Al M H ∧ Rp W.K W.p M H x d ∧ RpL W.K W.p M H xs ds ∧ f d ds k ∧ ∀ v H' z, k z → Same H H' → Rp W.K W.p M H' v z → Q v H'
theorem dx_bm {f : D → List D → (D → Prop) → Prop} {o e : Expr} {es : List Expr} {name : Str} {id : String} {apos cpos : Pos} {to_ : TD} {ta : TAD} (slot : Slot "str" name id) (hty : typeOf (.builtin id) = pure (.type "method_descriptor")) (hm : MtR X id (mD W f)) (ho : PE X o (lift W E to_)) (ha : PA X (e :: es) (liftA W E ta))
    (hbase : attributeBase o name X.env (eval o X.env) = eval o X.env := by rfl)
    (hfew : ((backTo cpos (starEach (e :: es) X.env)).all (fun x => !x.1) && (backToKw cpos (keywordEach [] X.env)).all (fun x => x.1.isSome)
      && decide ((e :: es).length + ([] : List Keyword).length + (if ([] : List Keyword).isEmpty then 0 else 1) < 30)) = true := by rfl)
    (hline : (apos.endLine == cpos.line) = true := by rfl) (hs : starEach (e :: es) X.env = (false, eval e X.env) :: starEach es X.env := by rfl) (hplain : (backTo cpos (starEach es X.env)).any (·.1) = false := by rfl) :
    PE X (.Call (.Attribute o name apos) (e :: es) [] cpos) (lift W E (dBm f to_ ta)) :=
  pe_imp (pe_bm PySem.F.plainAttrs_str slot hty hm ho ha hbase hfew hline hs hplain) fun σ H Q ⟨ρ, n, Φ, Ψ, e, t, k, x⟩ =>
    ⟨ρ, n, _, Ψ, e, t, fun v H1 d n1 ⟨⟨s, hd⟩, h1⟩ e1 k1 r1 => by
      subst hd
      refine ⟨by cases r1; exact rfl, ρ, n1, _, Ψ, e1, h1, fun vs H2 ds n2 h2 e2 k2 r2 => ?_, x⟩
      exact ⟨Mu W ρ σ, _, ds, _, e2.al, r1.em (e1.eb k2), r2, h2, fun w H3 z hz s r3 => k w H3 z n2 hz (e2.same s) ((k1.trans k2).trans (EB.same s)) r3⟩, x⟩
theorem bm_split : MtR X "str.split" (mD W splitD) := by
  intro pins s σ H x xs v us Q I rx rxs ⟨M, d, ds, k, al, r1, r2, f, q⟩
  unfold splitD at f
  split at f <;> first | exact f.elim | skip
  cases r1
  obtain ⟨w, rfl, r3⟩ := one_rp r2
  cases r3
  refine mt_split pins s σ H _ _ v us Q I rx rxs ⟨_, _, rfl, rfl, f.1, f.2.1, fun p np => q _ _ _ f.2.2 (new_same np _) (.lst (al.fresh np) upd_same rp_of_strs)⟩
theorem bm_rmp : MtR X "str.removeprefix" (mD W rmpD) := by
  intro pins s σ H x xs v us Q I rx rxs ⟨M, d, ds, k, al, r1, r2, f, q⟩
  unfold rmpD at f
  split at f <;> first | exact f.elim | skip
  cases r1
  obtain ⟨w, rfl, r3⟩ := one_rp r2
  cases r3
  exact mt_removeprefix pins s σ H _ _ v us Q I rx rxs ⟨_, _, rfl, rfl, f.1, q _ _ _ f.2 (fun _ _ h => h) (.str _)⟩
end
end DL
/-! a try whose error is kept; a def that calls a lambda in it -/
namespace DL
open PySem PySem.Spec PyProof.Rows L2 Gx KX LamX
def Sl.isOwn : Sl → Bool
  | .own _ => true
  | _ => false
def noOwnB (ρ : Rho) : Bool := ρ.all fun s => !s.isOwn
theorem no_own {ρ : Rho} (h : noOwnB ρ = true) (i : Nat) (o : Ow) (e : ρ[i]? = some (.own o)) : False := by
  have := List.all_eq_true.mp h _ (List.mem_of_getElem? e)
  cases this
def EnD.noNx (En : EnD) : EnD := { nx := fun _ _ => False, rt := En.rt, ex := En.ex }
/-- what is known behind a caught error: the error alone -/
def caughtR (l j : Nat) (er : Er) : Rho := (List.replicate l Sl.un).set j (.d (.er er.c er.fs))
def sTry (l j : Nat) (cs : List Str) (tb t : TSD) : TSD := fun En ρ n => tb { En with nx := fun ρ' n' => t En ρ' n', ex := fun er n' => cs.contains er.c = true ∧ t En.noNx (caughtR l j er) n' } ρ n
section
variable {X : Cx} {W : Wd} {E : XK}
theorem caught_ok {ρ : Rho} {n n' : Nat} {σ σ' : L2.St} {H H' : Hp} {l j : Nat} {a : Addr} {cls : Value} {d : Option Addr} {er : Er} (e : EnvOk W ρ n σ H) (hC : ∀ b, W.C b → b = W.p) (em : EM W.C W.He H') (pa : PenAt H' W.p W.q n') (ta : Tabs W.ts H') (r : ErR W H' cls d er) (na : H' a = none)
    (hl : σ'.length = l) (hj : σ'[j]? = some (some (.ref a))) : EnvOk W (caughtR l j er) n' σ' (upd H' a (ErO cls d a)) := by
  have s := new_same na (ErO cls d a)
  have lv : Al W.M H' := fun b mb => by
    obtain ⟨o, h1, h2⟩ := e.mal b mb
    by_cases hc : W.C b
    · obtain ⟨xs, q⟩ := pa.at_
      rw [hC b hc]
      exact ⟨_, q, by intro ps z; cases z⟩
    · exact ⟨o, em b o hc h1 h2, h2⟩
  have slot : ∀ (i : Nat) (x : Sl), (caughtR l j er)[i]? = some x → (i = j ∧ x = .d (.er er.c er.fs)) ∨ x = .un := fun i x h => by
    unfold caughtR at h
    rcases set_get h with ⟨h1, h2⟩ | ⟨_, h2⟩
    · exact .inl ⟨h1, h2⟩
    · rw [List.getElem?_replicate] at h2
      split at h2
      · cases h2; exact .inr rfl
      · cases h2
  have no : ∀ (i : Nat) (o : Ow), (caughtR l j er)[i]? = some (.own o) → False := fun i o h => by
    rcases slot i _ h with ⟨_, z⟩ | z <;> cases z
  have mu : ∀ b, Mu W (caughtR l j er) σ' b → W.M b := fun b m => m.elim id fun ⟨i, o, h, _⟩ => (no i o h).elim
  have nMa : ¬ W.M a := fun m => by
    obtain ⟨o, h1, _⟩ := lv a m
    rw [na] at h1
    cases h1
  obtain ⟨rc, rd⟩ := r
  have erk : ErK (He.ga W.K er.c) d a (ErO cls d a) := ⟨_, rfl, fun h q => by rw [rc] at q; exact q⟩
  refine ⟨fun i x h => ?_, fun i o h => (no i o h).elim, fun i _ o _ _ h => (no i o h).elim, pa.same s, ta.ext s, em.trans (EM.same s), e.cp, e.cm, e.mq, e.mal, fun b mb => ?_, ?_⟩
  · rcases slot i _ h with ⟨h1, h2⟩ | z
    · subst h1
      cases h2
      refine ⟨_, hj, ?_⟩
      rcases rd with ⟨h3, h4⟩ | ⟨dd, fv, h3, h4, h5, h6⟩
      · subst h3
        rw [h4]
        exact .er0 (fun m => nMa (mu _ m)) upd_same erk
      · subst h3
        exact .er (fun m => nMa (mu _ m)) (fun m => h6 (mu _ m)) upd_same erk (s _ _ h4) ((h5.em (EM.same s)).less mu)
    · cases z
  · obtain ⟨o, h1, h2⟩ := lv b mb
    exact ⟨o, s _ _ h1, h2⟩
  · unfold caughtR
    rw [List.length_set, List.length_replicate, hl]
theorem dss_try {i j : Nat} {x n : Str} {c : Value} {body suite rest : List Stmt} {b0 : Stmt} {np pos pos' : Pos} {cs : List Str} {tb t : TSD} (hC : ∀ b, W.C b → b = W.p) (hK : X.K = W.K) (hex : X.ex = []) (hs : X.stack = X.env :: X.outer) (hf : X.env.frame = some X.env.locals) (hN : X.N.Nodup) (hi : X.N[i]? = some n) (hln : X.env.kindOf n = some .local) (hc : Names X x c)
    (hij : i ≠ j) (hj : j < X.N.length) (hcs : ∀ a ∈ cs, PySem.W.exmOne X.K (.ref (He.ga X.K a)) c = some true)
    (hb : ∀ (pn : List (Addr × Obj)) (xe : Value → Shared → Prop) (E' : XK), Takes (X.tr pn xe) (fun cls d _ H => E' cls d H) → PSs (X.tr pn xe) body (liftS W E' tb))
    (hsu : ∀ (a : Addr) (oe : Obj) (pn : List (Addr × Obj)), PSs (X.suite a ((a, oe) :: pn)) (b0 :: suite) (fun D σ H => ∃ v, σ[i]? = some (some v) ∧ D.nx (σ.set j (some v)) H))
    (h0 : PSs X rest (liftS W E t)) (h1 : ∀ pn : List (Addr × Obj), PSs (X.tr pn X.xe) rest (liftS W E t)) :
    PSs X (.Try body [.ExceptHandler (some (.Name x np)) (some n) (b0 :: suite) pos'] [] [] pos :: rest) (liftS W E (sTry X.N.length j cs tb t)) := by
  have tkl : ∀ {pn : List (Addr × Obj)} {xe : Value → Shared → Prop} {V : WX}, Takes (X.tr pn xe) V → Takes (X.tr pn xe) (fun c d σ H => σ.length = X.N.length → V c d σ H) := fun tk => takes_len tk
  refine pss_imp (pss_try_er (Wout := fun _ _ _ _ => False) (tb := fun V D σ H => ∃ Ech : XK, (∀ cls d σ' H', Ech cls d H' → σ'.length = X.N.length → V cls d σ' H') ∧ liftS W Ech tb D σ H) (ts := fun a cls d D σ H => ∃ v, σ[i]? = some (some v) ∧ D.nx (σ.set j (some v)) H) (t1 := fun a cls d => liftS W E t)
    hex hs hf hN hi hln hc takes0 (fun V pn xe tk _ => ⟨fun pins s σ H D I ⟨Ech, h1, h2⟩ => (hb pn xe Ech ((tkl tk).imp fun cls d σ' H' h => h1 cls d σ' H' h)).run pins s σ H D I h2⟩) (fun a oe cls d pn _ _ => hsu a oe pn) h0 fun a cls d pn => h1 pn) fun D σ H h => ?_
  obtain ⟨ρ, m, En, e, h2, k⟩ := h
  refine ⟨fun cls d H' => ∃ er n', (cs.contains er.c = true ∧ t En.noNx (caughtR X.N.length j er) n') ∧ EM W.C W.He H' ∧ PenAt H' W.p W.q n' ∧ Tabs W.ts H' ∧ ErR W H' cls d er, fun cls d σ' H' ⟨er, n', ⟨q1, q2⟩, q3, q4, q5, q6⟩ hl => ?_, ρ, m, _, e, h2, ?_⟩
  · refine ⟨true, ?_, fun _ a na => ⟨.ref a, ?_, fun na' => ?_⟩, fun z => by cases z⟩
    · rw [q6.1, ← hK]
      exact hcs _ (by simpa using q1)
    · rw [List.getElem?_set, if_pos rfl, if_pos (by rw [hl]; exact (List.getElem?_eq_some_iff.mp hi).1)]
    · refine ⟨_, n', En.noNx, caught_ok e hC q3 q4 q5 q6 na (σ' := ((σ'.set i (some (.ref a))).set j (some (.ref a))).set i none) (l := X.N.length) (j := j) ?_ ?_, q2, ⟨fun _ _ _ _ h => h.elim, fun _ _ _ _ h => h.elim, fun _ _ _ _ h => h.elim, k.rt, k.ex⟩⟩
      · rw [List.length_set, List.length_set, List.length_set, hl]
      · rw [List.getElem?_set, if_neg hij, List.getElem?_set, if_pos rfl, if_pos (by rw [List.length_set, hl]; exact hj)]
  · exact ⟨fun σ' H' ρ' n' h e' r => ⟨ρ', n', En, e', h, k.from r⟩, k.bk, k.ct, k.rt, fun er n' cls dd H' h q1 q2 q3 q4 => ⟨er, n', h, q1, q2, q3, q4⟩⟩
end
/-! ### the lambda -/
abbrev Ask := Nat → KD → XD → Prop
def dAsk (f : Addr) (α : Ask) : TD := fun ρ n Φ Ψ => ρ[0]? = some (.d (.fn f)) ∧ noOwnB ρ = true ∧ α n Φ Ψ
/-- what a def makes of the lambda that it calls -/
def TTh (K : PySem.W.Frag) (ts : List (Addr × Str)) (l : Nat) (τh : Ask → Addr → TSD) : (XK → Hp → VK → Prop) → Hp → VK → Prop := fun tl H Q =>
  ∃ (p q : Addr) (M : Addr → Prop) (n : Nat) (Φ : KD) (α : Ask), M p ∧ M q ∧ Al M H ∧ PenAt H p q n ∧ Tabs ts H ∧ (∀ f, τh α f { nx := fun _ n' => Φ .non n', rt := Φ, ex := fun _ _ => False } (startD l [.fn f]) n) ∧
  (∀ v H' d n', Φ d n' → EB p H H' → PenAt H' p q n' → Tabs ts H' → Rp K p M H' v d → Q v H') ∧
  ∀ (E' : XK) (HZ : Hp) (Q' : VK) (n' : Nat) (Φ' : KD) (Ψ' : XD), EB p H HZ → PenAt HZ p q n' → Tabs ts HZ → α n' Φ' Ψ' → (∀ v H' d n'', Φ' d n'' → EB p HZ H' → PenAt H' p q n'' → Tabs ts H' → Rp K p M H' v d → Q' v H') →
    (∀ er n'' cls dd H', Ψ' er n'' → EB p H H' → PenAt H' p q n'' → Tabs ts H' → ErM K p M H' cls dd er → E' cls dd H') → tl E' HZ Q'
section
variable {X : Cx} {W : Wd} {E : XK}
theorem gives_heard {ts : List (Addr × Str)} {Ng : List Str} {x a q : Str} {sg : Scope} {g : Addr} {cdg : Value} {bg : List Stmt} {τh : Ask → Addr → TSD} (hN : Ng.take 1 = [a])
    (hb : ∀ (f : Addr) (s : Shared) (H : Hp) (Wc : Wd) (α : Ask), Wc.K = X.K → Wc.ts = ts → (∀ b, Wc.C b → b = Wc.p) →
      (∀ (pn : List (Addr × Obj)) (xe : Value → Shared → Prop) (E' : XK) (p1 p2 : Pos), Takes ((cxOf C8.CX0 X.prog X.w X.K X.mg X.base Ng x sg g cdg X.A X.stack s H C8.E0).tr pn xe) (fun cls d _ H => E' cls d H) →
        PE ((cxOf C8.CX0 X.prog X.w X.K X.mg X.base Ng x sg g cdg X.A X.stack s H C8.E0).tr pn xe) (.Call (.Name a p1) [] [] p2) (lift Wc E' (dAsk f α))) →
      PSs (cxOf C8.CX0 X.prog X.w X.K X.mg X.base Ng x sg g cdg X.A X.stack s H C8.E0).nox bg (liftS Wc EF (τh α f))) :
    GivesTo X Ng x sg g cdg bg a q (TTh X.K ts Ng.length τh) := by
  intro f c' s H Q tl act hc ⟨p, q, M, n, Φ, α, h1, h2, h3, h4, h5, h6, h7, h8⟩
  have cp : c' ≠ p := fun z => by
    obtain ⟨xs, w⟩ := h4.at_
    rw [← z, hc] at w
    unfold CodeO at w
    cases w
  have ask : ∀ (pn : List (Addr × Obj)) (xe : Value → Shared → Prop) (E' : XK) (p1 p2 : Pos), Takes ((cxOf C8.CX0 X.prog X.w X.K X.mg X.base Ng x sg g cdg X.A X.stack s H C8.E0).tr pn xe) (fun cls d _ H => E' cls d H) →
      PE ((cxOf C8.CX0 X.prog X.w X.K X.mg X.base Ng x sg g cdg X.A X.stack s H C8.E0).tr pn xe) (.Call (.Name a p1) [] [] p2) (lift ⟨X.K, p, q, ts, M, (· = p), H⟩ E' (dAsk f α)) := fun pn xe E' p1 p2 tk =>
    ⟨fun pins s' σ HZ Q' I ⟨ρ, m, Φ', Ψ', e, ⟨g1, g2, g3⟩, k, xk⟩ => (act (fun cls d _ H => E' cls d H) pn xe E' p1 p2 tk (fun _ _ _ _ h => h)).run pins s' σ HZ Q' I (by
      obtain ⟨v, w1, w2⟩ := e.sl 0 _ g1
      have mu : ∀ b, Mu ⟨X.K, p, q, ts, M, (· = p), H⟩ ρ σ b → M b := fun b mb => mb.elim id fun ⟨i, o, z, _⟩ => (no_own g2 i o z).elim
      refine ⟨by cases w2; exact w1, e.base c' _ cp hc codeO_ne, h8 E' HZ Q' m Φ' Ψ' (em_eb e.base) e.pen e.tab g3 (fun v H' d n'' hd kb pa ta r => k v H' d n'' hd (e.step kb pa ta) kb (r.less mu)) fun er n'' cls dd H' he eb pa ta r => xk er n'' cls dd H' he (fun b o nb hb tb => eb b o nb hb tb) pa ta r⟩)⟩
  have st := start_ok (K := X.K) (ts := ts) (N := Ng) (ps := [a]) (vs := [V.ref f]) (ds := [.fn f]) h1 h2 h3 hN rfl (.cons (.fn f) .nil) h4 h5
  exact ⟨_, hb f s H ⟨X.K, p, q, ts, M, (· = p), H⟩ α rfl rfl (fun b z => z) ask, _, n, _, st, h6 f, ends_ok h7 fun _ _ _ _ _ z => z.elim⟩
def dHeard (l : Nat) (τh : Ask → Addr → TSD) (te : TD) : TD := fun ρ n Φ _ => ∀ f, τh (fun n' Φ' Ψ' => te (ρ.map hideS) n' Φ' Ψ') f { nx := fun _ n' => Φ .non n', rt := Φ, ex := fun _ _ => False } (startD l [.fn f]) n
theorem PenAt.extN {H H' : Hp} {p q : Addr} {n : Nat} (h : PenAt H p q n) (e : ExtN H H') : PenAt H' p q n := by
  obtain ⟨ns, a, r, h1, h2, h3, h4⟩ := h
  exact ⟨ns, a, r, e _ _ h1 (by intro ps z; cases z), h2, e _ _ h3 (by intro ps z; cases z), h4⟩
theorem hidden_ok {ρ : Rho} {n n' : Nat} {σ : L2.St} {H1 HZ : Hp} (e : EnvOk W ρ n σ H1) (k : EB W.p H1 HZ) (pa : PenAt HZ W.p W.q n') (ta : Tabs W.ts HZ) : EnvOk ⟨W.K, W.p, W.q, W.ts, Mu W ρ σ, (· = W.p), H1⟩ (ρ.map hideS) n' σ HZ ∧ ∀ b, Mu ⟨W.K, W.p, W.q, W.ts, Mu W ρ σ, (· = W.p), H1⟩ (ρ.map hideS) σ b ↔ Mu W ρ σ b := by
  have no : ∀ (i : Nat) (o : Ow), (ρ.map hideS)[i]? = some (.own o) → False := fun i o z => by
    rw [List.getElem?_map] at z
    cases e : ρ[i]? with
    | none => rw [e] at z; cases z
    | some s => rw [e] at z; cases s <;> cases z
  have mu : ∀ b, Mu ⟨W.K, W.p, W.q, W.ts, Mu W ρ σ, (· = W.p), H1⟩ (ρ.map hideS) σ b ↔ Mu W ρ σ b := fun b => ⟨fun m => m.elim id fun ⟨i, o, z, _⟩ => (no i o z).elim, .inl⟩
  have e2 := e.step k pa ta
  refine ⟨⟨fun i x h => ?_, fun i o h => (no i o h).elim, fun i _ o _ _ h => (no i o h).elim, pa, ta, fun b o nb hb tb => k b o nb hb tb, rfl, fun b z => z ▸ e.mup, .inl e.mq, e.al, e2.al, ?_⟩, mu⟩
  · rw [List.getElem?_map] at h
    cases q : ρ[i]? with
    | none => rw [q] at h; cases h
    | some s =>
      rw [q] at h
      cases s with
      | un => cases h
      | own o => cases h
      | d y =>
        cases h
        obtain ⟨v, h1, h2⟩ := e2.sl i x q
        exact ⟨v, h1, h2.less fun b => (mu b).mp⟩
  · rw [List.length_map]; exact e.len
theorem dx_heard {ts : List (Addr × Str)} {τh : Ask → Addr → TSD} {te : TD} {x a : Str} {g c P : Addr} {k : Nat} {pg : Arguments} {bg : List Stmt} {sg : Scope} {dvs : List V} {kws : List (Str × V)} {fd : FuncData} {Ng : List Str}
    {params : Arguments} {body : Expr} {scope : Scope} {p lpos pos : Pos} (hK : X.K = W.K) (ht : W.ts = ts) (hg : Gl X x) (hm : X.mg x = some (.ref g)) (F : FunD X.K x x pg bg sg dvs kws g fd) (hb : L2.Binds X.K fd [a] []) (Sg : FnScope Ng [a] sg) (hNg : Ng[0]? = some a) (hva : Vis sg a)
    (hG : ∀ cdg, GivesTo X Ng x sg g cdg bg a (X.env.qual ++ "<lambda>") (TTh X.K ts Ng.length τh))
    (TB : TabB X.base X.mg c P) (hcode : X.env.code = .ref c) (hmT : (P, X.env.qual ++ "<lambda>") ∈ ts) (hu : ∀ p ∈ ts, p.1 = P → p.2 = X.env.qual ++ "<lambda>") (hr : Room (k + 2) X.A) (L : LamS X.env.scope scope) (hdef : defaultsOf params X.env = ([], []))
    (hbind : ∀ (q : Str) (cl : List (Str × Addr)) (pm cv ctv : Value), bindArgs (PySem.W.kla_fn "<lambda>" q params body scope cl pm cv ctv) ⟨[], []⟩ = pure [])
    (hbody : ∀ (A : Around) (outer : List Env) (s : Shared) (H : Hp) (E' : XK) (f c' : Addr) (W' : Wd), W'.K = X.K → W'.ts = ts → Room k (A.deeper (lamEnv X scope s.heap.objs.size f c')) → PE (lamCx X A outer s H E' scope f c') body (lift W' E' te))
    (hdb : (x == ("__debug__" : Str)) = false := by decide) (hd : (a == ("__debug__" : Str)) = false := by decide) (hcd : (a == ("__classdict__" : Str)) = false := by decide) :
    PE X (.Call (.Name x p) [.Lambda params body scope lpos] [] pos) (lift W E (dHeard Ng.length τh te)) := by
  obtain ⟨oc, od, dV, kV, doc, pm, an, cdv, ct, osl, rfl, lk, hcd', _, _⟩ := F.ex
  refine pe_imp (pe_lamcall (t := fun E' σ H Q => ∃ W' : Wd, W'.K = X.K ∧ W'.ts = ts ∧ lift W' E' te σ H Q) hg hm F.kp lk hcd' hb Sg hNg hva (hG _) TB hcode hmT hu hr L hdef hbind (fun A outer s H E' f c' hr2 => ⟨fun pins s' σ H' Q I ⟨W', w1, w2, w3⟩ => (hbody A outer s H E' f c' W' w1 w2 hr2).run pins s' σ H' Q I w3⟩) hdb hd hcd) fun σ H Q ⟨ρ, n, Φ, Ψ, e, t, k0, x0⟩ => ?_
  refine ⟨by rw [← ht]; exact e.tab, fun H1 eN T1 => ?_⟩
  have eb : EB W.p H H1 := fun b o _ hb tb => eN b o hb tb
  have e1 : EnvOk W ρ n σ H1 := e.step eb (e.pen.extN eN) (by rw [ht]; exact T1)
  refine ⟨W.p, W.q, Mu W ρ σ, n, Φ, _, e1.mup, .inl e1.mq, e1.al, e1.pen, T1, t, fun v H' d n' hd kb pa ta r => k0 v H' d n' hd (e1.step kb pa (by rw [ht]; exact ta)) (eb.trans kb) (by rw [hK] at r; exact r), fun E' HZ Q' n' Φ' Ψ' kb pa ta hα post ex => ?_⟩
  obtain ⟨e2, mu⟩ := hidden_ok e1 kb pa (by rw [ht]; exact ta)
  refine ⟨⟨W.K, W.p, W.q, W.ts, Mu W ρ σ, (· = W.p), H1⟩, hK.symm, ht, _, n', Φ', Ψ', e2, hα, fun v H' d n'' hd e3 k3 r => post v H' d n'' hd k3 e3.pen (by rw [← ht]; exact e3.tab) (by rw [hK]; exact r.less fun b => (mu b).mpr), fun er n'' cls dd H' he em pa' ta' r => ex er n'' cls dd H' he (em_eb em) pa' (by rw [← ht]; exact ta') (by rw [hK]; exact r)⟩
end
end DL
/-! walks over objects whose __iter__ gives a tuple's iterator -/
namespace DL
open PySem PySem.Spec PyProof.Rows L2 Gx KX LamX
def TIt (l it : Addr) : HO := .ext fun h => h.IsTupleIter it l 0
theorem tIt_ok {P : Program} {w : World} {H : Hp} {h : Heap} {l it : Addr} (e : h.IsTupleIter it l 0) : ObjOk P w H h it (TIt l it) := ⟨e, (by obtain ⟨o, z, _⟩ := e; exact ⟨o, z⟩), fun h1 h2 ⟨o, z1, z2⟩ k => ⟨o, k _ z1, z2⟩⟩
/-- iter(t), t a tuple; n: how many objects stood before -/
def rTIt (K : PySem.W.Frag) (n : Nat) : List V → Hp → VK → Prop := fun xs H Q => ∃ (l : Addr) (zs : List V), xs = [.ref l] ∧ SqT K H l zs ∧ ∀ it, H it = none → n ≤ it → Q (.ref it) (upd H it (TIt l it))
theorem call_tIt {X : Cx} : CallR X (.builtin "iter") (rTIt X.K X.s_0.heap.objs.size) := by
  intro pins s σ H xs us Q I r ⟨l, zs, hx, hq, q⟩
  subst hx
  obtain ⟨u, rfl, ru⟩ := vals1 r
  cases ru
  obtain ⟨its, rv, pl, hz⟩ := I.tuple hq
  have go : wpAny (model X.prog X.w) X.A.in1 (pyIter (.ref l)) (EP X pins σ Q) X.xe s := wpAny_pyIter_tuple (show s.heap.IsTuple l its.toArray from pl)
    ⟨.ref s.heap.objs.size, _, I.laid (t' := s.toks) (fun b u e => Heap.get?_push_of_some _ e) (Nat.le_refl _) (tIt_ok ⟨_, Heap.get?_push_size _ rfl, rfl, rfl⟩), rfl, q _ (I.hok.fresh (Nat.le_refl _)) I.sz⟩
  refine Calls.call_function_entry (by decide +kernel) (by decide +kernel) PySem.W.kdk_entry_iter (PySem.W.kdk_args_iter _) ?_
  unfold Builtin.«iter»
  exact wpAny_bind (m := someArgs "iter" 1 2 _) (wpAny_of_eq (a := [Value.ref l]) (by first | rfl | kernel_rfl!) (wpAny_bind (m := pyIter (.ref l)) (wpAny_mono go (fun v s' h => wpAny_pure ⟨_, rfl, h⟩) fun _ _ h => h)))
/-- a class's __iter__: the iterator of the tuple that stands in the field f -/
def ItDef (X : Cx) (k : Nat) (c f : Str) : Prop := ∃ g, Meth X.K (He.ga X.K c) "__iter__" g ∧ ∀ (A : Around) (s : Shared) (H : Hp) (a dx l : Addr) (fv : List (Str × V)) (zs : List V), Room k A → Env0 X.prog X.w X.K X.mg X.base A X.stack s H → H a = some (.ins (He.ga X.K c) dx fv) → fv.lookup f = some (.ref l) → SqT X.K H l zs →
  codeAny (model X.prog X.w) A (.call (.ref g) ⟨[.ref a], []⟩) (CR C8.CX0 X.stack X.prog X.w H s (fun v H' => ∃ it, v = .ref it ∧ H it = none ∧ s.heap.objs.size ≤ it ∧ H' = upd H it (TIt l it)) C8.E0) s
theorem it_def {X : Cx} {c f qual : Str} {params : Arguments} {scope : Scope} {g : Addr} {fd : FuncData} {p1 p2 p3 p4 p5 : Pos} (m : Meth X.K (He.ga X.K c) "__iter__" g) (hc : Cls X.K (He.ga X.K c)) (hn : NoAttr X.K (He.ga X.K c) f)
    (F : FunD X.K "__iter__" qual params [.Return (some (.Call (.Name "iter" p1) [.Attribute (.Name "self" p2) f p3] [] p4)) p5] scope [] [] g fd) (S : FnScope ["self"] ["self"] scope) (v0 : Vis scope "self") (hg : scope.names.lookup ("iter" : Str) = some NameKind.globalImplicit) (hab : ∀ env : Env, attributeBase (.Name "self" p2) f env (eval (.Name "self" p2) env) = eval (.Name "self" p2) env) (hm : X.mg "iter" = none)
    (hb : Binds X.K fd ["self"] []) : ItDef X 1 c f := by
  refine ⟨g, m, fun A s H a dx l fv zs hr e0 ha hl hq => ?_⟩
  obtain ⟨oc, od, dV, kV, doc, pm, an, cdv, ct, osl, rfl, lk, hcd, _, _⟩ := F.ex
  have kin : X.K.In s.heap := e0.mod.kin.keeps fun b o e => (e0.bs b o e).1
  refine run_ofS (CX := C8.CX0) (N := ["self"]) (ps := ["self"]) (us := [.ref a]) (vs := [.ref a]) lk hcd S hr e0 (hb s [.ref a] kin rfl) (.cons rfl .nil) rfl fun hr' => ?_
  refine ⟨_, pss_one (ps_ret (pe_callB call_tIt (by exact hg) hm (by decide +kernel) (pa_cons (pe_fld (pe_var (i := 0) (x := ("self" : Str)) rfl v0) (hab _)) pa_nil) (by decide) (by decide) rfl rfl)), ?_⟩
  exact ⟨.ref a, rfl, a, _, dx, fv, _, rfl, ha, hc, hn, hl, l, zs, rfl, hq, fun it h1 h2 => ⟨it, rfl, h1, h2, rfl⟩⟩
section
variable {X : Cx} {W : Wd} {E : XK}
/-- what a walk over a value yields; tbl: the classes whose __iter__ walks over a field's tuple -/
def walkI (tbl : List (Str × Str)) : D → (List D → Prop) → Prop
  | .ob c fs, k => ∃ f ds, tbl.lookup c = some f ∧ fs.lookup f = some (.tup ds) ∧ k ds
  | x, k => walkD x k
def iOb (tbl : List (Str × Str)) (a : TD) : TID := fun ρ n Φ Ψ => a ρ n (fun x n1 => walkI tbl x fun ds => Φ ds n1) Ψ
theorem iter_bound {M : Model} {A : Around} {Ex : Value → Shared → Prop} {s : Shared} {K : PySem.W.Frag} {x C f : Addr} {ox : Obj} {od : Option Obj} {Q : Option Value → Shared → Prop} {refuse : Sem Value} (kin : K.In s.heap) (J : PySem.W.InstAt s.heap x ox C od) (m : Meth K C "__iter__" f)
    (go : wpAny M A (call (.ref f) [.ref x]) (fun v => Q (some v)) Ex s) : wpAny M A (callSpecialIfBoundUnlessNone? (.ref x) "__iter__" refuse) Q Ex s := by
  have fin : wpAny M A (if (Value.ref f == Value.none) = true then (refuse >>= fun r => pure (some r)) else call (.ref f) [.ref x] >>= fun v => pure (some v)) Q Ex s := by
    rw [show (Value.ref f == Value.none) = false from rfl, if_neg Bool.false_ne_true]
    exact wpAny_bind (wpAny_mono go (fun v s' h => wpAny_pure h) fun _ _ h => h)
  unfold callSpecialIfBoundUnlessNone? bindSpecialIfBound?
  refine wpAny_holding (wpAny_bind (wpAny_bind (wpAny_bind (J.type.here ((PySem.W.looks_findIn kin m.at_).here ?_)))))
  refine wpAny_bind (wpAny_askSetting (wpAny_ite ?_))
  split
  · exact wpAny_bind ((PySem.W.bind_fn kin (.ref x) (beq_iff_eq.mp m.fn)).here (wpAny_pure fin))
  · exact wpAny_tryCatch (wpAny_bind ((PySem.W.bind_fn kin (.ref x) (beq_iff_eq.mp m.fn)).here (wpAny_pure fin)))
theorem iter_plain {tg : Expr} (hK : X.K = W.K) {pins : List (Addr × Obj)} {ρ : Rho} {σ : L2.St} {H H1 : Hp} {s1 : Shared} {R : It → Hp → Prop} {n1 : Nat} {Φ : List D → Nat → Prop} {v : V} {u : Value} {d : D} (I1 : Inv X pins σ H1 s1) (r1 : RelV v u) (e1 : EnvOk W ρ n1 σ H1) (rp : Rp W.K W.p (Mu W ρ σ) H1 v d) (k1 : EB W.p H H1)
    (h1 : walkD d fun ds => Φ ds n1) (k : ∀ J H' ds n', Φ ds n' → EnvOk W ρ n' σ H' → EB W.p H H' → ItOk W (Mu W ρ σ) J H' ds → R J H') : wpAny (model X.prog X.w) X.A (pyIter u) (PIE X pins σ tg R) X.xe s1 := by
  have seqL : ∀ (a : Addr) (xs : List V), v = .ref a → SqL X.K H1 a xs → R (Itl X.K a) H1 → wpAny (model X.prog X.w) X.A (pyIter u) (PIE X pins σ tg R) X.xe s1 := fun a xs ev hq q => by
    subst ev
    cases r1
    obtain ⟨its, rv, p, hz⟩ := I1.list hq
    refine wpAny_pyIter_list p.isList ⟨s1.heap.objs.size, [s1.heap.objs.size], _, _, H1, rfl, I1.kept (t' := s1.toks) fun b o e => Heap.get?_push_of_some _ e, turn_list a _, ⟨_, Heap.get?_push_size _ rfl, rfl, rfl⟩, fun b hb => ?_, q⟩
    rw [show b = s1.heap.objs.size by simpa using hb]
    exact I1.fpOk (Nat.le_refl _) (I1.hok.fresh (Nat.le_refl _))
  have seqT : ∀ (a : Addr) (xs : List V), v = .ref a → SqT X.K H1 a xs → R (Itt X.K a) H1 → wpAny (model X.prog X.w) X.A (pyIter u) (PIE X pins σ tg R) X.xe s1 := fun a xs ev hq q => by
    subst ev
    cases r1
    obtain ⟨its, rv, p, hz⟩ := I1.tuple hq
    refine wpAny_pyIter_tuple (show s1.heap.IsTuple a its.toArray from p) ⟨s1.heap.objs.size, [s1.heap.objs.size], _, _, H1, rfl, I1.kept (t' := s1.toks) fun b o e => Heap.get?_push_of_some _ e, turn_tuple a _, ⟨_, Heap.get?_push_size _ rfl, rfl, rfl⟩, fun b hb => ?_, q⟩
    rw [show b = s1.heap.objs.size by simpa using hb]
    exact I1.fpOk (Nat.le_refl _) (I1.hok.fresh (Nat.le_refl _))
  cases rp with
  | lst nm h r => exact seqL _ _ rfl (SqL.of h) (k _ H1 _ n1 h1 e1 k1 (it_lst hK nm h r))
  | tup nm h r => exact seqT _ _ rfl (SqT.of h) (k _ H1 _ n1 h1 e1 k1 (it_tup hK (fun H2 em => SqT.of (em _ _ nm h (by intro ps z; cases z))) r))
  | tupS h r => exact seqT _ _ rfl (hK ▸ h H1) (k _ H1 _ n1 h1 e1 k1 (it_tup hK (fun H2 _ => hK ▸ h H2) r))
  | str z =>
    obtain ⟨t, rfl⟩ := r1
    have q := k _ H1 _ n1 h1 e1 k1 (it_str z)
    cases ha : z.cps.all (· < 128)
    · exact wpAny_pyIter_wide ha (pi_one (tk := s1.toks) I1 _ (turn_str _ z t "str_iterator" (.inr rfl)) ⟨_, Heap.get?_push_size _ rfl, rfl, rfl⟩ q)
    · exact wpAny_pyIter_ascii ha (pi_one (tk := s1.toks) I1 _ (turn_str _ z t "str_ascii_iterator" (.inl rfl)) ⟨_, Heap.get?_push_size _ rfl, rfl, rfl⟩ q)
  | _ => exact h1.elim
theorem di_ob {tbl : List (Str × Str)} {k : Nat} {tg e : Expr} {ta : TD} (hK : X.K = W.K) (T : ∀ c f, tbl.lookup c = some f → ItDef X k c f) (hr : Room k X.A) (ha : PE X e (lift W E ta)) : PI X tg e (liftI W E (iOb tbl ta)) := by
  refine ⟨fun pins s σ H R I ⟨ρ, n, Φ, Ψ, e0, t, k0, x0⟩ => ?_⟩
  refine thn (ha.run pins s σ H (fun v H1 => ∃ d n1, (walkI tbl d fun ds => Φ ds n1) ∧ EnvOk W ρ n1 σ H1 ∧ EB W.p H H1 ∧ Rp W.K W.p (Mu W ρ σ) H1 v d) I ⟨ρ, n, _, Ψ, e0, t, fun v H1 d n1 h1 e1 k1 r1 => ⟨d, n1, h1, e1, k1, r1⟩, x0⟩) fun u s1 ⟨v, H1, I1, rv, d, n1, hw, e1, k1, r1⟩ => ?_
  cases d with
  | ob c fs =>
    obtain ⟨f, ds, h1, h2, hΦ⟩ := hw
    obtain ⟨g, m, run⟩ := T c f h1
    obtain ⟨a, dx, fv, rfl, ea, rf⟩ := rp_ob r1
    obtain rfl : u = Value.ref a := rv
    obtain ⟨w, hw, rw_⟩ := rf.lookup h2
    obtain ⟨l, zs, rfl, hall, rz⟩ : ∃ l zs, w = .ref l ∧ (∀ H2, EM (Mu W ρ σ) H1 H2 → SqT X.K H2 l zs) ∧ RpL W.K W.p (Mu W ρ σ) H1 zs ds := by
      cases rw_ with
      | tup nm h r => exact ⟨_, _, rfl, fun H2 em => SqT.of (em _ _ nm h (by intro ps z; cases z)), r⟩
      | tupS h r => exact ⟨_, _, rfl, fun H2 em => hK ▸ h _, r⟩
    have hz := hall H1 (EM.refl _ _)
    rw [← hK] at ea
    obtain ⟨mA, J, _⟩ := ins_get I1.hok ea
    obtain ⟨od, J, _⟩ := J.look
    have code := run X.A s1 H1 a dx l fv zs hr I1.env0 ea hw hz
    have its : wpAny (model X.prog X.w) X.A (call (.ref g) [.ref a]) (fun r s2 => ∃ it, r = .ref it ∧ s1.heap.objs.size ≤ it ∧ H1 it = none ∧ Inv X pins σ (upd H1 it (TIt l it)) s2) X.xe s1 := by
      refine wpAny_call (codeAny_mono code fun r s2 hq => ?_)
      cases r with
      | error e => exact (show False from hq).elim
      | ok fl =>
        cases fl with
        | ret u =>
          obtain ⟨z, H2, I2, rz2, it, rfl, q1, q2, q3⟩ := I1.after hq
          subst q3
          exact ⟨it, rz2, q2, q1, I2⟩
        | next => exact False.elim hq
        | brk => exact False.elim hq
        | cont => exact False.elim hq
    have sp : PySem.W.Looks (model X.prog X.w) s1.heap (specialOf (.ref a) "__iter__") (some (.ref g)) := J.type.andThen (PySem.W.looks_findIn I1.kIn m.at_)
    unfold pyIter
    refine wpAny_bind (sp.here ?_)
    refine wpAny_bind (iter_bound I1.kIn J m (wpAny_mono its (fun r s2 ⟨it, q1, q2, q3, I2⟩ => ?_) fun _ _ h => h))
    subst q1
    have hi : (upd H1 it (TIt l it)) it = some (TIt l it) := upd_same
    have st : s2.heap.IsTupleIter it l 0 := (I2.hok it _ hi).1
    refine wpAny_bind (wpAny_specialOf (name := Str.ofString "__next__") st.typeIs F.slot_tuple_iterator_next.lookup (wpAny_pure ?_))
    have hi' := hi
    unfold TIt at hi'
    have I3 := ItX.inv_drop I2 hi'
    have fp := ItX.inv_fp I2 hi (Nat.le_trans I1.sz q2)
    rw [ItX.dropH_upd q3] at I3 fp
    refine ⟨it, [it], _, _, H1, rfl, I3, turn_tuple l it, st, fun b hb => ?_, ?_⟩
    · have e : b = it := by simpa using hb
      rw [e]; exact fp
    · refine k0 _ H1 ds n1 hΦ e1 k1 ?_
      exact it_tup hK hall rz
  | non | bl | int | str | tup | lst | dct | cl | pen | er | fn => exact iter_plain hK I1 rv e1 r1 k1 hw k0
end
end DL
namespace Nx
open PySem PySem.Spec PyProof.Rows L2
section
variable {X : Cx} {CX : CXT} {k : Nat} {C f : Addr} {fd : FuncData} {ps : List Str} {sp : Sp} {E : XK}
/-- str(x) by the own __str__ of the class of x -/
def rStrO (C : Addr) (sp : Sp) (E : XK) : List V → Hp → VK → Prop := fun xs H Q =>
  ∃ (a dx : Addr) (fs : List (Str × V)), xs = [.ref a] ∧ H a = some (.ins C dx fs) ∧ sp [.ref a] H (fun z H' => ∃ y, z = .str y ∧ Q z H') E
theorem call_strO (hs : PySem.W.findIn X.K (.ref C) "__str__" = some (some (.ref f))) (hf : PySem.W.isFn X.K (.ref f) = true)
    (F : FnOk X.prog X.w X.K X.mg X.base CX k f fd ps sp) (hb : Binds X.K fd ps []) (hr : Room (k + 2) X.A) (hx : Passes CX X E) : CallR X (.type "str") (rStrO C sp E) := by
  rintro pins s σ H xs us Q I r ⟨a, dx, fs, rfl, ha, q⟩
  obtain ⟨u, rfl, ru⟩ := r.one
  cases (show u = Value.ref a from ru)
  obtain ⟨mA, J, _⟩ := ins_get I.hok ha
  obtain ⟨od, J, _⟩ := J.look
  have r1 : Room (k + 1) X.A.in1 := Room.in1 hr
  have r2 : Room k X.A.in1.in1 := Room.in1 r1
  refine PySem.W.kso_call (by have := r2.un; omega) I.kIn J hs hf ?_
  refine wpAny_mono (run_at F r2 I.env0.in1.in1 hb hx I (.cons (show RelV (.ref a) (.ref a) from rfl) .nil) q) ?_ (fun _ _ e => e)
  rintro r s' ⟨c, H', I', rc, y, rfl, qy⟩
  obtain ⟨t, rfl⟩ := (show ∃ t, r = Value.str y t from rc)
  exact ⟨.str y, H', I', ⟨t, rfl⟩, qy⟩
end
end Nx
/-! len, str of own objects; is of truth values; lists unpacked; two at once; ops in place -/
namespace DL
open PySem PySem.Spec PyProof.Rows L2 Gx KX LamX
def cN (W : Wd) (E : XK) (f : F1) : List V → Hp → VK → Prop := fun xs H Q => ∃ x, xs = [x] ∧ uN W E f x H Q
/-- own __len__, __str__ -/
def selLen (tbl : List (Str × FD)) (g : F1) : F1 := fun x n Φ Ψ => match x with
  | .ob c fs => ∃ φ, tbl.lookup c = some φ ∧ φ [.ob c fs] n (fun z n' => ∃ i : Int, z = .int i ∧ 0 ≤ i ∧ i < 2 ^ 63 ∧ Φ (.int i) n') Ψ
  | x => g x n Φ Ψ
def selStr (tbl : List (Str × FD)) (g : F1) : F1 := fun x n Φ Ψ => match x with
  | .ob c fs => ∃ φ, tbl.lookup c = some φ ∧ φ [.ob c fs] n (fun z n' => ∃ s, z = .str s ∧ Φ (.str s) n') Ψ
  | x => g x n Φ Ψ
def list1 (f : List D → (D → Prop) → Prop) : F1 := fun x n Φ _ => f [x] fun z => Φ z n
section
variable {X : Cx} {W : Wd} {E : XK}
theorem cn_list {A : Value} {f : List D → (D → Prop) → Prop} (h : CallR X A (cD W f)) : CallR X A (cN W E (list1 f)) := by
  intro pins s σ H xs us Q I r ⟨x, hx, ρ, σ', n, Φ, Ψ, d, e0, r1, f0, k0, _⟩
  subst hx
  exact h pins s σ H _ us Q I r ⟨_, [d], _, e0.al, .cons r1 .nil, f0, fun v H' z hz s rz => k0 v H' z n hz (e0.same s) (EB.same s) rz⟩
theorem cn_len {tbl : List (Str × FD)} {g : F1} {k : Nat} {ts : List (Addr × Str)} (hK : X.K = W.K) (ht : W.ts = ts) (T : TBL (PM X ts k 1 "__len__" fun _ => True) tbl) (hr : Room (k + 1) X.A) (hx : Passes (L2.CX X.prog X.w) X E) (hg : CallR X (.builtin "len") (cN W E g)) : CallR X (.builtin "len") (cN W E (selLen tbl g)) := by
  intro pins s σ H xs us Q I r ⟨x, hx1, ρ, σ', n, Φ, Ψ, d, e0, r1, f0, k0, x0⟩
  subst hx1
  unfold selLen at f0
  split at f0
  · rename_i c fs
    obtain ⟨φ, h1, h3⟩ := f0
    obtain ⟨f, fd, ps, m, hl, F, hb, _⟩ := T c φ h1
    obtain ⟨u, rfl, ru⟩ := vals1 r
    obtain ⟨a, ox, od, rfl, rfl, J, _⟩ := ob_get hK I r1 ru
    obtain ⟨mm, hF⟩ := I.fr
    refine PySem.W.len_K hF I.ok.mod.kin J m.at_ m.fn ?_
    refine wpAny_mono (Nx.run_at F hr.in1 I.env0.in1 hb hx I (.cons (show RelV (.ref a) (.ref a) from rfl) .nil) (sp_one (Q := fun z H' => ∃ i : Int, z = .int i ∧ 0 ≤ i ∧ i < 2 ^ 63 ∧ Q (.int i) H') hK ht e0 r1 h3 (fun v H' z n' hz e' k' r' => ?_) x0)) ?_ (fun _ _ e => e)
    · obtain ⟨i, rfl, g1, g2, hz⟩ := hz
      cases r'
      exact ⟨i, rfl, g1, g2, k0 _ H' _ n' hz e' k' (.int _)⟩
    · rintro r s' ⟨c, H', I', rc, i, rfl, g1, g2, qb⟩
      obtain ⟨t, rfl⟩ := (show ∃ t, r = Value.int i t from rc)
      exact ⟨⟨g1, g2⟩, .int i, H', I'.tok _, ⟨_, rfl⟩, qb⟩
  · exact hg pins s σ H _ us Q I r ⟨x, rfl, ρ, σ', n, Φ, Ψ, _, e0, r1, f0, k0, x0⟩
theorem cn_str {tbl : List (Str × FD)} {g : F1} {k : Nat} {ts : List (Addr × Str)} (hK : X.K = W.K) (ht : W.ts = ts) (T : TBL (PM X ts k 1 "__str__" fun _ => True) tbl) (hr : Room (k + 2) X.A) (hx : Passes (L2.CX X.prog X.w) X E) (hg : CallR X (.type "str") (cN W E g)) : CallR X (.type "str") (cN W E (selStr tbl g)) := by
  intro pins s σ H xs us Q I r ⟨x, hx1, ρ, σ', n, Φ, Ψ, d, e0, r1, f0, k0, x0⟩
  subst hx1
  unfold selStr at f0
  split at f0
  · rename_i c fs
    obtain ⟨φ, h1, h3⟩ := f0
    obtain ⟨f, fd, ps, m, hl, F, hb, _⟩ := T c φ h1
    obtain ⟨a, dx, fv, ex, ea, rf⟩ := rp_ob r1
    subst ex
    refine Nx.call_strO m.at_ m.fn F hb hr hx pins s σ H _ us Q I r ⟨a, dx, fv, rfl, by rw [hK]; exact ea, ?_⟩
    refine sp_one (Q := fun z H' => ∃ y, z = .str y ∧ Q z H') hK ht e0 r1 h3 (fun v H' z n' hz e' k' r' => ?_) x0
    obtain ⟨y, rfl, hz⟩ := hz
    cases r'
    exact ⟨y, rfl, k0 _ H' _ n' hz e' k' (.str _)⟩
  · exact hg pins s σ H _ us Q I r ⟨x, rfl, ρ, σ', n, Φ, Ψ, _, e0, r1, f0, k0, x0⟩
theorem oneN {f : F1} {ta : TD} {ρ : Rho} {n : Nat} {σ : L2.St} {H : Hp} {Φ : KD} {Ψ : XD} {Q : VK} (e : EnvOk W ρ n σ H) (t : dUnN f ta ρ n Φ Ψ)
    (k : ∀ v H' d n', Φ d n' → EnvOk W ρ n' σ H' → EB W.p H H' → Rp W.K W.p (Mu W ρ σ) H' v d → Q v H') (x : ExW W E Ψ) : tCB (cN W E f) (tCons (lift W E ta) tNil) σ H Q :=
  ⟨ρ, n, _, Ψ, e, t, fun v H1 d n1 h1 e1 k1 r1 => ⟨v, rfl, ρ, σ, n1, Φ, Ψ, d, e1, r1, h1, fun w H3 z n3 hz e3 k3 r3 => k w H3 z n3 hz e3 (k1.trans k3) r3, x⟩, x⟩
theorem dx_cb1 {f : F1} {x : Str} {id : String} {e : Expr} {p pos : Pos} {ta : TD} (hc : CallR X (.builtin id) (cN W E f)) (hg : Gl X x) (hm : X.mg x = none) (hb : bootBuiltins x = some (.builtin id)) (ha : PE X e (lift W E ta)) (hd1 : x ≠ "__name__" := by decide) (hd2 : (x == ("__debug__" : Str)) = false := by decide)
    (he : starEach [e] X.env = (false, eval e X.env) :: starEach [] X.env := by rfl) (hpl : (backTo pos (starEach [] X.env)).any (·.1) = false := by rfl) : PE X (.Call (.Name x p) [e] [] pos) (lift W E (dUnN f ta)) :=
  pe_imp (pe_callB hc hg hm hb (pa_cons ha pa_nil he) hd1 hd2 he hpl) fun σ H Q ⟨ρ, n, Φ, Ψ, e, t, k, x⟩ => oneN e t k x
theorem dx_cty1 {f : F1} {x : Str} {id : String} {e : Expr} {p pos : Pos} {ta : TD} (hc : CallR X (.type id) (cN W E f)) (hg : Gl X x) (hm : X.mg x = none) (hb : bootBuiltins x = some (.type id)) (ha : PE X e (lift W E ta)) (hd1 : x ≠ "__name__" := by decide) (hd2 : (x == ("__debug__" : Str)) = false := by decide)
    (he : starEach [e] X.env = (false, eval e X.env) :: starEach [] X.env := by rfl) (hpl : (backTo pos (starEach [] X.env)).any (·.1) = false := by rfl) : PE X (.Call (.Name x p) [e] [] pos) (lift W E (dUnN f ta)) :=
  pe_imp (pe_callTy hc hg hm hb (pa_cons ha pa_nil he) hd1 hd2 he hpl) fun σ H Q ⟨ρ, n, Φ, Ψ, e, t, k, x⟩ => oneN e t k x
/-! is -/
def isBD (neg : Bool) : D → D → (D → Prop) → Prop
  | .bl a, .bl b, k => k (.bl (neg ^^ decide (a = b)))
  | _, _, _ => False
theorem od_isB : OpR X (compareOp .Is) (rD W (isBD false)) := by
  intro pins s σ H x y v u Q I rx ry ⟨M, d, e, k, al, r1, r2, f, q⟩
  cases r1 <;> cases r2 <;> first | exact f.elim | skip
  refine op_isBl pins s σ H _ _ v u Q I rx ry ⟨_, _, rfl, rfl, q _ _ _ f (fun _ _ h => h) ?_⟩
  rw [Bool.false_xor]
  exact .bl _
theorem od_notB : OpR X (compareOp .IsNot) (rD W (isBD true)) := by
  intro pins s σ H x y v u Q I rx ry ⟨M, d, e, k, al, r1, r2, f, q⟩
  cases r1 <;> cases r2 <;> first | exact f.elim | skip
  refine op_notBl pins s σ H _ _ v u Q I rx ry ⟨_, _, rfl, rfl, q _ _ _ f (fun _ _ h => h) ?_⟩
  rw [Bool.true_xor]
  exact .bl _
/-! targets: lists unpacked -/
def gTuL (m : Nat) (r : TGsD) : TGD := fun d ρ k => ∃ ds, d = .lst ds ∧ ds.length = m ∧ r ds ρ k
theorem dg_unl {es : List Expr} {m : Nat} {pos : Pos} {t : TGsD} {j : Nat} (hc : X.calm = true) (h : PGs X es (liftGs W t)) (hn : (assignEach es X.env).length = m := by rfl) (hst : (assignEach es X.env).findIdx? (·.1) = none := by rfl) : PG X (.Tuple es j pos) (liftG W (gTuL m t)) := by
  refine pg_imp (pg_unl (n := m) hc h hn hst) fun v σ H Q ⟨ρ, n, d, κ, e, r, ⟨ds, q1, q2, q3⟩, k⟩ => ?_
  subst q1
  cases r with
  | lst nm h r => exact ⟨_, _, rfl, SqL.of h, r.length.trans q2, ρ, n, ds, κ, e, r, q3, k⟩
/-! an own operator in place, on a name -/
def InOk (K : PySem.W.Frag) (nm rn : Str) (i : Str) (cs : List Str) (C : Addr) : Prop := BinOk K nm rn cs C ∧ noInpl K C i = true
theorem pip_own {op : Operator} {nm rn i : Str} {tbl : List (Str × FD)} {cs : List Str} {k : Nat} {ts : List (Addr × Str)} (hadd : (op == .Add) = false) (e1 : PySem.dunder op.info.2 = nm) (e2 : dunderR op.info.2 = rn) (e3 : dunderI op.info.2 = i) (hK : X.K = W.K) (ht : W.ts = ts) (T : TBL (PM X ts k 2 nm (InOk X.K nm rn i cs)) tbl) (hr : Room k X.A) (hx : Passes (L2.CX X.prog X.w) X E) :
    PIp X op (rN W E (selN tbl (okR cs) fun _ _ _ _ _ => False)) := by
  intro pins s σ H x y v u Q I rx ry ⟨ρ, σ', n, Φ, Ψ, d, e, e0, r1, r2, f0, k0, x0⟩
  unfold selN at f0
  split at f0
  · rename_i c fs
    obtain ⟨φ, h1, h2, h3⟩ := f0
    obtain ⟨f, fd, ps, m, hl, F, hb, ⟨⟨B1, rc, B2, B3⟩, B4, B5⟩, B6⟩ := T c φ h1
    obtain ⟨a, ox, od, rfl, rfl, J, _⟩ := ob_get hK I r1 rx
    have run := Nx.run_at F hr I.env0 hb hx I (.cons (show RelV (.ref a) (.ref a) from rfl) (.cons ry .nil)) (sp_two hK ht e0 r1 r2 h3 k0 x0)
    have run' : wpAny (model X.prog X.w) X.A (call (.ref f) [.ref a, u]) (PySem.W.CmpBack (EP X pins σ Q)) X.xe s := wpAny_mono run (fun r s' ⟨c, H', I', rc, qc⟩ => Nx.back rc ⟨c, H', I', rc, qc⟩) (fun _ _ e => e)
    have byT : ∀ T, e.tn = some T → T ∈ ["NoneType", "bool", "int", "str", "tuple", "list", "dict"] → wpAny (model X.prog X.w) X.A (inplaceOp op (.ref a) u) (EP X pins σ Q) X.xe s := fun T hT hm => by
      obtain ⟨fo, ro, t1, t2, t3⟩ := B4 T hm
      exact inpl_of1 hadd I.kIn J (by rw [e3]; exact B6) (bin1_kind I.kIn J (typeOf_base hK I r2 ry hT) B1 e1 e2 m.at_ m.fn B2 B3 t1 t2 t3 run')
    cases e with
    | ob c2 fs2 =>
      obtain ⟨_, ec⟩ := B5 c2 (by simpa [okR] using h2)
      obtain ⟨a2, ox2, od2, rfl, rfl, J2, _⟩ := ob_get hK I r2 ry
      rw [ec] at J2
      exact inpl_of1 hadd I.kIn J (by rw [e3]; exact B6) (bin1_same I.kIn J J2.type B1 e1 m.at_ m.fn run')
    | non => exact byT _ rfl (by simp)
    | bl _ => exact byT _ rfl (by simp)
    | int _ => exact byT _ rfl (by simp)
    | str _ => exact byT _ rfl (by simp)
    | tup _ => exact byT _ rfl (by simp)
    | lst _ => exact byT _ rfl (by simp)
    | dct _ => exact byT _ rfl (by simp)
    | cl _ => cases h2
    | pen => cases h2
    | er _ _ => cases h2
    | fn _ => cases h2
  · exact f0.elim
def sAug (i : Nat) (f : F2) (a : TD) : TSD := fun En ρ n => ∃ x, ρ[i]? = some (.d x) ∧ a ρ n (fun y n1 => f x y n1 (fun z n2 => En.nx (ρ.set i (.d z)) n2) En.ex) En.ex
theorem ds_aug {i : Nat} {x : Str} {e : Expr} {ta : TD} {op : Operator} {f : F2} {pos pos' : Pos} (hN : X.N.Nodup) (hi : X.N[i]? = some x) (hx : Loc X.env.scope x) (hf : X.fn x = true ∨ X.env.scope.names.lookup x = some .local) (he : PE X e (lift W E ta)) (ho : PIp X op (rN W E f)) :
    PS X (.AugAssign (.Name x pos') op e pos) (liftS W E (sAug i f ta)) := ps_imp (ps_aug hN hi hx he ho hf) fun D σ H ⟨ρ, n, En, e, ⟨x, hx, t⟩, k⟩ => by
  obtain ⟨v, h1, h2⟩ := e.sl i x hx
  exact ⟨v, h1, ρ, n, _, _, e, t, fun u H1 d n1 hd e1 k1 r1 => ⟨ρ, σ, n1, _, _, x, d, e1, h2.em (e.eb k1), r1, hd, fun w H2 z n2 hz e2 k2 r2 => k.nx _ H2 _ n2 hz (e2.set r2) ((Rl.eb (k1.trans k2) e.mp).trans Rl.set), k.ex⟩, k.ex⟩
end
end DL
/-! further rules -/
namespace DL
open PySem PySem.Spec PyProof.Rows L2 Gx KX LamX
def dRevL (a : TD) : TD := fun ρ n Φ Ψ => a ρ n (fun x n1 => ∃ ds, x = .lst ds ∧ Φ (.lst ds.reverse) n1) Ψ
theorem rpl_rev {K : PySem.W.Frag} {p : Addr} {M : Addr → Prop} {H : Hp} : ∀ {vs : List V} {ds : List D}, RpL K p M H vs ds → RpL K p M H vs.reverse ds.reverse
  | _, _, .nil => .nil
  | _, _, .cons h r => by
    rw [List.reverse_cons, List.reverse_cons]
    exact (rpl_rev r).snoc h
section
variable {X : Cx} {W : Wd} {E : XK}
theorem dx_revL {e : Expr} {ta : TD} {k : Nat} {p1 p2 p3 pos : Pos} (ha : PE X e (lift W E ta)) : PE X (.Subscript e (.Slice none none (some (.UnaryOp .USub (.Constant (.int 1) k p1) p2)) p3) pos) (lift W E (dRevL ta)) :=
  pe_imp (pe_revL ha) fun σ H Q ⟨ρ, n, Φ, Ψ, e, t, k, x⟩ => ⟨ρ, n, _, Ψ, e, t, fun v H1 d n1 ⟨ds, hd, h1⟩ e1 k1 r1 => by
    subst hd
    cases r1 with
    | @lst a vs ds nm h r => exact ⟨_, _, rfl, SqL.of h, fun p np => by
        have s := new_same np (.lst vs.reverse)
        exact k _ _ _ n1 h1 (e1.same s) (k1.trans (EB.same s)) (.lst (e1.al.fresh np) upd_same ((rpl_rev r).em (EM.same s)))⟩, x⟩
theorem dx_makeR0' {c x : Str} {f : Addr} {k : Nat} {φ : FD} {p pos : Pos} {ts : List (Addr × Str)} (hK : X.K = W.K) (ht : W.ts = ts) (M : Mk X.K (He.ga X.K c) f) (F : FnR X.prog X.w X.K X.mg X.base (L2.CX X.prog X.w) k f (spIR X.K ts c φ)) (hr : Room (k + 1) X.A) (hg : Gl X x) (hm : X.mg x = some (.ref (He.ga X.K c))) (hx : Passes (L2.CX X.prog X.w) X E)
    (hd : (x == ("__debug__" : Str)) = false := by decide) : PE X (.Call (.Name x p) [] [] pos) (lift W E (dR φ dNil)) := by
  refine ⟨fun pins s σ H Q I ⟨ρ, n, Φ, Ψ, e, t, k0, x0⟩ => ?_⟩
  have rd := makeR_read (c := c) (Q := Q) (E := E) (φ := φ) (vs := []) e .nil t k0 x0
  rw [← hK, ht] at rd
  refine wpAny_Call_Name_kw (ld_glob I hg hm ?_ hd)
  refine PySem.W.callWith_K0 (first := []) I.kIn M.kp ?_
  exact StX.run_makeR (us := []) (vs := []) M F hr hx I .nil rd
theorem on_false {A : Value → Value → Sem Value} : OpR X A (rN W E fun _ _ _ _ _ => False) := fun pins s σ H x y v u Q I rx ry ⟨_, _, _, _, _, _, _, _, _, _, f0, _⟩ => f0.elim
end
end DL
/-! an own object among texts: x in (text, ..) -/
namespace PySem.SeqAt
open AutoSeq1 (wpAny_loadPart')
open MeetsSeq
theorem ko_str_declines (b : Str) (u : Tok) (l : Addr) (c : Value) (dd : Option Addr) (sl : Array (Option Value)) :
    Meets (Builtin.«str.__eq__» ⟨[.str b u, .ref l], []⟩) (fun _ R s => s.heap.get? l = some { cls := c, dict := dd, data := .plain, slots := sl } ∧ R (.ok (.ret .notImplemented)) s) :=
  .of_wp fun prog w A R s h => by obtain ⟨hp, g, d, tk, os⟩ := s; obtain ⟨hl, h⟩ := h; wp_walk using wpAny_loadPart' hl, wpAny_load hl; exact ⟨_, rfl, h⟩
end PySem.SeqAt
namespace DL
open PySem PySem.Spec PyProof.Rows L2 Gx KX LamX
section
variable {prog : Program} {w : World} {A : Around} {E : Value → Shared → Prop} {s : Shared} {K : PySem.W.Frag} {x C f : Addr} {ox : Obj} {od : Option Obj}
theorem rc_str_own {b : Str} {t : Tok} {Q : Value → Shared → Prop} (hu : A.units < cLine) (X : K.In s.heap) (I : PySem.W.InstAt s.heap x ox C od) (hd : ox.data = .plain) (hsub : PySem.W.subIn K (.ref C) (.type "str") = some false)
    (he : PySem.W.findIn K (.ref C) "__eq__" = some (some (.ref f))) (hf : PySem.W.isFn K (.ref f) = true)
    (go : wpAny (model prog w) A (call (.ref f) [.ref x, .str b t]) (PySem.W.CmpBack Q) E s) : wpAny (model prog w) A (richCompare .Eq (.str b t) (.ref x)) Q E s := by
  obtain ⟨c, dd, dt, sl⟩ := ox
  cases (show dt = _ from hd)
  have hx := I.at_
  have own : wpAny (model prog w) A (tryCompare (.ref x) "__eq__" (.str b t)) (fun r s' => ∃ v, r = some v ∧ Q v s') E s := by
    unfold tryCompare
    refine wpAny_bind (PySem.W.ifBound_K X I he hf (wpAny_mono go (fun v s' hv => ?_) fun _ _ e => e))
    cases v <;> first | exact hv.elim | exact wpAny_pure ⟨_, rfl, hv⟩
  have dec : ∀ Q' : Option Value → Shared → Prop, Q' none s → wpAny (model prog w) A (tryCompare (.str b t) "__eq__" (.ref x)) Q' E s := fun Q' q =>
    wpAny_tryCompare_declines (typeIs_str s b t) F.slot_str_eq (call_meets F.slot_str_eq (typeIs_str s b t) F.entry_str_eq (F.args_str_eq_2 _ _) (PySem.SeqAt.ko_str_declines b t x _ dd sl) ⟨hx, rfl, q⟩)
  unfold richCompare
  have h1 : oneThing? CmpOp.Eq (Value.str b t) (Value.ref x) = none := rfl
  simp only [h1]
  refine wpAny_holding (wpAny_bind (wpAny_cRoomFor hu ?_))
  refine wpAny_bind (wpAny_typeOf (typeIs_str s b t) (wpAny_bind (I.type.here ?_)))
  have h4 : ((Value.type "str" != Value.ref C) = true) := rfl
  rw [if_pos h4]
  refine wpAny_bind ((PySem.W.looks_subIn X hsub).here ?_)
  simp only [Bool.false_eq_true, if_false, Bool.not_false, if_true]
  refine wpAny_bind (dec _ ?_)
  simp only
  refine wpAny_bind (wpAny_mono own (fun r s' z => ?_) fun _ _ e => e)
  obtain ⟨v, rfl, hq⟩ := z
  exact wpAny_pure hq
theorem eqBool_str_own {b : Str} {t : Tok} {Q : Bool → Shared → Prop} (h : wpAny (model prog w) A (richCompare .Eq (.str b t) (.ref x)) (fun v s' => ∃ r, v = .bool r ∧ Q r s') E s) : wpAny (model prog w) A (eqBool (.str b t) (.ref x)) Q E s := by
  unfold eqBool
  refine wpAny_holding ?_
  refine wpAny_ite_split (fun hab => absurd (eq_of_beq hab) nofun) (fun _ => ?_)
  refine wpAny_bind (wpAny_mono h (fun v s' z => ?_) fun _ _ e => e)
  obtain ⟨r, rfl, q⟩ := z
  exact wpAny_truthy_bool q
end
section
open AutoSeq1 (wpAny_loadPart')
variable {prog : Program} {w : World} {A : Around} {R : Result → Shared → Prop}
/-- none of them is x -/
theorem tuple_notIn (l : Addr) (items : Array Value) (n : Nat) (dd : Option Addr) (sl : Array (Option Value)) (x : Value) (J : Shared → Prop)
    (turn : ∀ y ∈ items, ∀ s, J s → wpAny (model prog w) A.in1 (eqBool y x) (fun r s' => r = false ∧ J s') (fun e s' => R (.error e) s') s)
    (fin : ∀ s, J s → R (.ok (.ret (.bool false))) s) {s : Shared} (hl1 : s.heap.get? l = some { cls := .type "tuple", dict := dd, data := .seq items n, slots := sl }) (h : J s) :
    wpAny (model prog w) A.in1 (Builtin.«tuple.__contains__» ⟨[.ref l, x], []⟩) (GQ.FinOf prog w A R) (fun e s' => R (.error e) s') s := by
  have h0 := h
  obtain ⟨hp, g, d, tk, os⟩ := s
  wp_walk using wpAny_loadPart' hl1, PySem.MeetsSeq2.wpAny_forIn_array _ (fun rest b s' => b.1 = none ∧ (∀ y, y ∈ rest → y ∈ items) ∧ J s') _
  case turn =>
    rintro y rest b s' ⟨hb, hmem, hJ⟩
    refine wpAny_bind (wpAny_mono (turn y (hmem y (List.mem_cons_self ..)) s' hJ) (fun r s2 q2 => ?_) fun _ _ x => x)
    obtain ⟨hr, q2⟩ := q2
    subst hr
    wp_walk
    exact ⟨rfl, fun z hz => hmem z (List.mem_cons_of_mem _ hz), q2⟩
  case fin =>
    rintro ⟨b1, b2⟩ s' ⟨hb, -, hJ⟩
    simp only at hb
    subst hb
    have hR := fin s' hJ
    wp_walk
    exact hR
  case h =>
    exact ⟨rfl, fun y hy => by simpa using hy, h0⟩
end
/-- an own object among texts is none of them: its own == says so -/
def inX (neg : Bool) (tbl : List (Str × FD)) (g : F2) : F2 := fun x y n Φ Ψ => match x with
  | .ob c fs => ∃ (φ : FD) (ss : List Str), tbl.lookup c = some φ ∧ y = .tup (ss.map D.str) ∧ (∀ z ∈ ss, ∀ n' (Φ' : KD), Φ' (.bl false) n' → φ [.ob c fs, .str z] n' Φ' (fun _ _ => False)) ∧ Φ (.bl neg) n
  | x => g x y n Φ Ψ
section
variable {X : Cx} {W : Wd} {E : XK}
def EqOk (K : PySem.W.Frag) (C : Addr) : Prop := PySem.W.subIn K (.ref C) (.type "str") = some false
theorem strs_rp {K : PySem.W.Frag} {p : Addr} {M : Addr → Prop} {H : Hp} : ∀ {vs : List V} {ss : List Str}, RpL K p M H vs (ss.map D.str) → vs = ss.map V.str
  | [], [], _ => rfl
  | _ :: _, [], h => by cases h
  | [], _ :: _, h => by cases h
  | v :: vs, s :: ss, .cons h r => by
    cases h
    rw [List.map_cons, strs_rp r]
theorem in_own {tbl : List (Str × FD)} {k : Nat} {ts : List (Addr × Str)} (hK : X.K = W.K) (ht : W.ts = ts) (T : TBL (PM X ts k 2 "__eq__" (EqOk X.K)) tbl) (hr : Room (k + 1) X.A) (hx : Passes (L2.CX X.prog X.w) X E)
    {pins : List (Addr × Obj)} {s : Shared} {σ' : L2.St} {H : Hp} {x y : V} {v u : Value} {ρ : Rho} {σ : L2.St} {n : Nat} {c : Str} {fs : List (Str × D)} {φ : FD} {ss : List Str} (I : Inv X pins σ' H s) (rx : RelV x v) (ry : RelV y u)
    (e0 : EnvOk W ρ n σ H) (r1 : Rp W.K W.p (Mu W ρ σ) H x (.ob c fs)) (r2 : Rp W.K W.p (Mu W ρ σ) H y (.tup (ss.map D.str))) (hl : tbl.lookup c = some φ)
    (hφ : ∀ z ∈ ss, ∀ n' (Φ' : KD), Φ' (.bl false) n' → φ [.ob c fs, .str z] n' Φ' (fun _ _ => False)) (b : Bool) {Q : Value → Shared → Prop} {op : CmpOp} (hop : op = .In ∨ op = .NotIn)
    (q : ∀ s' H', Inv X pins σ' H' s' → EnvOk W ρ n σ H' → EB W.p H H' → Q (.bool (op == .NotIn)) s') : wpAny (model X.prog X.w) X.A (compareOp op v u) Q X.xe s := by
  obtain ⟨f, fd, ps, m, hln, F, hb, R⟩ := T c φ hl
  obtain ⟨a, ox, od, rfl, rfl, J, hpl0⟩ := ob_get hK I r1 rx
  obtain ⟨l, vv, rfl, sq, rl⟩ : ∃ l vs, y = V.ref l ∧ SqT W.K H l vs ∧ RpL W.K W.p (Mu W ρ σ) H vs (ss.map D.str) := by
    cases r2 with
    | tup n1 h1 l1 => exact ⟨_, _, rfl, SqT.of h1, l1⟩
    | tupS h1 l1 => exact ⟨_, _, rfl, h1 _, l1⟩
  cases (show u = Value.ref l from ry)
  have ev := strs_rp rl
  subst ev
  obtain ⟨its, rv, pl, hz⟩ := I.tuple (hK ▸ sq)
  obtain ⟨⟨cls, dd, data, sl⟩, ho, hc, nn, hd⟩ := id pl
  simp only at hc hd
  subst hc hd
  have mem : ∀ (ss : List Str) (its : List Value), Vals (ss.map V.str) its → ∀ y ∈ its, ∃ z ∈ ss, ∃ t, y = .str z t := by
    intro ss
    induction ss with
    | nil => intro its r y hy; cases r; cases hy
    | cons z ss ih =>
      intro its r y hy
      cases r with
      | cons r1 r2 =>
        obtain ⟨t, rfl⟩ := r1
        rcases List.mem_cons.mp hy with rfl | hy
        · exact ⟨z, List.mem_cons_self, t, rfl⟩
        · obtain ⟨z2, m2, q⟩ := ih _ r2 y hy
          exact ⟨z2, List.mem_cons_of_mem _ m2, q⟩
  have run : ∀ {Q' : Value → Shared → Prop}, (∀ s' H', Inv X pins σ' H' s' → EnvOk W ρ n σ H' → EB W.p H H' → Q' (.bool false) s') → wpAny (model X.prog X.w) X.A (call (.builtin "tuple.__contains__") [.ref l, .ref a]) Q' X.xe s := fun {Q'} q' => by
    refine GQ.call_here PySem.F.slot_tuple_contains ⟨_, ho, rfl⟩ PySem.F.entry_tuple_contains (PySem.F.args_tuple_contains_2 _ _) ?_
    refine tuple_notIn (R := wants Q' X.xe) l its.toArray nn dd sl (.ref a) (fun s' => ∃ H', Inv X pins σ' H' s' ∧ EnvOk W ρ n σ H' ∧ EB W.p H H') (fun y hy s' ⟨H', I', e', k'⟩ => ?_) (fun s' ⟨H', I', e', k'⟩ => q' s' H' I' e' k') ho ⟨H, I, e0, EB.refl _ _⟩
    obtain ⟨z, hz, t, rfl⟩ := mem _ _ rv y (by simpa using hy)
    have r1' := r1.em (e0.eb k')
    obtain ⟨a', ox', od', ea, _, J', hpl⟩ := ob_get hK I' r1' rx
    cases ea
    refine eqBool_str_own (rc_str_own hr.in1.units0 I'.kIn J' hpl R m.at_ m.fn ?_)
    refine wpAny_mono (Nx.run_at F hr.in1 I'.env0.in1 hb hx I' (.cons (show RelV (.ref a) (.ref a) from rfl) (.cons (show RelV (.str z) (.str z t) from ⟨t, rfl⟩) .nil)) (sp_two (Q := fun v H2 => v = .bl false ∧ EnvOk W ρ n σ H2 ∧ EB W.p H H2) hK ht e' r1' (.str z) (hφ z hz n (fun d n' => d = .bl false ∧ n' = n) ⟨rfl, rfl⟩) (fun v H2 d n' hd e2 k2 rd => ?_) (fun _ _ _ _ _ h => h.elim))) ?_ (fun _ _ e => e)
    · obtain ⟨rfl, rfl⟩ := hd
      cases rd
      exact ⟨rfl, e2, k'.trans k2⟩
    · rintro r s2 ⟨v2, H2, I2, rv2, ez, e2, k2⟩
      subst ez
      cases (show r = Value.bool false from rv2)
      exact ⟨_, rfl, rfl, H2, I2, e2, k2⟩
  rcases hop with rfl | rfl
  · show wpAny _ _ (contains (.ref l) (.ref a) >>= fun r => pure (Value.bool r)) _ _ _
    refine wpAny_bind (wpAny_contains_slot ⟨_, ho, rfl⟩ PySem.F.slot_tuple_contains (run fun s' H' I' e' k' => ?_))
    exact wpAny_truthy_bool (wpAny_pure (q s' H' I' e' k'))
  · show wpAny _ _ (contains (.ref l) (.ref a) >>= fun r => pure (Value.bool (!r))) _ _ _
    refine wpAny_bind (wpAny_contains_slot ⟨_, ho, rfl⟩ PySem.F.slot_tuple_contains (run fun s' H' I' e' k' => ?_))
    exact wpAny_truthy_bool (wpAny_pure (q s' H' I' e' k'))
theorem on_inX {tbl : List (Str × FD)} {g : F2} {k : Nat} {ts : List (Addr × Str)} (hK : X.K = W.K) (ht : W.ts = ts) (T : TBL (PM X ts k 2 "__eq__" (EqOk X.K)) tbl) (hr : Room (k + 1) X.A) (hx : Passes (L2.CX X.prog X.w) X E)
    (hg : OpR X (compareOp .In) (rN W E g)) : OpR X (compareOp .In) (rN W E (inX false tbl g)) := by
  intro pins s σ H x y v u Q I rx ry ⟨ρ, σ', n, Φ, Ψ, d, e, e0, r1, r2, f0, k0, x0⟩
  unfold inX at f0
  split at f0
  · rename_i c fs
    obtain ⟨φ, ss, h1, rfl, h3, h4⟩ := f0
    exact in_own hK ht T hr hx I rx ry e0 r1 r2 h1 h3 false (.inl rfl) fun s' H' I' e' k' => ⟨.bl false, H', I', rfl, k0 _ _ _ _ h4 e' k' (.bl _)⟩
  · exact hg pins s σ H x y v u Q I rx ry ⟨ρ, σ', n, Φ, Ψ, _, e, e0, r1, r2, f0, k0, x0⟩
theorem on_notInX {tbl : List (Str × FD)} {g : F2} {k : Nat} {ts : List (Addr × Str)} (hK : X.K = W.K) (ht : W.ts = ts) (T : TBL (PM X ts k 2 "__eq__" (EqOk X.K)) tbl) (hr : Room (k + 1) X.A) (hx : Passes (L2.CX X.prog X.w) X E)
    (hg : OpR X (compareOp .NotIn) (rN W E g)) : OpR X (compareOp .NotIn) (rN W E (inX true tbl g)) := by
  intro pins s σ H x y v u Q I rx ry ⟨ρ, σ', n, Φ, Ψ, d, e, e0, r1, r2, f0, k0, x0⟩
  unfold inX at f0
  split at f0
  · rename_i c fs
    obtain ⟨φ, ss, h1, rfl, h3, h4⟩ := f0
    exact in_own hK ht T hr hx I rx ry e0 r1 r2 h1 h3 true (.inr rfl) fun s' H' I' e' k' => ⟨.bl true, H', I', rfl, k0 _ _ _ _ h4 e' k' (.bl _)⟩
  · exact hg pins s σ H x y v u Q I rx ry ⟨ρ, σ', n, Φ, Ψ, _, e, e0, r1, r2, f0, k0, x0⟩
end
end DL
/-! further rules: str of containers, x = [..] -/
namespace DL
open PySem PySem.Spec PyProof.Rows L2 Gx KX LamX
section
variable {X : Cx} {W : Wd} {E : XK}
theorem ds_setLc (hK : X.K = W.K) {i : Nat} {y : Str} {py : Pos} {elt iter : Expr} {ifs : List Expr} {scope : Scope} {x : Str} {px : Pos} {j : Nat} {pos spos : Pos} {ti : TID} {tt : TTD} {te : TD} (hc : X.calm = true) (hN : X.N.Nodup) (hy : X.N[i]? = some y) (hyl : X.env.scope.names.lookup y = some .local)
    (hsw : swapsWith (.ListComp elt [⟨.Name x px, iter, ifs, 0⟩] scope pos) (some (.Name y py)) spos.line X.env = pure true) (hi : PI X (.Name x px) iter (liftI W E ti)) (ok : BlkOk X.N X.env.scope scope [(x, j)])
    (hg : ∀ (s : Shared) (H : Hp) (C : Addr) (cl : List (Str × Addr)) (fp : List Addr), PG (X.blk s H scope (compEnvC scope cl C X.env) fp) (.Name x px) (gName j))
    (ht : ∀ (W' : Wd), W'.K = W.K → W'.ts = W.ts → ∀ (s : Shared) (H : Hp) (C : Addr) (cl : List (Str × Addr)) (fp : List Addr), PTs (X.blk s H scope (compEnvC scope cl C X.env) fp) ifs (liftT W' EF tt))
    (he : ∀ (W' : Wd), W'.K = W.K → W'.ts = W.ts → ∀ (s : Shared) (H : Hp) (C : Addr) (cl : List (Str × Addr)) (fp : List Addr), PE (X.blk s H scope (compEnvC scope cl C X.env) fp) elt (lift W' EF te))
    (hs : ∀ x, foldedSetIterable iter X.env x = pure x := by intro _; rfl) :
    PS X (.Assign [.Name y py] (.ListComp elt [⟨.Name x px, iter, ifs, 0⟩] scope pos) spos) (liftS W E (sSet i (dLc ti j tt te))) := by
  refine ps_imp (ps_setLc (own := [(x, j)]) (g := gName j) (tt := fun σ H Q => ∃ W' : Wd, W'.K = W.K ∧ W'.ts = W.ts ∧ liftT W' EF tt σ H Q) (te := fun σ H Q => ∃ W' : Wd, W'.K = W.K ∧ W'.ts = W.ts ∧ lift W' EF te σ H Q) hc hN hy hyl hsw hi ok hg ?_ ?_ hs) fun D σ H h => ?_
  · intro s H C cl fp
    exact ⟨fun pins s' σ H' Q I ⟨W', h1, h2, h3⟩ => (ht W' h1 h2 s H C cl fp).run pins s' σ H' Q I h3⟩
  · intro s H C cl fp
    exact ⟨fun pins s' σ H' Q I ⟨W', h1, h2, h3⟩ => (he W' h1 h2 s H C cl fp).run pins s' σ H' Q I h3⟩
  · obtain ⟨ρ, n, En, e, t, k⟩ := h
    exact lc_read hK (fun W' h1 h2 σ H Q h => ⟨W', h1, h2, h⟩) (fun W' h1 h2 σ H Q h => ⟨W', h1, h2, h⟩) ⟨ρ, n, _, En.ex, e, t, fun v H' d n' hd e' kb r => k.nx _ H' _ n' hd (e'.set r) ((Rl.eb kb e.mp).trans Rl.set), k.ex⟩
/-- str of a list, a tuple, a dict, too -/
def strQ : List D → (D → Prop) → Prop
  | [.int i], k => i.natAbs.log2 < 1920 ∧ k (.str (toString i))
  | [.str a], k => k (.str a)
  | [.lst ds], k => fineD (.lst ds) = true ∧ k (.str (D.py (.lst ds)).shown)
  | [.tup ds], k => fineD (.tup ds) = true ∧ k (.str (D.py (.tup ds)).shown)
  | [.dct ds], k => fineD (.dct ds) = true ∧ k (.str (D.py (.dct ds)).shown)
  | _, _ => False
theorem cd_strQ (hK : X.K = W.K) (sm : SmK X.K) (gu : X.A.guards = some []) (hu : X.A.units + 64 < cLine) : CallR X (.type "str") (cD W strQ) := by
  intro pins s σ H xs us Q I r ⟨M, ds, k, al, r1, f, q⟩
  have big : ∀ (d : D), fineD d = true → (∀ v, Rp W.K W.p M H v d → ∃ a, v = .ref a) → RpL W.K W.p M H xs [d] → k (.str d.py.shown) → wpAny (model X.prog X.w) X.A (call (.type "str") us) (EP X pins σ Q) X.xe s := fun d fd rf rl kd => by
    obtain ⟨v, rfl, r2⟩ := one_rp rl
    obtain ⟨u, rfl, ru⟩ := r.one
    obtain ⟨a, rfl⟩ := rf v r2
    cases (show u = Value.ref a from ru)
    unfold fineD at fd
    rw [Bool.and_eq_true] at fd
    obtain ⟨sh, dp, sz⟩ := fine_len fd.2
    obtain ⟨as, rd, nas⟩ := Dq.reads I sm (hK ▸ r2.dq fd.1) _ ru
    refine str_of_reads rd sh (fun _ => nas) gu (by omega) (fun _ _ e => e) ?_ sz
    intro h' u tk kp
    exact ⟨.str d.py.shown, H, I.kept kp, ⟨u, rfl⟩, q _ _ _ kd (fun _ _ h => h) (.str _)⟩
  unfold strQ at f
  split at f <;> first | exact f.elim | skip
  · exact cd_str pins s σ H xs us Q I r ⟨M, _, k, al, r1, f, q⟩
  · exact cd_str pins s σ H xs us Q I r ⟨M, _, k, al, r1, f, q⟩
  · exact big _ f.1 (fun v h => by cases h; exact ⟨_, rfl⟩) r1 f.2
  · exact big _ f.1 (fun v h => by cases h <;> exact ⟨_, rfl⟩) r1 f.2
  · exact big _ f.1 (fun v h => by cases h; exact ⟨_, rfl⟩) r1 f.2
end
end DL
/-! a try that asks one def alone, its error kept: all that the def held stands behind it -/
namespace DL
open PySem PySem.Spec PyProof.Rows L2 Gx KX LamX
/-- f(e, ..): what the callee raises is taken at the very state -/
theorem pe_callV {X : Cx} {k : Nat} {f : Addr} {fd : FuncData} {ps : List Str} {sp : Sp} {dvs : List V} {ds : List Value} {V : WX} {x : Str} {p pos : Pos} {e : Expr} {es : List Expr} {t : TA}
    (F : FnOk X.prog X.w X.K X.mg X.base (L2.CX X.prog X.w) k f fd ps sp) (hr : Room k X.A) (hg : Gl X x) (hm : X.mg x = some (.ref f)) (hk : PySem.W.keepIn X.K (.ref f) = true) (hb : Binds X.K fd ps ds) (hd : Vals dvs ds) (tk : Takes X V)
    (ha : PA X (e :: es) t) (hdb : (x == ("__debug__" : Str)) = false := by decide) (he : starEach (e :: es) X.env = (false, eval e X.env) :: starEach es X.env := by rfl) (hpl : (backTo pos (starEach es X.env)).any (·.1) = false := by rfl) :
    PE X (.Call (.Name x p) (e :: es) [] pos) (fun σ H Q => t σ H (fun vs H1 => sp (vs ++ dvs) H1 Q (fun c d H' => V c d σ H'))) := by
  refine ⟨fun pins s σ H Q I h => ?_⟩
  refine wpAny_Call_Name_kw (ld_glob I hg hm ?_ hdb)
  refine PySem.W.callWith_K (h₀ := X.base) I.ok.mod.kin hk (thn (ha.run pos pins s σ H _ I h) fun us s1 ⟨vs, H1, I1, r, q⟩ => ⟨I1.kIn, ?_⟩) he hpl
  have r2 : Vals (vs ++ dvs) (us ++ ds) := r.append hd
  have hl : (us ++ ds).length = ps.length := by rw [← r2.length]; exact F.len _ _ _ _ q
  refine wpAny_call (codeAny_mono (F.run X.A X.stack s1 H1 ⟨us, []⟩ (us ++ ds) (vs ++ dvs) Q _ hr I1.env0 (hb s1 us I1.kIn hl) r2 q) fun r s' hq => ?_)
  cases r with
  | error e => exact tk e s' (XE.of_call I1 (fun c d H' h => h) hq)
  | ok fl =>
    cases fl with
    | ret u => exact I1.after hq
    | next => exact False.elim hq
    | brk => exact False.elim hq
    | cont => exact False.elim hq
/-- the words: the call; behind a caught error slot j keeps it -/
def sTryC (i j m : Nat) (φ : FD) (cs : List Str) (ta : TAD) (t : TSD) : TSD := fun En ρ n => ρ[i]? = some .un ∧ ta ρ n (fun ds n1 => ds.length = m ∧ φ ds n1 (fun _ n2 => t En ρ n2) (fun er n2 => cs.contains er.c = true ∧ t En (ρ.set j (.d (.er er.c er.fs))) n2)) (fun _ _ => False)
section
variable {X : Cx} {W : Wd} {E : XK}
theorem mu_unset {ρ : Rho} {σ : L2.St} {i : Nat} (h : ρ[i]? = some .un) (x : Option V) (b : Addr) : Mu W ρ (σ.set i x) b ↔ Mu W ρ σ b := by
  have ne : ∀ {k : Nat} {o : Ow}, ρ[k]? = some (.own o) → i ≠ k := fun {k o} g z => by
    rw [← z, h] at g
    cases g
  constructor
  · rintro (m | ⟨k, o, h1, h2⟩)
    · exact .inl m
    · rw [List.getElem?_set, if_neg (ne h1)] at h2
      exact .inr ⟨k, o, h1, h2⟩
  · rintro (m | ⟨k, o, h1, h2⟩)
    · exact .inl m
    · exact .inr ⟨k, o, h1, by rw [List.getElem?_set, if_neg (ne h1)]; exact h2⟩
theorem EnvOk.unset {ρ : Rho} {n : Nat} {σ : L2.St} {H : Hp} {i : Nat} (e : EnvOk W ρ n σ H) (h : ρ[i]? = some .un) (x : Option V) : EnvOk W ρ n (σ.set i x) H := by
  have ne : ∀ {k : Nat} {s : Sl}, ρ[k]? = some s → s ≠ .un → i ≠ k := fun {k s} g ns z => by
    rw [← z, h] at g
    cases g
    exact ns rfl
  have get : ∀ {k : Nat} {s : Sl}, ρ[k]? = some s → s ≠ .un → (σ.set i x)[k]? = σ[k]? := fun {k s} g ns => by
    rw [List.getElem?_set, if_neg (ne g ns)]
  refine ⟨fun k y g => ?_, fun k o g => ?_, fun k l o o' a g1 g2 g3 g4 => ?_, e.pen, e.tab, e.base, e.cp, e.cm, e.mq, e.mal, e.mlv, by rw [List.length_set]; exact e.len⟩
  · obtain ⟨v, h1, h2⟩ := e.sl k y g
    exact ⟨v, by rw [get g (by intro z; cases z)]; exact h1, h2.less fun b => (mu_unset h x b).mp⟩
  · obtain ⟨a, h1, h2, h3⟩ := e.ow k o g
    exact ⟨a, by rw [get g (by intro z; cases z)]; exact h1, h2.less fun b => (mu_unset h x b).mp, h3⟩
  · rw [get g1 (by intro z; cases z)] at g3
    rw [get g2 (by intro z; cases z)] at g4
    exact e.inj k l o o' a g1 g2 g3 g4
theorem Rl.unset {ρ : Rho} {σ : L2.St} {H : Hp} {i : Nat} (h : ρ[i]? = some .un) (x : Option V) : Rl W ρ σ H ρ (σ.set i x) H := ⟨EM.refl _ _, fun b m => .inl ((mu_unset h x b).mp m), fun k c fs g => ⟨⟨fs, g⟩, by
  rw [List.getElem?_set, if_neg (fun z => by rw [← z, h] at g; cases g)]⟩⟩
theorem dss_tryC {k i j : Nat} {f : Addr} {fd : FuncData} {ps : List Str} {φ : FD} {us : List Value} {x xc n : Str} {c : Value} {suite rest : List Stmt} {b0 : Stmt} {np p pos pos' pos2 pos3 : Pos} {e0 : Expr} {es : List Expr} {cs : List Str} {ta : TAD} {t : TSD} {ts : List (Addr × Str)} {m : Nat}
    (hK : X.K = W.K) (ht : W.ts = ts) (hex : X.ex = []) (hs : X.stack = X.env :: X.outer) (hf : X.env.frame = some X.env.locals) (hN : X.N.Nodup) (hi : X.N[i]? = some n) (hln : X.env.kindOf n = some .local) (hc : Names X xc c)
    (hij : i ≠ j) (hj : j < X.N.length) (hcs : ∀ a ∈ cs, PySem.W.exmOne X.K (.ref (He.ga X.K a)) c = some true)
    (F : FnOk X.prog X.w X.K X.mg X.base (L2.CX X.prog X.w) k f fd ps (spD X.K ts m φ)) (hr : Room k X.A) (hg : Gl X x) (hm : X.mg x = some (.ref f)) (hk : PySem.W.keepIn X.K (.ref f) = true) (hb : Binds X.K fd ps us) (hu : us = [])
    (ha : ∀ (pn : List (Addr × Obj)) (xe : Value → Shared → Prop), PA (X.tr pn xe) (e0 :: es) (liftA W EF ta))
    (hsu : ∀ (a : Addr) (oe : Obj) (pn : List (Addr × Obj)), PSs (X.suite a ((a, oe) :: pn)) (b0 :: suite) (fun D σ H => ∃ v, σ[i]? = some (some v) ∧ D.nx (σ.set j (some v)) H))
    (h0 : PSs X rest (liftS W E t)) (h1 : ∀ pn : List (Addr × Obj), PSs (X.tr pn X.xe) rest (liftS W E t))
    (hdb : (x == ("__debug__" : Str)) = false := by decide) (he : ∀ (pn : List (Addr × Obj)) (xe : Value → Shared → Prop), starEach (e0 :: es) (X.tr pn xe).env = (false, eval e0 (X.tr pn xe).env) :: starEach es (X.tr pn xe).env := by intro _ _; rfl) (hpl : ∀ (pn : List (Addr × Obj)) (xe : Value → Shared → Prop), (backTo pos (starEach es (X.tr pn xe).env)).any (·.1) = false := by intro _ _; rfl) (hps : ps.length = m := by rfl) :
    PSs X (.Try [.Expr (.Call (.Name x p) (e0 :: es) [] pos) pos2] [.ExceptHandler (some (.Name xc np)) (some n) (b0 :: suite) pos'] [] [] pos3 :: rest) (liftS W E (sTryC i j m φ cs ta t)) := by
  subst hu hps
  have F := at_w hK ht F
  refine pss_imp (pss_try_er (Wout := fun _ _ _ _ => False) (tb := fun V D σ H => liftA W EF ta σ H (fun vs H1 => spD W.K W.ts ps.length φ (vs ++ []) H1 (fun _ H2 => D.nx σ H2) (fun c d H' => V c d σ H'))) (ts := fun a cls d D σ H => ∃ v, σ[i]? = some (some v) ∧ D.nx (σ.set j (some v)) H) (t1 := fun a cls d => liftS W E t)
    hex hs hf hN hi hln hc takes0 (fun V pn xe tk _ => pss_one (ps_imp (ps_expr (pe_callV (X := X.tr pn xe) F hr hg hm hk hb .nil tk (ha pn xe) hdb (he pn xe) (hpl pn xe))) fun D σ H h => h)) (fun a oe cls d pn _ _ => hsu a oe pn) h0 fun a cls d pn => h1 pn) fun D σ H h => ?_
  obtain ⟨ρ, m, En, e, ⟨hu, h2⟩, kk⟩ := h
  refine ⟨ρ, m, _, _, e, h2, fun vs H1 ds n1 ⟨h3, h4⟩ e1 k1 r1 => ?_, fun _ _ _ _ _ z => z.elim⟩
  show spD W.K W.ts ps.length φ (vs ++ []) H1 _ _
  rw [List.append_nil]
  refine ⟨W.p, W.q, Mu W ρ σ, ds, n1, _, _, e1.mup, .inl e1.mq, e1.al, h3, r1, e1.pen, e1.tab, h4, fun v H' d n' hd eb pa ta rp => ?_, fun er n' cls dd H' ⟨q1, q2⟩ eb pa ta ⟨r1, r2⟩ => ?_⟩
  · exact ⟨ρ, n', En, e1.step eb pa ta, hd, kk.from (Rl.eb (k1.trans eb) e.mp)⟩
  · refine ⟨true, ?_, fun _ a na => ⟨.ref a, ?_, fun na' => ?_⟩, fun z => by cases z⟩
    · rw [r1, ← hK]
      exact hcs _ (by simpa using q1)
    · rw [List.getElem?_set, if_pos rfl, if_pos (by have := e.len; have := (List.getElem?_eq_some_iff.mp hu).1; omega)]
    · have e2 := e1.step eb pa ta
      have s := new_same na (ErO cls dd a)
      have e3 := (e2.same s).unset hu none
      have nMa : ¬ Mu W ρ (σ.set i none) a := fun z => (e2.al.fresh na) ((mu_unset hu none a).mp z)
      have erk : ErK (He.ga W.K er.c) dd a (ErO cls dd a) := ⟨_, rfl, fun h q => by rw [r1] at q; exact q⟩
      have rp : Rp W.K W.p (Mu W ρ (σ.set i none)) (upd H' a (ErO cls dd a)) (.ref a) (.er er.c er.fs) := by
        rcases r2 with ⟨h5, h6⟩ | ⟨d, fv, h5, h6, h7, h8⟩
        · subst h5
          rw [h6]
          exact .er0 nMa upd_same erk
        · subst h5
          exact .er nMa (fun z => h8 ((mu_unset hu none d).mp z)) upd_same erk (s _ _ h6) ((h7.em (EM.same s)).less fun b => (mu_unset hu none b).mp)
      have e4 := e3.set (i := j) rp
      have es : ((σ.set i (some (V.ref a))).set j (some (.ref a))).set i none = (σ.set i none).set j (some (.ref a)) := by
        rw [List.set_comm _ _ (fun z => hij z.symm), List.set_set]
      rw [es]
      exact ⟨_, n', En, e4, q2, kk.from ((((Rl.eb (k1.trans eb) e.mp).trans (Rl.same (EM.same s))).trans (Rl.unset hu none)).trans Rl.set)⟩
end
end DL
/-! texts joined, sorted, formatted -/
namespace DL
open PySem PySem.Spec PyProof.Rows L2 Gx KX LamX
section
variable {X : Cx} {W : Wd} {E : XK}
/-- sep.join(texts) -/
def joinD : D → List D → (D → Prop) → Prop
  | .str a, [.lst ds], k => ∃ ss : List Str, ds = ss.map D.str ∧ (ss.map (·.length)).sum + ss.length * a.length ≤ 16777216 ∧ k (.str (Txt.join a ss))
  | .str a, [.tup ds], k => ∃ ss : List Str, ds = ss.map D.str ∧ (ss.map (·.length)).sum + ss.length * a.length ≤ 16777216 ∧ k (.str (Txt.join a ss))
  | _, _, _ => False
theorem bm_join (hK : X.K = W.K) : MtR X "str.join" (mD W joinD) := by
  intro pins s σ H x xs v us Q I rx rxs ⟨M, d, ds, k, al, r1, r2, f, q⟩
  unfold joinD at f
  split at f <;> first | exact f.elim | skip
  · obtain ⟨ss, rfl, h1, h2⟩ := f
    cases r1
    obtain ⟨w, rfl, r3⟩ := one_rp r2
    cases r3 with
    | lst n1 g1 l1 =>
      have := strs_rp l1
      subst this
      exact mt_join pins s σ H _ _ v us Q I rx rxs ⟨_, _, ss, rfl, rfl, .inl (SqL.of g1), h1, q _ _ _ h2 (fun _ _ h => h) (.str _)⟩
  · obtain ⟨ss, rfl, h1, h2⟩ := f
    cases r1
    obtain ⟨w, rfl, r3⟩ := one_rp r2
    cases r3 with
    | tup n1 g1 l1 =>
      have := strs_rp l1
      subst this
      exact mt_join pins s σ H _ _ v us Q I rx rxs ⟨_, _, ss, rfl, rfl, .inr (SqT.of g1), h1, q _ _ _ h2 (fun _ _ h => h) (.str _)⟩
    | tupS g1 l1 =>
      have := strs_rp l1
      subst this
      exact mt_join pins s σ H _ _ v us Q I rx rxs ⟨_, _, ss, rfl, rfl, .inr (hK ▸ g1 _), h1, q _ _ _ h2 (fun _ _ h => h) (.str _)⟩
/-- sorted(texts) -/
def sortedD : List D → (D → Prop) → Prop
  | [.lst ds], k => ∃ ss : List Str, ds = ss.map D.str ∧ ss.length < 64 ∧ ∀ ys : List Str, ys.Perm ss → sortedS ys = true → k (.lst (ys.map D.str))
  | _, _ => False
theorem cd_sorted (hK : X.K = W.K) : CallR X (.builtin "sorted") (cD W sortedD) := by
  intro pins s σ H xs us Q I r ⟨M, ds, k, al, r1, f, q⟩
  unfold sortedD at f
  split at f <;> first | exact f.elim | skip
  obtain ⟨ss, rfl, h1, h2⟩ := f
  obtain ⟨v, rfl, r2⟩ := one_rp r1
  cases r2 with
  | lst n1 g1 l1 =>
    have := strs_rp l1
    subst this
    exact cr_sortedS pins s σ H _ us Q I r ⟨_, ss, rfl, SqL.of g1, h1, fun ys p hp hs np => q _ _ _ (h2 ys hp hs) (new_same np _) (.lst (al.fresh np) upd_same rp_of_strs)⟩
/-! f'..' -/
def fmtD : D → (D → Prop) → Prop
  | .str y, k => y.length ≤ sizeLine ∧ k (.str y)
  | .int i, k => i.natAbs.log2 < 1920 ∧ k (.str (toString i))
  | _, _ => False
def dFmt (a : TD) : TD := fun ρ n Φ Ψ => a ρ n (fun x n1 => fmtD x fun z => Φ z n1) Ψ
theorem dx_fmt {e : Expr} {pos : Pos} {ta : TD} (he : PE X e (lift W E ta)) : PE X (.FormattedValue e (-1) none pos) (lift W E (dFmt ta)) :=
  pe_imp (pe_fmt he) fun σ H Q ⟨ρ, n, Φ, Ψ, e, t, k, x⟩ => ⟨ρ, n, _, Ψ, e, t, fun v H1 d n1 h1 e1 k1 r1 => by
    unfold fmtD at h1
    split at h1 <;> first | exact h1.elim | skip
    · cases r1
      exact .inl ⟨_, rfl, h1.1, k _ H1 _ n1 h1.2 e1 k1 (.str _)⟩
    · cases r1
      exact .inr ⟨_, rfl, h1.1, k _ H1 _ n1 h1.2 e1 k1 (.str _)⟩, x⟩
def dJsG : List TD → Str → Rho → Nat → (Str → Nat → Prop) → XD → Prop
  | [], acc, _, n, Φ, _ => Φ acc n
  | t :: ts, acc, ρ, n, Φ, Ψ => t ρ n (fun x n1 => ∃ y, x = .str y ∧ (acc ++ y).length ≤ sizeLine ∧ dJsG ts (acc ++ y) ρ n1 Φ Ψ) Ψ
def dJs (ts : List TD) : TD := fun ρ n Φ Ψ => dJsG ts Str.empty ρ n (fun s n1 => Φ (.str s) n1) Ψ
theorem dj_nil : PJ X [] (([] : List TD).map (lift W E)) := .nil
theorem dj_cons {e : Expr} {es : List Expr} {t : TD} {ts : List TD} (h : PE X e (lift W E t)) (r : PJ X es (ts.map (lift W E))) : PJ X (e :: es) ((t :: ts).map (lift W E)) := .cons h r
theorem js_read {ρ : Rho} {σ : L2.St} {Ψ : XD} {Q : Str → Hp → Prop} (x : ExW W E Ψ) : ∀ (ts : List TD) (acc : Str) (n : Nat) (H : Hp) (Φ : Str → Nat → Prop), EnvOk W ρ n σ H → dJsG ts acc ρ n Φ Ψ → (∀ out H' n', Φ out n' → EnvOk W ρ n' σ H' → EB W.p H H' → Q out H') → tJs (ts.map (lift W E)) acc σ H Q
  | [], acc, n, H, Φ, e, t, k => k acc H n t e (EB.refl _ _)
  | t :: ts, acc, n, H, Φ, e, q, k => ⟨ρ, n, _, Ψ, e, q, fun v H1 d n1 ⟨y, hd, hl, h1⟩ e1 k1 r1 => by
    subst hd
    cases r1
    exact ⟨y, rfl, hl, js_read x ts _ n1 H1 Φ e1 h1 fun out H' n' h e' kb => k out H' n' h e' (k1.trans kb)⟩, x⟩
theorem dx_fstr {v1 v2 : Expr} {rest : List Expr} {ts : List TD} {pos : Pos} (h : PJ X (v1 :: v2 :: rest) (ts.map (lift W E))) : PE X (.JoinedStr (v1 :: v2 :: rest) pos) (lift W E (dJs ts)) :=
  pe_imp (pe_joined h) fun σ H Q ⟨ρ, n, Φ, Ψ, e, t, k, x⟩ => js_read x ts _ n H _ e t fun out H' n' h e' kb => k _ H' _ n' h e' kb (.str _)
end
end DL
/-! own lists that are popped within an expression -/
namespace DL
open PySem PySem.Spec PyProof.Rows L2 Gx KX LamX
/-- an expression that changes own objects -/
abbrev TPD := Rho → Nat → (D → Rho → Nat → Prop) → XD → Prop
/-- what changes is the pen and own objects, which are own ahead -/
structure Pl (W : Wd) (ρ : Rho) (σ : L2.St) (H : Hp) (ρ' : Rho) (H' : Hp) : Prop where
  rl : Rl W ρ σ H ρ' σ H'
  eo : EM (fun b => b = W.p ∨ ∃ (i : Nat) (o : Ow), ρ[i]? = some (Sl.own o) ∧ σ[i]? = some (some (V.ref b))) H H'
  os : ∀ (i : Nat) (o : Ow), ρ'[i]? = some (Sl.own o) → ∃ o, ρ[i]? = some (Sl.own o)
theorem Pl.refl {W : Wd} {ρ : Rho} {σ : L2.St} {H : Hp} : Pl W ρ σ H ρ H := ⟨Rl.refl, EM.refl _ _, fun _ o h => ⟨o, h⟩⟩
theorem Pl.eb {W : Wd} {ρ : Rho} {σ : L2.St} {H H' : Hp} (k : EB W.p H H') (m : W.M W.p) : Pl W ρ σ H ρ H' := ⟨Rl.eb k m, EM.eb k (.inl rfl), fun _ o h => ⟨o, h⟩⟩
theorem Pl.same {W : Wd} {ρ : Rho} {σ : L2.St} {H H' : Hp} (k : Same H H') : Pl W ρ σ H ρ H' := ⟨Rl.same (EM.same k), EM.same k, fun _ o h => ⟨o, h⟩⟩
theorem Pl.trans {W : Wd} {ρ ρ1 ρ2 : Rho} {σ : L2.St} {H H1 H2 : Hp} (a : Pl W ρ σ H ρ1 H1) (b : Pl W ρ1 σ H1 ρ2 H2) : Pl W ρ σ H ρ2 H2 :=
  ⟨a.rl.trans b.rl, fun c o n h t => b.eo c o (fun z => n (z.imp id fun ⟨i, u, q1, q2⟩ => by
    obtain ⟨u', q3⟩ := a.os i u q1
    exact ⟨i, u', q3, q2⟩)) (a.eo c o n h t) t, fun i o h => by
    obtain ⟨o1, h1⟩ := b.os i o h
    exact a.os i o1 h1⟩
theorem Pl.put {W : Wd} {ρ : Rho} {σ : L2.St} {H : Hp} {i : Nat} {o o' : Ow} {a : Addr} {u : HO} (h : ρ[i]? = some (.own o)) (ha : σ[i]? = some (some (.ref a))) (l : Rl W ρ σ H (ρ.set i (.own o')) σ (upd H a u)) : Pl W ρ σ H (ρ.set i (.own o')) (upd H a u) :=
  ⟨l, EM.upd (.inr ⟨i, o, h, ha⟩), fun j q hq => by
    rcases set_get hq with ⟨rfl, _⟩ | ⟨_, z⟩
    · exact ⟨o, h⟩
    · exact ⟨q, z⟩⟩
def liftP (W : Wd) (E : XK) (τ : TPD) : TE := fun σ H Q => ∃ (ρ : Rho) (n : Nat) (Φ : D → Rho → Nat → Prop) (Ψ : XD), EnvOk W ρ n σ H ∧ τ ρ n Φ Ψ ∧
  (∀ v H' d ρ' n', Φ d ρ' n' → EnvOk W ρ' n' σ H' → Pl W ρ σ H ρ' H' → Rp W.K W.p (Mu W ρ' σ) H' v d → Q v H') ∧ ExW W E Ψ
theorem RpL.erase {K : PySem.W.Frag} {p : Addr} {M : Addr → Prop} {H : Hp} : ∀ {vs : List V} {ds : List D} (k : Nat), RpL K p M H vs ds → RpL K p M H (vs.eraseIdx k) (ds.eraseIdx k)
  | _, _, _, .nil => .nil
  | _, _, 0, .cons h t => t
  | _, _, k + 1, .cons h t => .cons h (RpL.erase k t)
def dPop (i : Nat) (a : TD) : TPD := fun ρ n Φ Ψ => ∃ ds, ρ[i]? = some (.own (.lst ds)) ∧ a ρ n (fun x n1 => ∃ j k y, x = .int j ∧ -(2 ^ 63) ≤ j ∧ j < 2 ^ 63 ∧ seqIndex? j ds.length = some k ∧ ds[k]? = some y ∧ Φ y (ρ.set i (.own (.lst (ds.eraseIdx k)))) n1) Ψ
section
variable {X : Cx} {W : Wd} {E : XK}
theorem px_pop {i : Nat} {o e : Expr} {apos cpos : Pos} {ta : TD} (hi : PE X o (tVar i)) (he : PE X e (lift W E ta))
    (hbase : attributeBase o "pop" X.env (eval o X.env) = eval o X.env := by rfl)
    (hfew : ((backTo cpos (starEach [e] X.env)).all (fun x => !x.1) && (backToKw cpos (keywordEach [] X.env)).all (fun x => x.1.isSome)
      && decide ([e].length + ([] : List Keyword).length + (if ([] : List Keyword).isEmpty then 0 else 1) < 30)) = true := by rfl)
    (hline : (apos.endLine == cpos.line) = true := by rfl) (hs : starEach [e] X.env = (false, eval e X.env) :: starEach [] X.env := by rfl) (hplain : (backTo cpos (starEach [] X.env)).any (·.1) = false := by rfl) :
    PE X (.Call (.Attribute o "pop" apos) [e] [] cpos) (liftP W E (dPop i ta)) := by
  refine pe_imp (pe_bm PySem.F.plainAttrs_list PySem.F.slot_list_pop PySem.F.type_list_pop mt_popAt hi (pa_cons he pa_nil hs) hbase hfew hline hs hplain) fun σ H Q ⟨ρ, n, Φ, Ψ, e, ⟨ds, ho, t⟩, k, x⟩ => ?_
  obtain ⟨a, h1, ⟨vs, h2, h3⟩, h4, h5⟩ := e.ow i _ ho
  refine ⟨.ref a, h1, .inl ⟨rfl, vs, SqL.of h2⟩, ρ, n, _, Ψ, e, t, fun v H1 d n1 hd e1 k1 r1 => ?_, x⟩
  obtain ⟨j, q, y, rfl, g1, g2, g3, g4, g5⟩ := hd
  cases r1
  have m2 := k1 a _ h4 h2 (by intro ps z; cases z)
  have r3 : RpL W.K W.p (Mu W ρ σ) H1 vs ds := h3.em (e.eb k1)
  obtain ⟨w, w1, w2⟩ := r3.get g4
  obtain ⟨e2, l2⟩ := put_lst e1 ho h1 (by intro c fs z; cases z) (RpL.erase q r3)
  have em : EM (Mu W ρ σ) H1 (upd H1 a (.lst (vs.eraseIdx q))) := EM.upd (.inr ⟨i, _, ho, h1⟩)
  exact ⟨a, vs, j, q, w, rfl, rfl, m2, g1, g2, by rw [r3.length]; exact g3, w1, k w _ y _ n1 g5 e2 ((Pl.eb k1 e.mp).trans (Pl.put ho h1 l2)) ((w2.em em).less fun b => (mu_keep ho b).mp)⟩
/-- x = left.pop(e) -/
def sSetP (i : Nat) (a : TPD) : TSD := fun En ρ n => a ρ n (fun x ρ' n1 => En.nx (ρ'.set i (.d x)) n1) En.ex
theorem ds_setP {i : Nat} {x : Str} {e : Expr} {ta : TPD} {pos pos' : Pos} (hN : X.N.Nodup) (hi : X.N[i]? = some x) (hx : Loc X.env.scope x) (he : PE X e (liftP W E ta)) (hs : swapsWith e (some (.Name x pos')) pos.line X.env = pure false := by rfl)
    (hf : X.fn x = true ∨ X.env.scope.names.lookup x = some .local := by first | exact .inl rfl | exact .inr rfl | assumption) : PS X (.Assign [.Name x pos'] e pos) (liftS W E (sSetP i ta)) := ps_imp (ps_set hN hi hx he hs hf) fun D σ H ⟨ρ, n, En, e, t, k⟩ =>
  ⟨ρ, n, _, _, e, t, fun v H' d ρ' n' h e' q r => k.nx _ H' _ n' h (e'.set r) (q.rl.trans Rl.set), k.ex⟩
/-- found.append(left.pop(e)) -/
def sAppP (i : Nat) (a : TPD) : TSD := fun En ρ n => (∃ ds, ρ[i]? = some (.own (.lst ds))) ∧ a ρ n (fun y ρ' n1 => ∃ ds, ρ'[i]? = some (.own (.lst ds)) ∧ ds.length < sizeLine ∧ En.nx (ρ'.set i (.own (.lst (ds ++ [y])))) n1) En.ex
theorem ds_appP {i : Nat} {o e : Expr} {apos cpos pos : Pos} {ta : TPD} (hi : PE X o (tVar i)) (he : PE X e (liftP W E ta))
    (hbase : attributeBase o "append" X.env (eval o X.env) = eval o X.env := by rfl)
    (hfew : ((backTo cpos (starEach [e] X.env)).all (fun x => !x.1) && (backToKw cpos (keywordEach [] X.env)).all (fun x => x.1.isSome)
      && decide ([e].length + ([] : List Keyword).length + (if ([] : List Keyword).isEmpty then 0 else 1) < 30)) = true := by rfl)
    (hline : (apos.endLine == cpos.line) = true := by rfl) (hs : starEach [e] X.env = (false, eval e X.env) :: starEach [] X.env := by rfl) (hplain : (backTo cpos (starEach [] X.env)).any (·.1) = false := by rfl) :
    PS X (.Expr (.Call (.Attribute o "append" apos) [e] [] cpos) pos) (liftS W E (sAppP i ta)) := by
  refine ps_imp (ps_expr (pe_bm PySem.F.plainAttrs_list PySem.F.slot_list_append PySem.F.type_list_append mt_append hi (pa_cons he pa_nil hs) hbase hfew hline hs hplain)) fun D σ H ⟨ρ, n, En, e, ⟨⟨d0, ho⟩, t⟩, k⟩ => ?_
  obtain ⟨a, h1, ⟨vs0, h2, h3⟩, h4, h5⟩ := e.ow i _ ho
  refine ⟨.ref a, h1, .inl ⟨rfl, vs0, SqL.of h2⟩, ρ, n, _, _, e, t, fun v H1 d ρ' n1 hd e1 l1 r1 => ?_, k.ex⟩
  obtain ⟨ds, ho', g1, g2⟩ := hd
  obtain ⟨a', q1, ⟨vs, q2, q3⟩, q4, q5⟩ := e1.ow i _ ho'
  rw [h1] at q1
  cases q1
  obtain ⟨e2, l2⟩ := put_lst e1 ho' h1 (by intro c fs z; cases z) (q3.snoc r1)
  exact ⟨a, vs, v, rfl, rfl, q2, by rw [q3.length]; exact g1, k.nx σ _ _ n1 g2 e2 (l1.rl.trans l2)⟩
end
end DL
/-! mathematics over data that all laws share -/
namespace DL
open PySem PySem.Spec PyProof.Rows L2 Gx KX LamX
/-- a draw -/
def drawD : FD := fun ds n Φ _ => ∃ m, ds = [.pen, .int m] ∧ n ≤ 100000 ∧ 0 < m ∧ m < 10 ^ 60 ∧ ∀ k, 0 ≤ k → k < m → Φ (.int k) (n + 1)
theorem at_in {ds : List D} {k : Int} (h0 : 0 ≤ k) (h1 : k < ds.length) : ∃ d, atI ds k = some d ∧ d ∈ ds := by
  obtain ⟨j, rfl⟩ := Int.eq_ofNat_of_zero_le h0
  have hj : j < ds.length := by omega
  exact ⟨ds[j], atI_nat (by rw [List.getElem?_eq_getElem hj]), List.getElem_mem hj⟩
/-- a comprehension without a test, over what e makes of some things -/
theorem comp_map {α : Type} {j : Nat} {te : TD} {ρ : Rho} {Φ : List D → Nat → Prop} (e g : α → D) : ∀ {xs : List α} {acc : List D} {n : Nat}, (∀ x ∈ xs, ∀ n (Φ' : KD), Φ' (g x) n → te (ρ.set j (.d (e x))) n Φ' (fun _ _ => False)) →
    acc.length + xs.length ≤ sizeLine → Φ (acc ++ xs.map g) n → compD (gNm j) dTrue te ρ Φ (xs.map e) acc n
  | [], acc, n, _, _, hΦ => by simpa [compD] using hΦ
  | d :: ds, acc, n, h, hl, hΦ => by
    rw [List.map_cons]
    unfold compD
    simp only [gNm, dTrue, if_true]
    refine h d List.mem_cons_self n _ ⟨by simp at hl; omega, comp_map e g (fun e he => h e (List.mem_cons_of_mem _ he)) (by simp at hl ⊢; omega) (by simpa using hΦ)⟩
/-- with a test -/
theorem comp_filter {α : Type} {j : Nat} {tt : TTD} {te : TD} {ρ : Rho} {Φ : List D → Nat → Prop} (e : α → D) (p : α → Bool) (g : α → D) : ∀ {xs : List α} {acc : List D} {n : Nat}, (∀ x ∈ xs, ∀ n (Φ' : Bool → Nat → Prop), Φ' (p x) n → tt (ρ.set j (.d (e x))) n Φ' (fun _ _ => False)) →
    (∀ x ∈ xs, p x = true → ∀ n (Φ' : KD), Φ' (g x) n → te (ρ.set j (.d (e x))) n Φ' (fun _ _ => False)) → acc.length + xs.length ≤ sizeLine → Φ (acc ++ (xs.filter p).map g) n → compD (gNm j) tt te ρ Φ (xs.map e) acc n
  | [], acc, n, _, _, _, hΦ => by simpa [compD] using hΦ
  | d :: ds, acc, n, ht, h, hl, hΦ => by
    rw [List.map_cons]
    unfold compD
    simp only [gNm]
    refine ht d List.mem_cons_self n _ ?_
    have ht' := fun e (he : e ∈ ds) => ht e (List.mem_cons_of_mem _ he)
    have h' := fun e (he : e ∈ ds) => h e (List.mem_cons_of_mem _ he)
    cases q : p d with
    | true =>
      simp only [if_true]
      refine h d List.mem_cons_self q n _ ⟨by simp at hl; omega, comp_filter e p g ht' h' (by simp at hl ⊢; omega) (by simpa [List.filter_cons, q] using hΦ)⟩
    | false =>
      simp only [Bool.false_eq_true, if_false]
      exact comp_filter e p g ht' h' (by simp at hl ⊢; omega) (by simpa [List.filter_cons, q] using hΦ)
/-- a for by what holds ahead of each turn -/
theorem for_ok {g : TGD} {b : TSD} {En : EnD} {ds : List D} {ρ : Rho} {n : Nat} (I : Nat → Rho → Nat → Prop) (h0 : I 0 ρ n)
    (hs : ∀ (j : Nat) (d : D) (ρ : Rho) (n : Nat) (nx : Rho → Nat → Prop), ds[j]? = some d → I j ρ n → (∀ ρ' n', I (j + 1) ρ' n' → nx ρ' n') → g d ρ fun ρ' => b { nx := nx, rt := En.rt, ex := En.ex, bk := En.nx, ct := nx } ρ' n)
    (hk : ∀ ρ n, I ds.length ρ n → En.nx ρ n) : loopD g b En ds ρ n := by
  have key : ∀ (es : List D) (i : Nat) (ρ : Rho) (n : Nat), i ≤ ds.length → ds.drop i = es → I i ρ n → loopD g b En es ρ n := by
    intro es
    induction es with
    | nil =>
      intro i ρ n hl e h
      have hi : ds.length ≤ i := List.drop_eq_nil_iff.mp e
      have hi2 : i = ds.length := by omega
      subst hi2
      exact hk ρ n h
    | cons d es ih =>
      intro i ρ n hl e h
      have hd : ds[i]? = some d := by
        have := congrArg (fun l => l[0]?) e
        simpa using this
      have hr : ds.drop (i + 1) = es := by
        have := congrArg List.tail e
        simpa using this
      unfold loopD
      exact hs i d ρ n (fun ρ2 n2 => loopD g b En es ρ2 n2) hd h fun ρ' n' h' => ih (i + 1) ρ' n' (by have := (List.getElem?_eq_some_iff.mp hd).1; omega) hr h'
  exact key ds 0 ρ n (Nat.zero_le _) rfl h0
/-- one of some things -/
def pickW : TSD := sRet (dOp2 ixD (dVar 1) (dCall 2 drawD [] (dCons (dVar 0) (dCons (dCB lenD (dCons (dVar 1) dNil)) dNil))))
theorem pick_ok {ds : List D} {n : Nat} {Φ : KD} {Ψ : XD} (h0 : 0 < ds.length) (h1 : ds.length ≤ 1000) (hn : n ≤ 100000) (h : ∀ d ∈ ds, Φ d (n + 1)) : fnD 2 pickW [.pen, .lst ds] n Φ Ψ := by
  simp [fnD, pickW, sRet, dOp2, dVar, dCall, dCons, dNil, dCB, lenD, startD, drawD]
  refine ⟨hn, by omega, by have : (10 : Int) ^ 60 > 1000 := by decide
                           omega, fun k k0 k1 => ?_⟩
  obtain ⟨d, e, m⟩ := at_in k0 k1
  simp only [ixD]
  exact ⟨d, e, h d m⟩
theorem pow60 : (10 : Int) ^ 60 = 1000000000000000000000000000000000000000000000000000000000000 := by decide
theorem draw_ok {m : Int} {n : Nat} {Φ : KD} {Ψ : XD} (hn : n ≤ 100000) (h0 : 0 < m) (h1 : m < 10 ^ 60) (h : ∀ k, 0 ≤ k → k < m → Φ (.int k) (n + 1)) : drawD [.pen, .int m] n Φ Ψ := ⟨m, rfl, hn, h0, h1, h⟩
end DL
namespace DL
open PySem PySem.Spec PyProof.Rows L2 Gx KX LamX
/-! ### what a def answers: values by place, keywords; all in the order in which they are written -/
def Ans (P : Program) (w : World) (K : PySem.W.Frag) (mg : Str → Option Value) (base : Heap) (ts : List (Addr × Str)) (k : Nat) (f : Addr) (m : Nat) (ks : List Str) (φ : FD) : Prop :=
  ∀ (A : Around) (outer : List Env) (s : Shared) (H : Hp) (us ws : List Value) (vs zs : List V) (Q : VK) (E : XK), Room k A → Env0 P w K mg base A outer s H → Vals vs us → Vals zs ws → vs.length = m → zs.length = ks.length →
    spR K ts φ (vs ++ zs) H Q E → codeAny (model P w) A (.call (.ref f) ⟨us, ks.zip ws⟩) (CR (L2.CX P w) outer P w H s Q E) s
section
variable {P : Program} {w : World} {K : PySem.W.Frag} {mg : Str → Option Value} {base : Heap} {ts : List (Addr × Str)} {k j m : Nat} {f : Addr} {fd : FuncData} {ps ks : List Str} {φ : FD}
theorem Ans.mono (h : Ans P w K mg base ts k f m ks φ) (l : k ≤ j) : Ans P w K mg base ts j f m ks φ := fun A outer s H us ws vs zs Q E hr => h A outer s H us ws vs zs Q E (hr.mono l)
/-- by place alone, defaults behind -/
def fillD (l : Nat) (dd : List D) (φ : FD) : FD := fun ds n Φ Ψ => (ds ++ dd).length = l ∧ φ (ds ++ dd) n Φ Ψ
theorem ans_fn {us : List Value} {dvs : List V} {dd : List D} (F : FnOk P w K mg base (L2.CX P w) k f fd ps (spD K ts ps.length φ)) (hb : Binds K fd ps us) (hv : Vals dvs us) (hd : ∀ p M H, RpL K p M H dvs dd) (m : Nat) : Ans P w K mg base ts k f m [] (fillD ps.length dd φ) := by
  intro A outer s H us' ws vs zs Q E hr e0 r rz l1 l2 ⟨_, p, q, M, ds, n, Φ, Ψ, h1, h2, h3, h4, h5, h6, h7, ⟨h8, h8'⟩, h9, h10⟩
  have ez : zs = [] := List.length_eq_zero_iff.mp l2
  subst ez
  rw [List.append_nil] at h5
  exact (F.raw hb hv) A outer s H us' vs Q E hr e0 r ⟨p, q, M, ds ++ dd, n, Φ, Ψ, h1, h2, h3, h8, h5.append (hd _ _ _), h6, h7, h8', h9, h10⟩
/-- with keywords -/
def kwD (l m : Nat) (g : List D → List D → List D) (φ : FD) : FD := fun ds n Φ Ψ => (g (ds.take m) (ds.drop m)).length = l ∧ φ (g (ds.take m) (ds.drop m)) n Φ Ψ
theorem rpl_parts {p : Addr} {M : Addr → Prop} {H : Hp} : ∀ {vs zs : List V} {ds : List D}, RpL K p M H (vs ++ zs) ds → RpL K p M H vs (ds.take vs.length) ∧ RpL K p M H zs (ds.drop vs.length)
  | [], zs, ds, r => ⟨.nil, r⟩
  | v :: vs, zs, _, .cons h r => by
    obtain ⟨a, b⟩ := rpl_parts r
    exact ⟨.cons h a, b⟩
theorem ans_kw {g : List Value → List Value → List Value} {gV : List V → List V → List V} {gD : List D → List D → List D} (F : FnOk P w K mg base (L2.CX P w) k f fd ps (spD K ts ps.length φ)) (hb : KBn K fd ps m ks g gV) (hp : PutR gV gD) : Ans P w K mg base ts k f m ks (kwD ps.length m gD φ) := by
  intro A outer s H us ws vs zs Q E hr e0 r rz l1 l2 ⟨_, p, q, M, ds, n, Φ, Ψ, h1, h2, h3, h4, h5, h6, h7, ⟨h8, h8'⟩, h9, h10⟩
  obtain ⟨a, b⟩ := rpl_parts h5
  rw [l1] at a b
  exact F.run A outer s H ⟨us, ks.zip ws⟩ (g us ws) (gV vs zs) Q E hr e0 (hb.to s us ws (e0.mod.kin.keeps fun b o e => (e0.bs b o e).1) (r.length.symm.trans l1) (rz.length.symm.trans l2)) (hb.rel r rz)
    ⟨p, q, M, gD (ds.take m) (ds.drop m), n, Φ, Ψ, h1, h2, h3, h8, hp _ _ _ _ _ _ _ _ a b, h6, h7, h8', h9, h10⟩
/-- however many are written -/
theorem ans_r (F : FnR P w K mg base (L2.CX P w) k f (spR K ts φ)) (m : Nat) : Ans P w K mg base ts k f m [] φ := by
  intro A outer s H us ws vs zs Q E hr e0 r rz l1 l2 h
  have ez : zs = [] := List.length_eq_zero_iff.mp l2
  subst ez
  rw [List.append_nil] at h
  exact F A outer s H us vs Q E hr e0 r h
end
section
variable {X : Cx} {W : Wd} {E : XK}
theorem run_ans {pins : List (Addr × Obj)} {σ : L2.St} {H : Hp} {s : Shared} {Q : VK} {us ws : List Value} {vs zs : List V} {k m : Nat} {ks : List Str} {f : Addr} {φ : FD} {ts : List (Addr × Str)} (F : Ans X.prog X.w X.K X.mg X.base ts k f m ks φ) (hr : Room k X.A) (hx : Passes (L2.CX X.prog X.w) X E)
    (I : Inv X pins σ H s) (r : Vals vs us) (rz : Vals zs ws) (l1 : vs.length = m) (l2 : zs.length = ks.length) (h : spR X.K ts φ (vs ++ zs) H Q E) :
    codeAny (model X.prog X.w) X.A (.call (.ref f) ⟨us, ks.zip ws⟩) (fun r s' => match r with | .ok (.ret v) => EP X pins σ Q v s' | .ok _ => False | .error e => X.xe e s') s := by
  refine codeAny_mono (F X.A X.stack s H us ws vs zs Q E hr I.env0 r rz l1 l2 h) fun r s' hq => ?_
  cases r with
  | error e => exact hx pins σ H s e s' I hq
  | ok fl =>
    cases fl with
    | ret u => exact I.after hq
    | next => exact False.elim hq
    | brk => exact False.elim hq
    | cont => exact False.elim hq
/-! ### the written arguments -/
/-- a node's arguments: m values by place, keywords ks -/
structure EvA (X : Cx) (W : Wd) (E : XK) (pos : Pos) (args : List Expr) (kws : List Keyword) (m : Nat) (ks : List Str) (t : TAD) : Prop where
  plain : ((backTo pos (starEach args X.env)).any (·.1) || (backToKw pos (keywordEach kws X.env)).any (·.1.isNone)) = false
  run : ∀ (f : Value) (pins : List (Addr × Obj)) (s : Shared) (σ : L2.St) (H : Hp) (R : List V → Hp → Prop), Inv X pins σ H s → liftA W E t σ H R →
    wpAny (model X.prog X.w) X.A (evalArgs f true (backTo pos (starEach args X.env)) (backToKw pos (keywordEach kws X.env)))
      (fun a s1 => ∃ us ws vs zs H1, a = ⟨us, ks.zip ws⟩ ∧ Vals vs us ∧ Vals zs ws ∧ vs.length = m ∧ zs.length = ks.length ∧ Inv X pins σ H1 s1 ∧ R (vs ++ zs) H1) X.xe s
def dArgs (m l : Nat) (a b : TAD) : TAD := fun ρ n Φ Ψ => a ρ n (fun ds n1 => b ρ n1 (fun es n2 => ds.length = m ∧ es.length = l ∧ Φ (ds ++ es) n2) Ψ) Ψ
def dArg0 (l : Nat) (b : TAD) : TAD := fun ρ n Φ Ψ => b ρ n (fun es n2 => es.length = l ∧ Φ es n2) Ψ
theorem ev_nil {pos : Pos} : EvA X W E pos [] [] 0 [] dNil := ⟨rfl, fun f pins s σ H R I ⟨ρ, n, Φ, Ψ, e, t, k, x⟩ => evalArgs_nil3 ⟨[], [], [], [], H, rfl, .nil, .nil, rfl, rfl, I, k [] H [] n t e (EB.refl _ _) .nil⟩⟩
theorem ev_pos {pos : Pos} {e : Expr} {es : List Expr} {ta : TAD} (m : Nat) (ha : PA X (e :: es) (liftA W E ta)) (he : starEach (e :: es) X.env = (false, eval e X.env) :: starEach es X.env := by rfl) (hpl : (backTo pos (starEach es X.env)).any (·.1) = false := by rfl) :
    EvA X W E pos (e :: es) [] m [] (dArg0 m ta) := ⟨by rw [he]; show ((false || (backTo pos (starEach es X.env)).any (·.1)) || false) = false; rw [hpl]; rfl, fun f pins s σ H R I ⟨ρ, n, Φ, Ψ, e0, t, k, x⟩ => by
  rw [he]
  refine PySem.Calls.evalArgs_plain ?_
  have z := ha.run pos pins s σ H (fun vs H1 => vs.length = m ∧ R vs H1) I ⟨ρ, n, _, Ψ, e0, t, fun vs H1 ds n1 h1 e1 k1 r1 => ⟨r1.length.trans h1.1, k vs H1 ds n1 h1.2 e1 k1 r1⟩, x⟩
  rw [he] at z
  exact thn z fun us s1 ⟨vs, H1, I1, r1, l1, q⟩ => ⟨us, [], vs, [], H1, rfl, r1, .nil, l1, rfl, I1, by rw [List.append_nil]; exact q⟩⟩
theorem ev_kw {pos : Pos} {kws : List Keyword} {ks : List Str} {tk : TAD} (hk : PK X kws (liftA W E tk)) (hall : (backToKw pos (keywordEach kws X.env)).all (·.1.isSome) = true := by rfl) (hks : (backToKw pos (keywordEach kws X.env)).filterMap (·.1) = ks := by rfl)
    (hpl : ((backTo pos (starEach [] X.env)).any (·.1) || (backToKw pos (keywordEach kws X.env)).any (·.1.isNone)) = false := by rfl) : EvA X W E pos [] kws 0 ks (dArg0 ks.length tk) := ⟨hpl, fun f pins s σ H R I ⟨ρ, n, Φ, Ψ, e0, t, k, x⟩ => by
  refine evalArgs_kw2_nil hall ?_
  have z := hk.run pos pins s σ H (fun zs H1 => zs.length = ks.length ∧ R zs H1) I ⟨ρ, n, _, Ψ, e0, t, fun vs H1 ds n1 h1 e1 k1 r1 => ⟨r1.length.trans h1.1, k vs H1 ds n1 h1.2 e1 k1 r1⟩, x⟩
  exact thn z fun ws s1 ⟨zs, H1, I1, r1, l1, q⟩ => ⟨[], ws, [], zs, H1, by rw [hks], .nil, r1, rfl, l1, I1, q⟩⟩
theorem ev_both {pos : Pos} {e : Expr} {es : List Expr} {kws : List Keyword} {ks : List Str} {ta tk : TAD} (m : Nat) (ha : PA X (e :: es) (liftA W E ta)) (hk : PK X kws (liftA W E tk)) (he : starEach (e :: es) X.env = (false, eval e X.env) :: starEach es X.env := by rfl)
    (hall : (backToKw pos (keywordEach kws X.env)).all (·.1.isSome) = true := by rfl) (hks : (backToKw pos (keywordEach kws X.env)).filterMap (·.1) = ks := by rfl)
    (hpl : ((backTo pos (starEach (e :: es) X.env)).any (·.1) || (backToKw pos (keywordEach kws X.env)).any (·.1.isNone)) = false := by rfl) : EvA X W E pos (e :: es) kws m ks (dArgs m ks.length ta tk) := ⟨hpl, fun f pins s σ H R I ⟨ρ, n, Φ, Ψ, e0, t, k, x⟩ => by
  refine evalArgs_kw2 hall ?_ he
  have z := ha.run pos pins s σ H (fun vs H1 => liftA W E (fun ρ n Φ Ψ => tk ρ n Φ Ψ) σ H1 fun zs H2 => vs.length = m ∧ zs.length = ks.length ∧ R (vs ++ zs) H2) I ⟨ρ, n, _, Ψ, e0, t, fun vs H1 ds n1 h1 e1 k1 r1 =>
    ⟨ρ, n1, _, Ψ, e1, h1, fun zs H2 es n2 h2 e2 k2 r2 => ⟨r1.length.trans h2.1, r2.length.trans h2.2.1, k _ H2 _ n2 h2.2.2 e2 (k1.trans k2) ((r1.em (e1.eb k2)).append r2)⟩, x⟩, x⟩
  exact thn z fun us s1 ⟨vs, H1, I1, r1, q⟩ => thn (hk.run pos pins s1 σ H1 _ I1 q) fun ws s2 ⟨zs, H2, I2, rz, l1, l2, q2⟩ => ⟨us, ws, vs, zs, H2, by rw [hks], r1, rz, l1, l2, I2, q2⟩⟩
/-! ### o.m(..) by the object's class -/
/-- a class's method as it is called: m values in all by place, keywords ks -/
def PAn (X : Cx) (ts : List (Addr × Str)) (k m : Nat) (ks : List Str) (nm : Str) : Str → FD → Prop := fun c φ => Cls X.K (He.ga X.K c) ∧ ∃ f, Meth X.K (He.ga X.K c) nm f ∧ Ans X.prog X.w X.K X.mg X.base ts k f (m + 1) ks φ
def dMc (tbl : List (Str × FD)) (nm : Str) (o : TD) (a : TAD) : TD := fun ρ n Φ Ψ => o ρ n (fun x n1 => match x with
  | .ob c fs => ∃ φ, tbl.lookup c = some φ ∧ fs.lookup nm = none ∧ a ρ n1 (fun ds n2 => φ (.ob c fs :: ds) n2 Φ Ψ) Ψ
  | _ => False) Ψ
theorem dx_mc {tbl : List (Str × FD)} {k m : Nat} {ks : List Str} {nm : Str} {o : Expr} {args : List Expr} {kws : List Keyword} {apos pos : Pos} {to_ : TD} {ta : TAD} {ts : List (Addr × Str)} {pl : Sem Bool} (hK : X.K = W.K) (ht : W.ts = ts) (T : TBL (PAn X ts k m ks nm) tbl) (he : PE X o (lift W E to_)) (hr : Room k X.A) (hx : Passes (L2.CX X.prog X.w) X E)
    (ha : EvA X W E pos args kws m ks ta)
    (hev : eval (.Call (.Attribute o nm apos) args kws pos) X.env = (do
      let ov ← eval o X.env
      standAt apos.atName
      let (f, first) ← holding [ov] (getMethod ov nm pl)
      callWith pos f first (backTo pos (starEach args X.env)) (backToKw pos (keywordEach kws X.env))) := by rfl) :
    PE X (.Call (.Attribute o nm apos) args kws pos) (lift W E (dMc tbl nm to_ ta)) := by
  refine ⟨fun pins s σ H Q I ⟨ρ, n, Φ, Ψ, e0, t, k0, x0⟩ => ?_⟩
  refine PySem.W.methodCall_KW (pl := pl) (thn (he.run pins s σ H (fun v H1 => ∃ d n1, (match d with
    | .ob c fs => ∃ φ, tbl.lookup c = some φ ∧ fs.lookup nm = none ∧ ta ρ n1 (fun ds n2 => φ (.ob c fs :: ds) n2 Φ Ψ) Ψ
    | _ => False) ∧ EnvOk W ρ n1 σ H1 ∧ EB W.p H H1 ∧ Rp W.K W.p (Mu W ρ σ) H1 v d) I
    ⟨ρ, n, _, Ψ, e0, t, fun v H1 d n1 h1 e1 k1 r1 => ⟨d, n1, h1, e1, k1, r1⟩, x0⟩) fun u s1 ⟨x, H1, I1, rx, d, n1, q, e1, k1, r1⟩ => ?_) hev
  split at q
  · rename_i c fs
    obtain ⟨φ, q1, q2, q3⟩ := q
    have r1' := r1
    obtain ⟨a, dx, fv, rfl, ea, rf⟩ := rp_ob r1
    obtain rfl : u = Value.ref a := rx
    obtain ⟨hc, f, hm, F⟩ := T c φ q1
    rw [← hK] at ea
    refine getmeth_ok I1 ea hc hm (rf.lookup_none q2) ?_
    refine PySem.W.callWith_of ha.plain (PySem.W.keeps_K hm.kp) (thn (ha.run _ pins s1 σ H1 (fun vs H2 => spR X.K ts φ (V.ref a :: vs) H2 Q E) I1 ⟨ρ, n1, _, Ψ, e1, q3, fun vs H2 ds n2 h2 e2 k2 r2 => ?_, x0⟩) fun z s2 ⟨us, ws, vs, zs, H2, ez, rv, rz, l1, l2, I2, q4⟩ => ⟨I2.kIn, ?_⟩)
    · refine ⟨(V.ref a :: vs).length, ?_⟩
      rw [hK, ← ht]
      exact sp_read e2 (.cons (r1'.em (e1.eb k2)) r2) (by rw [List.length_cons, List.length_cons, r2.length]) h2 (fun v H' d n' hd e' k' r' => k0 v H' d n' hd e' ((k1.trans k2).trans k') r') x0
    · subst ez
      exact wpAny_call (run_ans (us := .ref a :: us) (vs := .ref a :: vs) F hr hx I2 (.cons rfl rv) rz (by rw [List.length_cons, l1]) l2 q4)
  · exact q.elim
/-! ### C.m(..), m a classmethod -/
def PCm (X : Cx) (ts : List (Addr × Str)) (k m : Nat) (ks : List Str) (nm : Str) : Str → FD → Prop := fun c φ => ∃ mc p g, ClX.CRead X.K (He.ga X.K c) mc ∧ ClX.CMet X.K (He.ga X.K c) mc nm p g ∧ Ans X.prog X.w X.K X.mg X.base ts k g (m + 1) ks φ
def dCm (tbl : List (Str × FD)) (o : TD) (a : TAD) : TD := fun ρ n Φ Ψ => o ρ n (fun x n1 => match x with
  | .cl c => ∃ φ, tbl.lookup c = some φ ∧ a ρ n1 (fun ds n2 => φ (.cl c :: ds) n2 Φ Ψ) Ψ
  | _ => False) Ψ
theorem dx_cm {tbl : List (Str × FD)} {k m : Nat} {ks : List Str} {nm : Str} {o : Expr} {args : List Expr} {kws : List Keyword} {apos pos : Pos} {to_ : TD} {ta : TAD} {ts : List (Addr × Str)} {pl : Sem Bool} (hK : X.K = W.K) (ht : W.ts = ts) (T : TBL (PCm X ts k m ks nm) tbl) (he : PE X o (lift W E to_)) (hr : Room k X.A) (hx : Passes (L2.CX X.prog X.w) X E)
    (ha : EvA X W E pos args kws m ks ta)
    (hev : eval (.Call (.Attribute o nm apos) args kws pos) X.env = (do
      let ov ← eval o X.env
      standAt apos.atName
      let (f, first) ← holding [ov] (getMethod ov nm pl)
      callWith pos f first (backTo pos (starEach args X.env)) (backToKw pos (keywordEach kws X.env))) := by rfl) :
    PE X (.Call (.Attribute o nm apos) args kws pos) (lift W E (dCm tbl to_ ta)) := by
  refine ⟨fun pins s σ H Q I ⟨ρ, n, Φ, Ψ, e0, t, k0, x0⟩ => ?_⟩
  refine PySem.W.methodCall_KW (pl := pl) (thn (he.run pins s σ H (fun v H1 => ∃ d n1, (match d with
    | .cl c => ∃ φ, tbl.lookup c = some φ ∧ ta ρ n1 (fun ds n2 => φ (.cl c :: ds) n2 Φ Ψ) Ψ
    | _ => False) ∧ EnvOk W ρ n1 σ H1 ∧ EB W.p H H1 ∧ Rp W.K W.p (Mu W ρ σ) H1 v d) I
    ⟨ρ, n, _, Ψ, e0, t, fun v H1 d n1 h1 e1 k1 r1 => ⟨d, n1, h1, e1, k1, r1⟩, x0⟩) fun u s1 ⟨x, H1, I1, rx, d, n1, q, e1, k1, r1⟩ => ?_) hev
  split at q
  · rename_i c
    obtain ⟨φ, q1, q3⟩ := q
    cases r1
    rw [← hK] at rx
    obtain rfl : u = Value.ref (He.ga X.K c) := rx
    obtain ⟨mc, p, g, cr, cm, F⟩ := T c φ q1
    refine ClX.getmethcm_ok I1 cr cm fun s2 I2 => ?_
    refine PySem.W.callWith_of ha.plain (PySem.W.keeps_M cm.fi) (thn (ha.run _ _ s2 σ H1 (fun vs H2 => spR X.K ts φ (V.ref (He.ga X.K c) :: vs) H2 Q E) I2 ⟨ρ, n1, _, Ψ, e1, q3, fun vs H2 ds n2 h2 e2 k2 r2 => ?_, x0⟩) fun z s3 ⟨us, ws, vs, zs, H2, ez, rv, rz, l1, l2, I3, q4⟩ => ⟨⟨ClX.pin_at I3, I3.kIn⟩, ?_⟩)
    · refine ⟨(V.ref (He.ga X.K c) :: vs).length, ?_⟩
      rw [hK, ← ht]
      exact sp_read e2 (.cons (.cl c) r2) (by rw [List.length_cons, List.length_cons, r2.length]) h2 (fun v H' d n' hd e' k' r' => k0 v H' d n' hd e' ((k1.trans k2).trans k') r') x0
    · subst ez
      have z := wpAny_call (PySem.W.method_call (ClX.pin_at I3) (run_ans (us := .ref (He.ga X.K c) :: us) (vs := .ref (He.ga X.K c) :: vs) F hr hx I3 (.cons rfl rv) rz (by rw [List.length_cons, l1]) l2 q4))
      exact thn z fun _ _ y => ClX.unpinE y
  · exact q.elim
/-! ### f(..), f a def of the module, by places and names -/
def dFa (φ : FD) (a : TAD) : TD := fun ρ n Φ Ψ => a ρ n (fun ds n1 => φ ds n1 Φ Ψ) Ψ
theorem dx_fa {k m : Nat} {ks : List Str} {f : Addr} {x : Str} {args : List Expr} {kws : List Keyword} {p pos : Pos} {φ : FD} {ta : TAD} {ts : List (Addr × Str)} (hK : X.K = W.K) (ht : W.ts = ts) (F : Ans X.prog X.w X.K X.mg X.base ts k f m ks φ) (hr : Room k X.A) (hg : Gl X x) (hm : X.mg x = some (.ref f)) (hk : PySem.W.keepIn X.K (.ref f) = true)
    (hx : Passes (L2.CX X.prog X.w) X E) (ha : EvA X W E pos args kws m ks ta) (hdb : (x == ("__debug__" : Str)) = false := by decide) : PE X (.Call (.Name x p) args kws pos) (lift W E (dFa φ ta)) := by
  refine ⟨fun pins s σ H Q I ⟨ρ, n, Φ, Ψ, e0, t, k0, x0⟩ => ?_⟩
  refine wpAny_Call_Name_kw (ld_glob I hg hm ?_ hdb)
  refine PySem.W.callWith_of ha.plain (PySem.W.keeps_K hk) (thn (ha.run _ pins s σ H (fun vs H2 => spR X.K ts φ vs H2 Q E) I ⟨ρ, n, _, Ψ, e0, t, fun vs H2 ds n2 h2 e2 k2 r2 => ?_, x0⟩) fun z s2 ⟨us, ws, vs, zs, H2, ez, rv, rz, l1, l2, I2, q4⟩ => ⟨I2.kIn, ?_⟩)
  · refine ⟨vs.length, ?_⟩
    rw [hK, ← ht]
    exact sp_read e2 r2 r2.length.symm h2 (fun v H' d n' hd e' k' r' => k0 v H' d n' hd e' (k2.trans k') r') x0
  · subst ez
    exact wpAny_call (run_ans F hr hx I2 rv rz l1 l2 q4)
/-! ### C.f, a constant of a class -/
def dCv (tbl : List (Str × D)) (o : TD) : TD := fun ρ n Φ Ψ => o ρ n (fun x n1 => match x with
  | .cl c => ∃ d, tbl.lookup c = some d ∧ Φ d n1
  | _ => False) Ψ
def PCv (X : Cx) (f : Str) : List (Str × D) → Prop := fun tbl => ∀ c d, tbl.lookup c = some d → ∃ mc v u, ClX.CRead X.K (He.ga X.K c) mc ∧ ClX.CVal X.K (He.ga X.K c) mc f v u ∧ ∀ p M H, Rp X.K p M H v d
theorem pcv_nil {f : Str} : PCv X f [] := fun _ _ h => by cases h
theorem pcv_cons {f c : Str} {d : D} {t : List (Str × D)} (h : ∃ mc v u, ClX.CRead X.K (He.ga X.K c) mc ∧ ClX.CVal X.K (He.ga X.K c) mc f v u ∧ ∀ p M H, Rp X.K p M H v d) (r : PCv X f t) : PCv X f ((c, d) :: t) := fun c' d' e => by
  rw [List.lookup_cons] at e
  split at e
  · rename_i q
    cases e
    rw [beq_iff_eq] at q
    subst q
    exact h
  · exact r c' d' e
theorem dx_cv {tbl : List (Str × D)} {f : Str} {o : Expr} {pos : Pos} {to_ : TD} (hK : X.K = W.K) (T : PCv X f tbl) (he : PE X o (lift W E to_)) (hb : attributeBase o f X.env (eval o X.env) = eval o X.env := by rfl) : PE X (.Attribute o f pos) (lift W E (dCv tbl to_)) := by
  refine pe_imp (ClX.pe_cval he hb) fun σ H Q ⟨ρ, n, Φ, Ψ, e0, t, k0, x0⟩ => ⟨ρ, n, _, Ψ, e0, t, fun v H1 d n1 h1 e1 k1 r1 => ?_, x0⟩
  split at h1
  · rename_i c
    obtain ⟨d, h2, h3⟩ := h1
    cases r1
    obtain ⟨mc, v, u, cr, cv, rp⟩ := T c d h2
    exact ⟨_, mc, v, u, by rw [hK], cr, cv, k0 v H1 d n1 h3 e1 k1 (hK ▸ rp _ _ _)⟩
  · exact h1.elim
/-! ### cls(*xs), cls a name of the def -/
theorem dx_makeSV {i : Nat} {c x : Str} {f : Addr} {k : Nat} {φ : FD} {p pos sp_ : Pos} {e : Expr} {te : TD} {ts : List (Addr × Str)} (hK : X.K = W.K) (ht : W.ts = ts) (M : Mk X.K (He.ga X.K c) f) (F : FnR X.prog X.w X.K X.mg X.base (L2.CX X.prog X.w) k f (spIR X.K ts c φ)) (hr : Room (k + 1) X.A)
    (hv : PE X (.Name x p) (lift W E (dVar i))) (hx : Passes (L2.CX X.prog X.w) X E) (he : PE X e (lift W E te)) (hst : starEach [.Starred e sp_] X.env = [(true, eval e X.env)] := by rfl) :
    PE X (.Call (.Name x p) [.Starred e sp_] [] pos) (lift W E fun ρ n Φ Ψ => ρ[i]? = some (.d (.cl c)) ∧ dSt φ te ρ n Φ Ψ) := by
  have F' := at_ir (W := W) hK ht F
  rw [hK] at M
  have M' : Mk X.K (He.ga W.K c) f := by rw [hK]; exact M
  have h : PE X (.Call (.Name x p) [.Starred e sp_] [] pos) (fun σ H Q => lift W E (dVar i) σ H fun z H0 => z = .ref (He.ga W.K c) ∧ lift W E te σ H0 fun y H1 => ∃ a xs, y = V.ref a ∧ (SqT X.K H1 a xs ∨ SqL X.K H1 a xs) ∧ ∀ y dx, H1 y = Option.none → H1 dx = Option.none → dx ≠ y → spIR W.K W.ts c φ (V.ref y :: xs) (upd (upd H1 dx (.own y)) y (.ins (He.ga W.K c) dx [])) (fun v H2 => v = .non ∧ Q (.ref y) H2) E) := by
    refine ⟨fun pins s σ H Q I h => ?_⟩
    refine wpAny_Call_Name_kw (thn (hv.run pins s σ H _ I h) fun u s0 ⟨z, H0, I0, rz, ez, h⟩ => ?_)
    subst ez
    obtain rfl : u = Value.ref (He.ga W.K c) := rz
    refine PySem.W.callWith_S (h₀ := X.base) I0.ok.mod.kin M'.kp (thn (he.run pins s0 σ H0 _ I0 h) fun v s1 ⟨y, H1, I1, ry, a, xs, ey, hxs, q⟩ => ?_) hst
    subst ey
    obtain rfl : v = Value.ref a := ry
    exact StX.star_any I1 hxs fun us s2 I2 rv => ⟨I2.kIn, StX.run_makeR M' F' hr hx I2 rv q⟩
  refine pe_imp h fun σ H Q ⟨ρ, n, Φ, Ψ, e0, ⟨t0, t⟩, k, x⟩ => ⟨ρ, n, fun d n' => d = .cl c ∧ n' = n, Ψ, e0, ⟨_, t0, rfl, rfl⟩, fun z H0 d n0 ⟨h0, hn⟩ e0' k0 r0 => ?_, x⟩
  subst h0
  subst hn
  cases r0
  refine ⟨rfl, ρ, n0, _, Ψ, e0', t, fun v H1 d n1 h1 e1 k1 r1 => ?_, x⟩
  obtain ⟨ds, hd, h1⟩ := h1
  have go := fun vs (r : RpL W.K W.p (Mu W ρ σ) H1 vs ds) => makeR_read (c := c) (Q := Q) (E := E) e1 r h1 (fun v H' d n' hd e' k' r' => k v H' d n' hd e' ((k0.trans k1).trans k') r') x
  rcases hd with rfl | rfl
  · cases r1 with
    | tup n h r => exact ⟨_, _, rfl, .inl (SqT.of h), go _ r⟩
    | tupS h r => exact ⟨_, _, rfl, .inl (hK ▸ h _), go _ r⟩
  · cases r1 with
    | lst n h r => exact ⟨_, _, rfl, .inr (SqL.of h), go _ r⟩
end
end DL
/-! pairs of new objects; stores into own dicts; walks whose element pops -/
namespace DL
open PySem PySem.Spec PyProof.Rows L2 Gx KX LamX
section
variable {X : Cx} {W : Wd} {E : XK}
/-- the world in which the second of a pair is read: the first stands at a -/
def Wd.beside (W : Wd) (ρ : Rho) (σ : L2.St) (a : Addr) (H : Hp) : Wd := ⟨W.K, W.p, W.q, W.ts, fun b => Mu W ρ σ b ∨ b = a, (· = W.p), H⟩
theorem no_hid {ρ : Rho} (i : Nat) (o : Ow) (z : (ρ.map hideS)[i]? = some (.own o)) : False := by
  rw [List.getElem?_map] at z
  cases e : ρ[i]? with
  | none => rw [e] at z; cases z
  | some s => rw [e] at z; cases s <;> cases z
theorem mu_bes {ρ : Rho} {σ σ' : L2.St} {a : Addr} {H : Hp} (b : Addr) : Mu (W.beside ρ σ a H) (ρ.map hideS) σ' b ↔ (Mu W ρ σ b ∨ b = a) := ⟨fun m => m.elim id fun ⟨i, o, z, _⟩ => (no_hid i o z).elim, .inl⟩
theorem owok_w {W' : Wd} {M : Addr → Prop} {H : Hp} {a : Addr} {o : Ow} (hK : W'.K = W.K) (hp : W'.p = W.p) (h : OwOk W' M H a o) : OwOk W M H a o := by
  cases o with
  | lst ds => obtain ⟨vs, h1, h2⟩ := h; exact ⟨vs, h1, hK ▸ hp ▸ h2⟩
  | dct ks => obtain ⟨vs, h1, h2⟩ := h; exact ⟨vs, h1, hK ▸ hp ▸ h2⟩
  | ins c fs => obtain ⟨dx, vs, h1, h2⟩ := h; exact ⟨dx, vs, hK ▸ h1, hK ▸ hp ▸ h2⟩
theorem beside_ok {ρ : Rho} {n n1 : Nat} {σ : L2.St} {H H1 : Hp} {a : Addr} {o : Ow} (e : EnvOk W ρ n σ H) (e1 : EnvOk W ρ n1 σ H1) (k1 : EB W.p H H1) (nw : Nw H a) (ow : OwOk W (fun b => Mu W ρ σ b ∨ b = a) H1 a o) : EnvOk (W.beside ρ σ a H1) (ρ.map hideS) n1 σ H1 := by
  have al : Al (fun b => Mu W ρ σ b ∨ b = a) H1 := fun b m => m.elim (e1.al b) fun z => by subst z; exact ow.there
  refine ⟨fun i x h => ?_, fun i o h => (no_hid i o h).elim, fun i _ o _ _ h => (no_hid i o h).elim, e1.pen, e1.tab, EM.refl _ _, rfl, fun b z => .inl (by rw [show b = W.p from z]; exact e.mup), .inl (.inl e.mq), al, al, by rw [List.length_map]; exact e.len⟩
  rw [List.getElem?_map] at h
  cases q : ρ[i]? with
  | none => rw [q] at h; cases h
  | some s =>
    rw [q] at h
    cases s with
    | un => cases h
    | own o => cases h
    | d y =>
      cases h
      obtain ⟨v, h1, h2⟩ := e.sl i x q
      exact ⟨v, h1, h2.gen (EM.eb k1 e.mup) fun b m => ((mu_bes b).mp m).imp id fun z => by subst z; exact nw⟩
theorem beside_ex {ρ : Rho} {n1 : Nat} {σ : L2.St} {H1 : Hp} {a : Addr} {Ψ : XD} (e1 : EnvOk W ρ n1 σ H1) (x : ExW W E Ψ) : ExW (W.beside ρ σ a H1) E Ψ := fun er n cls dd H' he em pa ta r =>
  x er n cls dd H' he (e1.base.trans (EM.eb (em_eb em) e1.cp)) pa ta ⟨r.1, r.2.elim .inl fun ⟨d, fv, q1, q2, q3, q4⟩ => .inr ⟨d, fv, q1, q2, q3.less fun b mb => .inl (.inl mb), fun z => q4 (.inl (.inl z))⟩⟩
/-- any world of the same text -/
def liftAnyF (W : Wd) (E : XK) (τ : TFD) : TE := fun σ H Q => ∃ W' : Wd, W'.K = W.K ∧ W'.ts = W.ts ∧ liftF W' E τ σ H Q
theorem pe_anyF {e : Expr} {τ : TFD} (h : ∀ W' : Wd, W'.K = W.K → W'.ts = W.ts → PE X e (liftF W' E τ)) : PE X e (liftAnyF W E τ) := ⟨fun pins s σ H Q I ⟨W', h1, h2, h3⟩ => (h W' h1 h2).run pins s σ H Q I h3⟩
/-- a, b = new, new -/
def sPFF (i j : Nat) (f g : TFD) : TSD := fun En ρ n => f ρ n (fun o n1 => (∀ c fs, o ≠ .ins c fs) ∧ g (ρ.map hideS) n1 (fun o' n2 => (∀ c fs, o' ≠ .ins c fs) ∧ En.nx ((ρ.set i (.own o)).set j (.own o')) n2) En.ex) En.ex
/-- a, b = new, data -/
def sPFD (i j : Nat) (f : TFD) (g : TD) : TSD := fun En ρ n => f ρ n (fun o n1 => (∀ c fs, o ≠ .ins c fs) ∧ g (ρ.map hideS) n1 (fun y n2 => En.nx ((ρ.set i (.own o)).set j (.d y)) n2) En.ex) En.ex
/-- a, b = data, new -/
def sPDF (i j : Nat) (f : TD) (g : TFD) : TSD := fun En ρ n => f ρ n (fun x n1 => g ρ n1 (fun o n2 => (∀ c fs, o ≠ .ins c fs) ∧ En.nx ((ρ.set i (.d x)).set j (.own o)) n2) En.ex) En.ex
section
variable {i j : Nat} {x y : Str} {a b : Expr} {px py pt : Pos} {kt k2 : Nat} {pt2 pos : Pos}
abbrev ParR (X : Cx) (st : Stmt) (i j : Nat) (a b : Expr) : Prop := ∀ t, PA X [a, b] t → PS X st (tPar i j t)
theorem ds_pFF {st : Stmt} {tf tg : TFD} (h : ParR X st i j a b) (ha : PE X a (liftF W E tf)) (hb : ∀ W' : Wd, W'.K = W.K → W'.ts = W.ts → PE X b (liftF W' E tg))
    (h1 : starEach [a, b] X.env = (false, eval a X.env) :: starEach [b] X.env := by rfl) (h2 : starEach [b] X.env = (false, eval b X.env) :: starEach [] X.env := by rfl) : PS X st (liftS W E (sPFF i j tf tg)) :=
  ps_imp (h _ (pa_cons ha (pa_cons (pe_anyF hb) pa_nil h2) h1)) fun D σ H ⟨ρ, n, En, e, t, k⟩ => ⟨ρ, n, _, _, e, t, fun q H1 o n1 ⟨ni, g1⟩ e1 k1 nw ow =>
    ⟨W.beside ρ σ q H1, rfl, rfl, _, n1, _, _, beside_ok e e1 k1 nw ow, g1, fun q2 H2 o2 n2 ⟨ni2, g2⟩ e2 k2' nw2 ow2 => by
      have k2 : EB W.p H1 H2 := k2'
      have EA := e.own' (i := i) e1 k1 nw ow
      have LA : Rl W ρ σ H _ _ H1 := Rl.own' (i := i) e k1 nw ni
      have EB' := EA.step k2 e2.pen e2.tab
      have ow3 : OwOk W (fun b => Mu W (ρ.set i (.own o)) (σ.set i (some (.ref q))) b ∨ b = q2) H2 q2 o2 := (owok_w rfl rfl ow2).less fun b m => m.imp (fun m => (mu_bes b).mpr (mu_own m)) id
      exact ⟨_, _, rfl, k.nx _ H2 _ n2 g2 (EA.own' (i := j) EB' k2 nw2 ow3) (LA.trans (Rl.own' (i := j) EA k2 nw2 ni2))⟩, beside_ex e1 k.ex⟩, k.ex⟩
theorem ds_pFD {st : Stmt} {tf : TFD} {tg : TD} (h : ParR X st i j a b) (ha : PE X a (liftF W E tf)) (hb : ∀ W' : Wd, W'.K = W.K → W'.ts = W.ts → PE X b (lift W' E tg))
    (h1 : starEach [a, b] X.env = (false, eval a X.env) :: starEach [b] X.env := by rfl) (h2 : starEach [b] X.env = (false, eval b X.env) :: starEach [] X.env := by rfl) : PS X st (liftS W E (sPFD i j tf tg)) :=
  ps_imp (h _ (pa_cons ha (pa_cons (pe_any hb) pa_nil h2) h1)) fun D σ H ⟨ρ, n, En, e, t, k⟩ => ⟨ρ, n, _, _, e, t, fun q H1 o n1 ⟨ni, g1⟩ e1 k1 nw ow =>
    ⟨W.beside ρ σ q H1, rfl, rfl, _, n1, _, _, beside_ok e e1 k1 nw ow, g1, fun v H2 d n2 g2 e2 k2' r2 => by
      have k2 : EB W.p H1 H2 := k2'
      have EA := e.own' (i := i) e1 k1 nw ow
      have LA : Rl W ρ σ H _ _ H1 := Rl.own' (i := i) e k1 nw ni
      have EB' := EA.step k2 e2.pen e2.tab
      have r3 : Rp W.K W.p (Mu W (ρ.set i (.own o)) (σ.set i (some (.ref q)))) H2 v d := (show Rp W.K W.p _ H2 v d from r2).less fun b m => (mu_bes b).mpr (mu_own m)
      exact ⟨_, _, rfl, k.nx _ H2 _ n2 g2 (EB'.set (i := j) r3) ((LA.trans (Rl.eb k2 EA.mp)).trans Rl.set)⟩, beside_ex e1 k.ex⟩, k.ex⟩
theorem ds_pDF {st : Stmt} {tf : TD} {tg : TFD} (h : ParR X st i j a b) (ha : PE X a (lift W E tf)) (hb : PE X b (liftF W E tg))
    (h1 : starEach [a, b] X.env = (false, eval a X.env) :: starEach [b] X.env := by rfl) (h2 : starEach [b] X.env = (false, eval b X.env) :: starEach [] X.env := by rfl) : PS X st (liftS W E (sPDF i j tf tg)) :=
  ps_imp (h _ (pa_cons ha (pa_cons hb pa_nil h2) h1)) fun D σ H ⟨ρ, n, En, e, t, k⟩ => ⟨ρ, n, _, _, e, t, fun v H1 d n1 g1 e1 k1 r1 =>
    ⟨ρ, n1, _, _, e1, g1, fun q2 H2 o2 n2 ⟨ni2, g2⟩ e2 k2 nw2 ow2 => by
      have EA := e1.set (i := i) r1
      have LA : Rl W ρ σ H (ρ.set i (.d d)) (σ.set i (some v)) H1 := (Rl.eb k1 e.mp).trans (Rl.set (i := i))
      have EB' := EA.step k2 e2.pen e2.tab
      have ow3 : OwOk W (fun b => Mu W (ρ.set i (.d d)) (σ.set i (some v)) b ∨ b = q2) H2 q2 o2 := ow2.less fun b m => m.imp (fun m => mu_set m) id
      exact ⟨_, _, rfl, k.nx _ H2 _ n2 g2 (EA.own' (i := j) EB' k2 nw2 ow3) (LA.trans (Rl.own' (i := j) EA k2 nw2 ni2))⟩, k.ex⟩, k.ex⟩
end
end
end DL
/-! expressions that change own objects, further; own dicts -/
namespace DL
open PySem PySem.Spec PyProof.Rows L2 Gx KX LamX
abbrev TAPD := Rho → Nat → (List D → Rho → Nat → Prop) → XD → Prop
def liftAP (W : Wd) (E : XK) (τ : TAPD) : TA := fun σ H Q => ∃ (ρ : Rho) (n : Nat) (Φ : List D → Rho → Nat → Prop) (Ψ : XD), EnvOk W ρ n σ H ∧ τ ρ n Φ Ψ ∧
  (∀ vs H' ds ρ' n', Φ ds ρ' n' → EnvOk W ρ' n' σ H' → Pl W ρ σ H ρ' H' → RpL W.K W.p (Mu W ρ' σ) H' vs ds → Q vs H') ∧ ExW W E Ψ
/-- data is such an expression -/
def dP (a : TD) : TPD := fun ρ n Φ Ψ => a ρ n (fun x n1 => Φ x ρ n1) Ψ
def apNil : TAPD := fun ρ n Φ _ => Φ [] ρ n
def apCons (a : TPD) (r : TAPD) : TAPD := fun ρ n Φ Ψ => a ρ n (fun x ρ1 n1 => r ρ1 n1 (fun xs ρ2 n2 => Φ (x :: xs) ρ2 n2) Ψ) Ψ
def dTupP (a : TAPD) : TPD := fun ρ n Φ Ψ => a ρ n (fun xs ρ1 n1 => xs.length ≤ sizeLine ∧ Φ (.tup xs) ρ1 n1) Ψ
def sRetP (a : TPD) : TSD := fun En ρ n => a ρ n (fun x _ n1 => En.rt x n1) En.ex
section
variable {X : Cx} {W : Wd} {E : XK}
theorem px_d {e : Expr} {ta : TD} (h : PE X e (lift W E ta)) : PE X e (liftP W E (dP ta)) := pe_imp h fun σ H Q ⟨ρ, n, Φ, Ψ, e, t, k, x⟩ => ⟨ρ, n, _, Ψ, e, t, fun v H' d n' h e' q r => k v H' d ρ n' h e' (Pl.eb q e.mp) r, x⟩
theorem dap_nil : PA X [] (liftAP W E apNil) := pa_imp pa_nil fun σ H Q ⟨ρ, n, Φ, Ψ, e, t, k, x⟩ => k [] H [] ρ n t e Pl.refl .nil
theorem dap_cons {e : Expr} {es : List Expr} {ta : TPD} {tr : TAPD} (ha : PE X e (liftP W E ta)) (hr : PA X es (liftAP W E tr)) (hs : starEach (e :: es) X.env = (false, eval e X.env) :: starEach es X.env := by rfl) :
    PA X (e :: es) (liftAP W E (apCons ta tr)) := pa_imp (pa_cons ha hr hs) fun σ H Q ⟨ρ, n, Φ, Ψ, e, t, k, x⟩ =>
  ⟨ρ, n, _, Ψ, e, t, fun v H1 d ρ1 n1 h1 e1 l1 r1 => ⟨ρ1, n1, _, Ψ, e1, h1, fun vs H2 ds ρ2 n2 h2 e2 l2 r2 => k _ H2 _ ρ2 n2 h2 e2 (l1.trans l2) (.cons (l2.rl.rp r1) r2), x⟩, x⟩
theorem px_tup {es : List Expr} {x1 : Nat} {pos : Pos} {ta : TAPD} (h : PA X es (liftAP W E ta)) : PE X (.Tuple es x1 pos) (liftP W E (dTupP ta)) := pe_imp (pe_tup h) fun σ H Q ⟨ρ, n, Φ, Ψ, e, t, k, x⟩ =>
  ⟨ρ, n, _, Ψ, e, t, fun vs H1 ds ρ1 n1 h1 e1 l1 r1 => ⟨r1.length ▸ h1.1, fun p np => by
    have s := new_same np (.tup vs)
    exact k _ _ _ ρ1 n1 h1.2 (e1.same s) (l1.trans (Pl.same s)) (.tup (e1.al.fresh np) upd_same (r1.em (EM.same s)))⟩, x⟩
theorem ds_retP {e : Expr} {pos : Pos} {ta : TPD} (he : PE X e (liftP W E ta)) : PS X (.Return (some e) pos) (liftS W E (sRetP ta)) := ps_imp (ps_ret he) fun D σ H ⟨ρ, n, En, e, t, k⟩ =>
  ⟨ρ, n, _, _, e, t, fun v H' d ρ' n' h e' _ r => k.rt v H' d n' h e'.base e'.pen e'.tab (r.less fun b m => .inl m), k.ex⟩
/-! own dicts -/
/-- d[k] = v: the value first, then the key -/
def sPutD (i : Nat) (a : TD) (b : TPD) : TSD := fun En ρ n => (∃ ks, ρ[i]? = some (.own (.dct ks))) ∧ a ρ n (fun y n1 => b ρ n1 (fun x ρ' n2 => ∃ ks q, ρ'[i]? = some (.own (.dct ks)) ∧ keyD x = some q ∧ ks.length < sizeLine ∧ En.nx (ρ'.set i (.own (.dct (putKD ks q y)))) n2) En.ex) En.ex
theorem put_dct {ρ : Rho} {n : Nat} {σ : L2.St} {H : Hp} {i : Nat} {o : Ow} {a : Addr} {vs : List (Key × V)} {ds : List (Key × D)} (e : EnvOk W ρ n σ H) (h : ρ[i]? = some (.own o)) (ha : σ[i]? = some (some (.ref a))) (r : RpK W.K W.p (Mu W ρ σ) H vs ds) :
    EnvOk W (ρ.set i (.own (.dct ds))) n σ (upd H a (.dK vs)) ∧ Rl W ρ σ H (ρ.set i (.own (.dct ds))) σ (upd H a (.dK vs)) :=
  ⟨e.put h ha fun H' hH em => ⟨vs, hH, r.em em⟩, Rl.put h ha fun c fs z => by cases z⟩
theorem ds_put {i : Nat} {o y value : Expr} {pos pos' : Pos} {ta : TD} {tb : TPD} (hu : X.A.units + 1 < cLine) (ho : PE X o (tVar i)) (hi : PE X y (liftP W E tb)) (hv : PE X value (lift W E ta)) (hs : swapsWith value (some (.Subscript o y pos')) pos.line X.env = pure false := by rfl) :
    PS X (.Assign [.Subscript o y pos'] value pos) (liftS W E (sPutD i ta tb)) := by
  refine ps_imp (ps_dput hu ho hi hv hs) fun D σ H ⟨ρ, n, En, e, ⟨⟨k0, ho0⟩, t⟩, k⟩ => ?_
  obtain ⟨a, h1, ⟨v0, h2, h3⟩, h4, h5⟩ := e.ow i _ ho0
  refine ⟨ρ, n, _, _, e, t, fun v H1 d n1 g1 e1 k1 r1 => ⟨.ref a, h1, ρ, n1, _, _, e1, g1, fun w H2 c ρ' n2 g2 e2 l2 r2 => ?_, k.ex⟩, k.ex⟩
  obtain ⟨ks, q, ho', hq, g3, g4⟩ := g2
  obtain ⟨a', q1, ⟨vs, q2, q3⟩, q4, q5⟩ := e2.ow i _ ho'
  rw [h1] at q1
  cases q1
  have ew := key_rp r2 hq
  subst ew
  obtain ⟨e3, l3⟩ := put_dct e2 ho' h1 (rpk_put (l2.rl.rp r1) q3)
  exact ⟨a, _, rfl, DPut.k q2 (by rw [rpk_length q3]; exact g3), k.nx σ _ _ n2 g4 e3 (((Rl.eb k1 e.mp).trans l2.rl).trans l3)⟩
/-! a walk whose element changes own objects: its name stands in the walk's own frame alone -/
def compP (j : Nat) (te : TPD) (Φ : List D → Rho → Nat → Prop) : List D → List D → Rho → Nat → Prop
  | [], acc, ρ, n => Φ acc ρ n
  | d :: ds, acc, ρ, n => te (ρ.set j (.d d)) n (fun y ρ' n2 => acc.length < sizeLine ∧ compP j te Φ ds (acc ++ [y]) (ρ'.set j .un) n2) (fun _ _ => False)
def dLcP (i : TID) (j : Nat) (te : TPD) : TPD := fun ρ n Φ Ψ => ρ[j]? = some .un ∧ i ρ n (fun ds n1 => compP j te (fun ys ρ' n2 => Φ (.lst ys) ρ' n2) ds [] ρ n1) Ψ
/-- the walk's world: D is the list that grows; the def's own objects stay its own -/
def Wd.plus (W : Wd) (D : Addr) : Wd := ⟨W.K, W.p, W.q, W.ts, fun b => W.M b ∨ b = D, fun b => W.C b ∨ b = D, upd W.He D (.lst [])⟩
theorem rpl_rl {ρ ρ' : Rho} {σ σ' : L2.St} {H H' : Hp} {vs : List V} {ds : List D} (k : Rl W ρ σ H ρ' σ' H') (r : RpL W.K W.p (Mu W ρ σ) H vs ds) : RpL W.K W.p (Mu W ρ' σ') H' vs ds := r.gen k.em k.mu
theorem wipe_get {σ : L2.St} {i j : Nat} (ne : i ≠ j) : (wipe σ [j])[i]? = σ[i]? := by
  show ((wipe σ []).set j none)[i]? = _
  rw [List.getElem?_set, if_neg (fun z => ne z.symm)]
  rfl
theorem un_ne {ρ : Rho} {i j : Nat} {s : Sl} (h : ρ[j]? = some .un) (g : ρ[i]? = some s) (ns : s ≠ .un) : i ≠ j := fun z => by
  subst z
  rw [h] at g
  cases g
  exact ns rfl
/-- what changes, in the walk's world -/
theorem mu_plus {ρ : Rho} {σ : L2.St} {j : Nat} {D b : Addr} (h : ρ[j]? = some .un) : Mu (W.plus D) ρ (wipe σ [j]) b ↔ (Mu W ρ σ b ∨ b = D) := by
  constructor
  · rintro (m | ⟨i, o, q1, q2⟩)
    · exact m.imp .inl id
    · rw [wipe_get (un_ne h q1 (by intro z; cases z))] at q2
      exact .inl (.inr ⟨i, o, q1, q2⟩)
  · rintro ((m | ⟨i, o, q1, q2⟩) | m)
    · exact .inl (.inl m)
    · exact .inr ⟨i, o, q1, by rw [wipe_get (un_ne h q1 (by intro z; cases z))]; exact q2⟩
    · exact .inl (.inr m)
theorem plus_ok {ρ : Rho} {n j : Nat} {σ : L2.St} {H : Hp} {D : Addr} (e : EnvOk W ρ n σ H) (f : H D = none) (hj : ρ[j]? = some .un) : EnvOk (W.plus D) ρ n (wipe σ [j]) (upd H D (.lst [])) := by
  have s := new_same f (.lst [])
  have e' := e.same s
  have nD : ∀ {b : Addr} {o : HO}, H b = some o → b ≠ D := fun h z => by rw [z, f] at h; cases h
  refine ⟨fun i x h => ?_, fun i o h => ?_, fun i k o o' a h1 h2 h3 h4 => ?_, e'.pen, e'.tab, fun b o nb hb tb => ?_, .inl e.cp, fun b z => z.imp (e.cm b) id, .inl e.mq, fun b m => ?_, fun b m => ?_, ?_⟩
  · obtain ⟨v, h1, h2⟩ := e.sl i x h
    exact ⟨v, by rw [wipe_get (un_ne hj h (by intro z; cases z))]; exact h1, (h2.more f).gen (EM.same s) fun b m => .inl ((mu_plus hj).mp m)⟩
  · obtain ⟨a, h1, h2, h3, h4⟩ := e.ow i o h
    obtain ⟨w, hw, _⟩ := h2.there
    refine ⟨a, by rw [wipe_get (un_ne hj h (by intro z; cases z))]; exact h1, owok_w rfl rfl (((h2.more f).em (EM.same s) fun u hu _ => s _ _ hu).less fun b m => (mu_plus (W := W) hj).mp m), h3, fun u hu => h4 u ?_⟩
    rw [show (W.plus D).He a = W.He a from upd_ne (nD hw)] at hu
    exact hu
  · have q1 := un_ne hj h1 (by intro z; cases z)
    have q2 := un_ne hj h2 (by intro z; cases z)
    rw [wipe_get q1] at h3
    rw [wipe_get q2] at h4
    exact e.inj i k o o' a h1 h2 h3 h4
  · have nb1 : b ≠ D := fun z => nb (.inr z)
    rw [show (W.plus D).He b = W.He b from upd_ne nb1] at hb
    exact s _ _ (e.base b o (fun z => nb (.inl z)) hb tb)
  · rcases m with m | m
    · obtain ⟨o, h1, h2⟩ := e.mal b m
      obtain ⟨o3, h3, _⟩ := e.mlv b m
      exact ⟨o, by rw [show (W.plus D).He b = W.He b from upd_ne (nD h3)]; exact h1, h2⟩
    · exact ⟨.lst [], by subst m; exact upd_same, by intro ps z; cases z⟩
  · rcases m with m | m
    · obtain ⟨o, h1, h2⟩ := e'.mlv b m
      exact ⟨o, h1, h2⟩
    · exact ⟨.lst [], by subst m; exact upd_same, by intro ps z; cases z⟩
  · rw [wipe_length]; exact e.len
/-- the list that grows, beside own objects -/
theorem poke_ok2 {W : Wd} {ρ : Rho} {n : Nat} {σ : L2.St} {H : Hp} {D : Addr} {xs ys : List V} (e : EnvOk W ρ n σ H) (hD : W.M D) (hC : W.C D) (hp : D ≠ W.p) (hq : D ≠ W.q) (h : H D = some (.lst xs)) (no : ∀ (i : Nat) (o : Ow), ρ[i]? = some (Sl.own o) → σ[i]? ≠ some (some (.ref D))) :
    EnvOk W ρ n σ (upd H D (.lst ys)) := by
  have em : EM (Mu W ρ σ) H (upd H D (.lst ys)) := EM.upd (.inl hD)
  refine ⟨fun i x z => ?_, fun i o z => ?_, e.inj, ?_, ?_, e.base.trans (EM.upd hC), e.cp, e.cm, e.mq, e.mal, ?_, e.len⟩
  · obtain ⟨v, h1, h2⟩ := e.sl i x z
    exact ⟨v, h1, h2.em em⟩
  · obtain ⟨a, h1, h2, h3, h4⟩ := e.ow i o z
    have na : a ≠ D := fun q => no i o z (by rw [h1, q])
    exact ⟨a, h1, h2.em em fun u hu _ => by rw [upd_ne na]; exact hu, h3, h4⟩
  · obtain ⟨ns, x, r, p1, p2, p3, p4⟩ := e.pen
    exact ⟨ns, x, r, by rw [upd_ne (fun z => hp z.symm)]; exact p1, p2, by rw [upd_ne (fun z => hq z.symm)]; exact p3, p4⟩
  · intro pq hpq
    exact tab_lst (e.tab pq hpq) h
  · intro b mb
    by_cases z : b = D
    · subst z
      exact ⟨_, upd_same, by intro ps z; cases z⟩
    · obtain ⟨o, q1, q2⟩ := e.mlv b mb
      exact ⟨o, by rw [upd_ne z]; exact q1, q2⟩
theorem back_ok {ρ : Rho} {n j : Nat} {σ : L2.St} {H1 H : Hp} {n1 : Nat} {ρ1 : Rho} {D : Addr} (e1 : EnvOk W ρ1 n1 σ H1) (f : H1 D = none) (hj : ρ[j]? = some .un) (e : EnvOk (W.plus D) ρ n (wipe σ [j]) H) : EnvOk W ρ n σ H := by
  have lessM : ∀ b, Mu W ρ σ b → Mu (W.plus D) ρ (wipe σ [j]) b := fun b m => (mu_plus hj).mpr (.inl m)
  refine ⟨fun i x h => ?_, fun i o h => ?_, fun i k o o' a h1 h2 h3 h4 => ?_, e.pen, e.tab, fun b o nb hb tb => ?_, e1.cp, e1.cm, e1.mq, e1.mal, fun b m => e.mlv b (.inl m), ?_⟩
  · obtain ⟨v, h1, h2⟩ := e.sl i x h
    rw [wipe_get (un_ne hj h (by intro z; cases z))] at h1
    exact ⟨v, h1, (show Rp W.K W.p _ H v x from h2).less lessM⟩
  · obtain ⟨a, h1, h2, h3, h4⟩ := e.ow i o h
    rw [wipe_get (un_ne hj h (by intro z; cases z))] at h1
    refine ⟨a, h1, (owok_w (W' := W.plus D) rfl rfl h2).less lessM, h3, fun u hu => h4 u ?_⟩
    have na : a ≠ D := fun z => by
      obtain ⟨ps, q⟩ := h4 (.lst []) (by subst z; exact upd_same)
      cases q
    show (upd W.He D (.lst [])) a = some u
    rw [upd_ne na]
    exact hu
  · have q1 := un_ne hj h1 (by intro z; cases z)
    have q2 := un_ne hj h2 (by intro z; cases z)
    exact e.inj i k o o' a h1 h2 (by rw [wipe_get q1]; exact h3) (by rw [wipe_get q2]; exact h4)
  · have nbD : b ≠ D := fun z => by
      have q := e1.base b o nb hb tb
      rw [z, f] at q
      cases q
    refine e.base b o (fun z => z.elim nb nbD) ?_ tb
    show (upd W.He D (.lst [])) b = some o
    rw [upd_ne nbD]
    exact hb
  · have := e.len
    rw [wipe_length] at this
    exact this
theorem lcP_read (hK : X.K = W.K) {ti : TID} {j : Nat} {te : TPD} {σ : L2.St} {H : Hp} {Q : VK} {we : TE} (he : ∀ W' : Wd, W'.K = W.K → W'.ts = W.ts → ∀ σ H Q, liftP W' EF te σ H Q → we σ H Q)
    (h : liftP W E (dLcP ti j te) σ H Q) : tLc (liftI W E ti) (gName j) tYes we [j] σ H Q := by
  obtain ⟨ρ, n, Φ, Ψ, e, ⟨hj, t⟩, k, x⟩ := h
  refine ⟨ρ, n, _, Ψ, e, t, fun J H1 ds n1 h1 e1 k1 it => ?_, x⟩
  intro D nD
  have nM : ¬ Mu W ρ σ D := e1.al.fresh nD
  have sD := new_same nD (.lst [])
  have eW := plus_ok e1 nD hj
  have mD : (W.plus D).M D := .inr rfl
  have cD : (W.plus D).C D := .inr rfl
  have pD : D ≠ W.p := fun z => nM (z ▸ e.mup)
  have qD : D ≠ W.q := fun z => nM (z ▸ .inl e.mq)
  have ownD : ∀ {ρ' : Rho}, (∀ (i : Nat) (o : Ow), ρ'[i]? = some (Sl.own o) → ∃ o, ρ[i]? = some (Sl.own o)) → ∀ (i : Nat) (o : Ow), ρ'[i]? = some (Sl.own o) → (wipe σ [j])[i]? ≠ some (some (.ref D)) := fun {ρ'} os i o q z => by
    obtain ⟨o', q'⟩ := os i o q
    rw [wipe_get (un_ne hj q' (by intro z; cases z))] at z
    obtain ⟨a, g1, g2, _⟩ := e1.ow i o' q'
    rw [z] at g1
    cases g1
    obtain ⟨w, g3, _⟩ := g2.there
    rw [nD] at g3
    cases g3
  let B : Addr → Prop := fun b => (b = W.p ∨ ∃ (i : Nat) (o : Ow), ρ[i]? = some (Sl.own o) ∧ σ[i]? = some (some (V.ref b))) ∨ b = D
  let St : Nat → Hp → Prop := fun i H2 => ∃ n2 acc vs ρi, EnvOk (W.plus D) ρi n2 (wipe σ [j]) H2 ∧ H2 D = some (.lst vs) ∧ RpL W.K W.p (Mu (W.plus D) ρi (wipe σ [j])) H2 vs acc ∧ Rl (W.plus D) ρ (wipe σ [j]) (upd H1 D (.lst [])) ρi (wipe σ [j]) H2 ∧
    EM B (upd H1 D (.lst [])) H2 ∧ (∀ (i : Nat) (o : Ow), ρi[i]? = some (Sl.own o) → ∃ o, ρ[i]? = some (Sl.own o)) ∧ ρi[j]? = some .un ∧ compP j te (fun ys ρ' n2 => Φ (.lst ys) ρ' n2) (ds.drop i) acc ρi n2
  refine ⟨fun i m H2 => m = ds.length - i ∧ i ≤ ds.length ∧ St i H2, ⟨ds.length, rfl, Nat.zero_le _, n1, [], [], ρ, eW, upd_same, .nil, Rl.refl, EM.refl _ _, fun _ o h => ⟨o, h⟩, hj, h1⟩, ?_⟩
  rintro i m H2 ⟨rfl, hi, n2, acc, vs, ρi, e2, hD, racc, rl2, em2, os2, hji, h2⟩
  have em12 : EM (Mu W ρ σ) H1 H2 := fun b o nb hb tb => by
    have nbD : b ≠ D := fun z => by rw [z, nD] at hb; cases hb
    exact rl2.em b o (fun z => ((mu_plus hj).mp z).elim nb nbD) (sD _ _ hb) tb
  obtain ⟨it1, it2⟩ := it i H2 em12
  by_cases hlt : i < ds.length
  · right
    obtain ⟨go, yl⟩ := it1 hlt
    refine ⟨go, fun H' => i + 1 ≤ ds.length ∧ St (i + 1) H', fun H' q => ⟨ds.length - (i + 1), by omega, rfl, q⟩, fun x H' y => ?_⟩
    obtain ⟨s3, d, hd, rd⟩ := yl x H' y
    have hdr : ds.drop i = d :: ds.drop (i + 1) := by
      have := List.getElem?_eq_some_iff.mp hd
      rw [List.drop_eq_getElem_cons hlt, this.2]
    rw [hdr] at h2
    have e3 := e2.same s3
    have rd2 : Rp W.K W.p (Mu (W.plus D) ρi (wipe σ [j])) H' x d := (rd.more nD).gen (M := fun b => Mu W ρ σ b ∨ b = D) (fun b o nb hb tb => s3 _ _ (em12 b o (fun z => nb (.inl z)) hb tb)) fun b mb =>
      (rl2.mu b mb).imp (fun m => (mu_plus hj).mp m) fun z o ho => z o (sD _ _ ho)
    have e4 : EnvOk (W.plus D) (ρi.set j (Sl.d d)) n2 ((wipe σ [j]).set j (some x)) H' := e3.set (i := j) (W := W.plus D) rd2
    have hw : wipe ((wipe σ [j]).set j (some x)) [j] = wipe σ [j] := by
      show (((σ.set j none).set j (some x)).set j none) = σ.set j none
      rw [List.set_set, List.set_set]
    have hjl : j < σ.length := by
      have := (List.getElem?_eq_some_iff.mp hj).1
      rw [e.len] at this
      exact this
    refine ⟨hw, he (W.plus D) rfl rfl _ _ _ ⟨ρi.set j (Sl.d d), n2, _, fun _ _ => False, e4, h2, fun v H6 y ρ' n6 h6 e6 l6 r6 => ?_, exF⟩⟩
    have os6 : ∀ (i : Nat) (o : Ow), ρ'[i]? = some (Sl.own o) → i ≠ j ∧ ∃ o, ρi[i]? = some (Sl.own o) := fun i o q => by
      obtain ⟨o1, q1⟩ := l6.os i o q
      rcases set_get q1 with ⟨_, z⟩ | ⟨ne, z⟩
      · cases z
      · exact ⟨ne, o1, z⟩
    have ownσ : ∀ (i : Nat), i ≠ j → ((wipe σ [j]).set j (some x))[i]? = σ[i]? := fun i ne => by
      rw [List.getElem?_set, if_neg (fun z => ne z.symm), wipe_get ne]
    have hj6 : (ρ'.set j .un)[j]? = some .un := by
      have hl : j < ρ'.length := by
        rw [e6.len, List.length_set, wipe_length]
        exact hjl
      rw [List.getElem?_set, if_pos rfl, if_pos hl]
    have osN : ∀ (i : Nat) (o : Ow), (ρ'.set j .un)[i]? = some (Sl.own o) → ∃ o, ρ[i]? = some (Sl.own o) := fun i o q => by
      rcases set_get q with ⟨_, z⟩ | ⟨_, z⟩
      · cases z
      · obtain ⟨_, o1, q1⟩ := os6 i o z
        exact os2 i o1 q1
    have hD6 : H6 D = some (.lst vs) := l6.eo D _ (fun z => by
      rcases z with z | ⟨i, o, q1, q2⟩
      · exact pD z
      · rcases set_get q1 with ⟨_, z⟩ | ⟨ne, z⟩
        · cases z
        · rw [ownσ i ne] at q2
          exact ownD os2 i o z (by rw [wipe_get ne]; exact q2)) (s3 _ _ hD) (by intro ps z; cases z)
    -- what changes behind the element
    have mu6 : ∀ b, Mu (W.plus D) (ρ'.set j .un) (wipe σ [j]) b → Mu (W.plus D) ρ' ((wipe σ [j]).set j (some x)) b := fun b m => by
      rcases m with m | ⟨i, o, q1, q2⟩
      · exact .inl m
      · rcases set_get q1 with ⟨_, z⟩ | ⟨ne, z⟩
        · cases z
        · exact .inr ⟨i, o, z, by rw [ownσ i ne, ← wipe_get ne]; exact q2⟩
    have mu4 : ∀ b, Mu (W.plus D) (ρi.set j (Sl.d d)) ((wipe σ [j]).set j (some x)) b → Mu (W.plus D) ρi (wipe σ [j]) b := fun b m => mu_set m
    have rlA : Rl (W.plus D) ρi (wipe σ [j]) H' (ρ'.set j .un) (wipe σ [j]) H6 := ⟨fun b o nb hb tb => l6.rl.em b o (fun z => nb (mu4 b z)) hb tb, fun b m => (l6.rl.mu b (mu6 b m)).imp (mu4 b) id, fun i c fs q => by
      rcases set_get q with ⟨_, z⟩ | ⟨ne, z⟩
      · cases z
      · obtain ⟨⟨fs', q1⟩, _⟩ := l6.rl.ins i c fs z
        rcases set_get q1 with ⟨z2, _⟩ | ⟨_, z2⟩
        · exact absurd z2 ne
        · exact ⟨⟨fs', z2⟩, rfl⟩⟩
    have eN : EnvOk (W.plus D) (ρ'.set j .un) n6 (wipe σ [j]) H6 := by
      refine ⟨fun i x' q => ?_, fun i o q => ?_, fun i k o o' a q1 q2 q3 q4 => ?_, e6.pen, e6.tab, e6.base, e6.cp, e6.cm, e6.mq, e6.mal, e6.mlv, ?_⟩
      · rcases set_get q with ⟨_, z⟩ | ⟨ne, z⟩
        · cases z
        · obtain ⟨v', g1, g2⟩ := e6.sl i x' z
          exact ⟨v', by rw [wipe_get ne, ← ownσ i ne]; exact g1, g2.less mu6⟩
      · rcases set_get q with ⟨_, z⟩ | ⟨ne, z⟩
        · cases z
        · obtain ⟨a, g1, g2, g3⟩ := e6.ow i o z
          exact ⟨a, by rw [wipe_get ne, ← ownσ i ne]; exact g1, g2.less mu6, g3⟩
      · rcases set_get q1 with ⟨_, z1⟩ | ⟨ne1, z1⟩
        · cases z1
        · rcases set_get q2 with ⟨_, z2⟩ | ⟨ne2, z2⟩
          · cases z2
          · exact e6.inj i k o o' a z1 z2 (by rw [ownσ i ne1, ← wipe_get ne1]; exact q3) (by rw [ownσ k ne2, ← wipe_get ne2]; exact q4)
      · have := e6.len
        rw [List.length_set] at this
        rw [List.length_set]
        exact this
    have ra6 : RpL W.K W.p (Mu (W.plus D) (ρ'.set j .un) (wipe σ [j])) H6 vs acc := rpl_rl (W := W.plus D) rlA (racc.em (EM.same s3))
    have rv6 : Rp W.K W.p (Mu (W.plus D) (ρ'.set j .un) (wipe σ [j])) H6 v y := (show Rp W.K W.p _ H6 v y from r6).less mu6
    have em7 : EM (Mu (W.plus D) (ρ'.set j .un) (wipe σ [j])) H6 (upd H6 D (.lst (vs ++ [v]))) := EM.upd (.inl mD)
    have emB : EM B H' H6 := fun b o nb hb tb => l6.eo b o (fun z => nb (by
      rcases z with z | ⟨i, o, q1, q2⟩
      · exact .inl (.inl z)
      · rcases set_get q1 with ⟨_, z⟩ | ⟨ne, z⟩
        · cases z
        · rw [ownσ i ne] at q2
          obtain ⟨o', q3⟩ := os2 i o z
          exact .inl (.inr ⟨i, o', q3, q2⟩))) hb tb
    refine ⟨vs, hD6, by rw [ra6.length]; exact h6.1, by omega, n6, acc ++ [y], vs ++ [v], ρ'.set j .un, poke_ok2 eN mD cD pD qD hD6 (ownD osN), upd_same, (ra6.snoc rv6).em em7, ?_, ?_, osN, hj6, h6.2⟩
    · exact ((rl2.trans (Rl.same (EM.same s3))).trans rlA).trans (Rl.same em7)
    · exact ((em2.trans (EM.same s3)).trans emB).trans (EM.upd (.inr rfl))
  · left
    refine ⟨it2 (by omega), ?_⟩
    rw [List.drop_eq_nil_of_le (by omega)] at h2
    have eE := back_ok e1 nD hji e2
    have muE : ∀ b, Mu W ρi σ b → Mu (W.plus D) ρi (wipe σ [j]) b := fun b m => (mu_plus hji).mpr (.inl m)
    have rlE : Rl W ρ σ H1 ρi σ H2 := ⟨em12, fun b m => by
      rcases rl2.mu b (muE b m) with z | z
      · rcases (mu_plus hj).mp z with z | z
        · exact .inl z
        · exact .inr fun o ho => by rw [z, nD] at ho; cases ho
      · exact .inr fun o ho => z o (sD _ _ ho), fun i c fs q => ⟨(rl2.ins i c fs q).1, rfl⟩⟩
    have eoE : EM (fun b => b = W.p ∨ ∃ (i : Nat) (o : Ow), ρ[i]? = some (Sl.own o) ∧ σ[i]? = some (some (V.ref b))) H1 H2 := fun b o nb hb tb => em2 b o (fun z => z.elim nb fun z => by rw [z, nD] at hb; cases hb) (sD _ _ hb) tb
    have nDE : ¬ Mu W ρi σ D := fun m => by
      rcases m with m | ⟨i, o, q1, q2⟩
      · exact nM (.inl m)
      · obtain ⟨o', q3⟩ := os2 i o q1
        exact nM (.inr ⟨i, o', q3, q2⟩)
    exact k _ H2 _ ρi n2 h2 eE ((Pl.eb k1 e.mp).trans ⟨rlE, eoE, os2⟩) (.lst nDE hD (racc.less muE))
theorem px_lc (hK : X.K = W.K) {elt iter : Expr} {scope : Scope} {x : Str} {px : Pos} {j : Nat} {pos : Pos} {ti : TID} {te : TPD} (hc : X.calm = true) (hN : X.N.Nodup) (hi : PI X (.Name x px) iter (liftI W E ti)) (ok : BlkOk X.N X.env.scope scope [(x, j)])
    (hg : ∀ (s : Shared) (H : Hp) (C : Addr) (cl : List (Str × Addr)) (fp : List Addr), PG (X.blk s H scope (compEnvC scope cl C X.env) fp) (.Name x px) (gName j))
    (he : ∀ (W' : Wd), W'.K = W.K → W'.ts = W.ts → ∀ (s : Shared) (H : Hp) (C : Addr) (cl : List (Str × Addr)) (fp : List Addr), PE (X.blk s H scope (compEnvC scope cl C X.env) fp) elt (liftP W' EF te))
    (hs : ∀ x, foldedSetIterable iter X.env x = pure x := by intro _; rfl) :
    PE X (.ListComp elt [⟨.Name x px, iter, [], 0⟩] scope pos) (liftP W E (dLcP ti j te)) := by
  refine pe_imp (pe_lc (own := [(x, j)]) (g := gName j) (tt := tYes) (te := fun σ H Q => ∃ W' : Wd, W'.K = W.K ∧ W'.ts = W.ts ∧ liftP W' EF te σ H Q) hc hN hi ok hg (fun s H C cl fp => pts_nil) ?_ hs) fun σ H Q h => ?_
  · intro s H C cl fp
    exact ⟨fun pins s' σ H' Q I ⟨W', h1, h2, h3⟩ => (he W' h1 h2 s H C cl fp).run pins s' σ H' Q I h3⟩
  · exact lcP_read hK (fun W' h1 h2 σ H Q h => ⟨W', h1, h2, h⟩) h
end
end DL
/-! items of own objects and dicts; truth; dict methods -/
namespace DL
open PySem PySem.Spec PyProof.Rows L2 Gx KX LamX
def valD (ks : List (Key × D)) (q : Key) : Option D := (ks.find? fun kv => decide (kv.1 = q)).map (·.2)
theorem valD_pos {k q : Key} {d : D} {ds : List (Key × D)} (e : k = q) : valD ((k, d) :: ds) q = some d := by simp [valD, List.find?_cons, e]
theorem valD_neg {k q : Key} {d : D} {ds : List (Key × D)} (e : ¬ k = q) : valD ((k, d) :: ds) q = valD ds q := by simp only [valD, List.find?_cons, decide_eq_false e]
theorem valD_rp {K : PySem.W.Frag} {p : Addr} {M : Addr → Prop} {H : Hp} (q : Key) : ∀ {vs : List (Key × V)} {ds : List (Key × D)}, RpK K p M H vs ds →
    (∀ d, valD ds q = some d → ∃ v, valV vs q = some v ∧ Rp K p M H v d) ∧ (valD ds q = none → valV vs q = none)
  | _, _, .nil => ⟨fun d h => by simp [valD] at h, fun _ => rfl⟩
  | _, _, .cons (k := k) (v := w) h r => by
    obtain ⟨a, b⟩ := valD_rp q r
    by_cases e : k = q
    · rw [valD_pos e]
      refine ⟨fun d z => ?_, fun z => by cases z⟩
      cases z
      exact ⟨w, valV_pos (p := (k, w)) e, h⟩
    · rw [valD_neg e, valV_neg (p := (k, w)) e]
      exact ⟨a, b⟩
section
variable {X : Cx} {W : Wd} {E : XK}
theorem dct_rp {M : Addr → Prop} {H : Hp} {v : V} {ks : List (Key × D)} (r : Rp W.K W.p M H v (.dct ks)) : ∃ a kv, v = .ref a ∧ H a = some (.dK kv) ∧ RpK W.K W.p M H kv ks := by
  cases r with
  | dct n h r => exact ⟨_, _, rfl, h, r⟩
theorem ix_dk (hu : X.A.units + 1 < cLine) : IxR X (fun x y H Q => ∃ a v, x = .ref a ∧ DGet H a y (some v) ∧ Q v H) := by
  intro value slice pins s σ H x y v u Q I rx ry ⟨a, r, ex, g, q⟩ hs
  subst ex
  obtain rfl : v = Value.ref a := rx
  exact tail_any (dict_typeIs I g) slot_dict_getitem.lookup (d_getItem hu I g ry fun w' s3 I3 rw' => ⟨r, H, I3, rw', q⟩) hs
/-- a class's own way is a def -/
def FnI (K : PySem.W.Frag) (nm : Str) (C : Addr) : Prop := ∀ g, Meth K C nm g → PySem.W.fnIn K g = true
theorem fnI_of {K : PySem.W.Frag} {nm x qual : Str} {params : Arguments} {body : List Stmt} {scope : Scope} {dvs : List V} {kws : List (Str × V)} {C f : Addr} {fd : FuncData} (F : FunD K x qual params body scope dvs kws f fd) (m : Meth K C nm f) : FnI K nm C := fun g m' => by
  have e := m.at_
  rw [m'.at_] at e
  cases e
  obtain ⟨oc, od, dV, kV, doc, pm, an, cdv, ct, osl, rfl, lk, _⟩ := F.ex
  unfold PySem.W.fnIn
  rw [lk]
def PlainIx2 (b : Expr) : Prop := ∀ o i, subscripted b true o i = runValue (.builtin "lifetime.subscript" ⟨[o, i], []⟩)
/-- o[i] by what o is -/
def ixN (tbl : List (Str × FD)) : F2 := fun x y n Φ Ψ => match x with
  | .ob c fs => ∃ φ, tbl.lookup c = some φ ∧ φ [.ob c fs, y] n Φ Ψ
  | .dct ks => ∃ q d, keyD y = some q ∧ valD ks q = some d ∧ Φ d n
  | x => ixD x y fun z => Φ z n
theorem dx_ixN {tbl : List (Str × FD)} {k : Nat} {ts : List (Addr × Str)} {a b : Expr} {pos : Pos} {ta tb : TD} (hK : X.K = W.K) (ht : W.ts = ts) (T : TBL (PM X ts k 2 "__getitem__" (FnI X.K "__getitem__")) tbl) (hr : Room (k + 1) X.A) (hx : Passes (L2.CX X.prog X.w) X E) (hu : X.A.units + 1 < cLine)
    (ha : PE X a (lift W E ta)) (hb : PE X b (lift W E tb)) (hs : PlainIx b) (hs2 : PlainIx2 b) : PE X (.Subscript a b pos) (lift W E (dOpN (ixN tbl) ta tb)) := by
  refine ⟨fun pins s σ H Q I ⟨ρ, n, Φ, Ψ, e, t, k1, x1⟩ => ?_⟩
  refine Subscript_ (binT ha hb I (twoN (f := ixN tbl) e t k1 x1) fun v u s2 x y H2 I2 rx ry ⟨ρ2, σ2, n2, Φ2, Ψ2, d, c, e0, r1, r2, f0, k0, x0⟩ => ?_)
  unfold ixN at f0
  split at f0
  · rename_i cc fs
    obtain ⟨φ, h1, h3⟩ := f0
    obtain ⟨f, fd, ps, m, hl, F, hb', fi⟩ := T cc φ h1
    have r1' := r1
    obtain ⟨a', ox, od, rfl, rfl, J, _⟩ := ob_get hK I2 r1 rx
    obtain ⟨mm, hF⟩ := I2.fr
    exact PySem.W.sub_K hF I2.ok.mod.kin J m.at_ (fi f m) m.fn (Nx.run_at F hr.in1 I2.env0.in1 hb' hx I2 (.cons (show RelV (.ref a') (.ref a') from rfl) (.cons ry .nil)) (sp_two hK ht e0 r1' r2 h3 k0 x0)) (hs2 _ _)
  · obtain ⟨q, d, h1, h2, h3⟩ := f0
    obtain ⟨a', kv, rfl, h4, h5⟩ := dct_rp r1
    have ey := key_rp r2 h1
    subst ey
    obtain ⟨w, h6, h7⟩ := (valD_rp q h5).1 d h2
    exact ix_dk hu a b pins s2 σ H2 _ _ v u Q I2 rx ry ⟨a', w, rfl, .inl ⟨kv, q, .inl h4, rfl, h6.symm⟩, k0 w H2 d n2 h3 e0 (EB.refl _ _) h7⟩ (hs _ _)
  · exact id_ix hK a b pins s2 σ H2 x y v u Q I2 rx ry ⟨_, d, c, _, e0.al, r1, r2, f0, fun v' H' z hz s r => k0 v' H' z n2 hz (e0.same s) (EB.same s) r⟩ (hs _ _)
end
end DL
/-! dict comprehensions; dict methods; bool, sum, min -/
namespace DL
open PySem PySem.Spec PyProof.Rows L2 Gx KX LamX
def compK (j : Nat) (tt : TTD) (tk te : TD) (ρ : Rho) (Φ : List (Key × D) → Nat → Prop) : List D → List (Key × D) → Nat → Prop
  | [], acc, n => Φ acc n
  | d :: ds, acc, n => tt (ρ.set j (.d d)) n (fun b n1 => if b = true then tk (ρ.set j (.d d)) n1 (fun x n2 => te (ρ.set j (.d d)) n2 (fun y n3 => ∃ q, keyD x = some q ∧ acc.length < sizeLine ∧ compK j tt tk te ρ Φ ds (putKD acc q y) n3) (fun _ _ => False)) (fun _ _ => False)
      else compK j tt tk te ρ Φ ds acc n1) (fun _ _ => False)
def dDc (i : TID) (j : Nat) (tt : TTD) (tk te : TD) : TD := fun ρ n Φ Ψ => i ρ n (fun ds n1 => compK j tt tk te (hideR ρ j) (fun ks n2 => Φ (.dct ks) n2) ds [] n1) Ψ
section
variable {X : Cx} {W : Wd} {E : XK}
/-- the dict that grows -/
theorem poke_dct {W : Wd} {ρ : Rho} {n : Nat} {σ : L2.St} {H : Hp} {D : Addr} {xs ys : List (Key × V)} (e : EnvOk W ρ n σ H) (hD : W.M D) (hC : W.C D) (hp : D ≠ W.p) (hq : D ≠ W.q) (h : H D = some (.dK xs)) (no : ∀ (i : Nat) (o : Ow), ρ[i]? = some (Sl.own o) → False) :
    EnvOk W ρ n σ (upd H D (.dK ys)) := by
  have em : EM (Mu W ρ σ) H (upd H D (.dK ys)) := EM.upd (.inl hD)
  refine ⟨fun i x z => ?_, fun i o z => (no i o z).elim, fun i _ o _ _ z => (no i o z).elim, ?_, ?_, e.base.trans (EM.upd hC), e.cp, e.cm, e.mq, e.mal, ?_, e.len⟩
  · obtain ⟨v, h1, h2⟩ := e.sl i x z
    exact ⟨v, h1, h2.em em⟩
  · obtain ⟨ns, x, r, p1, p2, p3, p4⟩ := e.pen
    exact ⟨ns, x, r, by rw [upd_ne (fun z => hp z.symm)]; exact p1, p2, by rw [upd_ne (fun z => hq z.symm)]; exact p3, p4⟩
  · intro pq hpq
    obtain ⟨ps, h1, h2, h3⟩ := e.tab pq hpq
    refine ⟨ps, by rw [upd_ne (ne_of h1 h (by intro z; cases z))]; exact h1, h2, fun pos cv hc => ?_⟩
    obtain ⟨d, e1, e2⟩ := h3 pos cv hc
    refine ⟨d, e1, ?_⟩
    rw [upd_ne (fun z => ?_)]
    · exact e2
    · rw [z] at e2
      unfold CodeO at e2
      rw [e2] at h
      cases h
  · intro b mb
    by_cases z : b = D
    · subst z
      exact ⟨_, upd_same, by intro ps z; cases z⟩
    · obtain ⟨o, q1, q2⟩ := e.mlv b mb
      exact ⟨o, by rw [upd_ne z]; exact q1, q2⟩
theorem dc_read (hK : X.K = W.K) {ti : TID} {j : Nat} {tt : TTD} {tk te : TD} {σ : L2.St} {H : Hp} {Q : VK} {wt : TT} {wk we : TE}
    (ht : ∀ W' : Wd, W'.K = W.K → W'.ts = W.ts → ∀ σ H Q, liftT W' EF tt σ H Q → wt σ H Q) (hk : ∀ W' : Wd, W'.K = W.K → W'.ts = W.ts → ∀ σ H Q, lift W' EF tk σ H Q → wk σ H Q) (he : ∀ W' : Wd, W'.K = W.K → W'.ts = W.ts → ∀ σ H Q, lift W' EF te σ H Q → we σ H Q)
    (h : lift W E (dDc ti j tt tk te) σ H Q) : L2.tDc (liftI W E ti) (gName j) wt wk we [j] σ H Q := by
  obtain ⟨ρ, n, Φ, Ψ, e, t, k, x⟩ := h
  refine ⟨ρ, n, _, Ψ, e, t, fun J H1 ds n1 h1 e1 k1 it => ?_, x⟩
  intro D nD
  have nM : ¬ Mu W ρ σ D := e1.al.fresh nD
  have sD := new_same nD (.dK [])
  obtain ⟨W', hW'⟩ : ∃ W' : Wd, W' = W.in (Mu W ρ σ) D (upd H1 D (.dK [])) := ⟨_, rfl⟩
  have eW : EnvOk W' (hideR ρ j) n1 (wipe σ [j]) (upd H1 D (.dK [])) := hW' ▸ inner_ok e1 nD (by intro ps z; cases z)
  have wK : W'.K = W.K := by rw [hW']; rfl
  have wp : W'.p = W.p := by rw [hW']; rfl
  have wq : W'.q = W.q := by rw [hW']; rfl
  have wt' : W'.ts = W.ts := by rw [hW']; rfl
  have wM : ∀ b, W'.M b ↔ (Mu W ρ σ b ∨ b = D) := fun b => by rw [hW']; exact Iff.rfl
  have mD : W'.M D := (wM D).mpr (.inr rfl)
  have cD : W'.C D := by rw [hW']; exact .inr rfl
  have muI : ∀ {ρ' : Rho} {σ' : L2.St} {b : Addr}, (∀ (i : Nat) (o : Ow), ρ'[i]? = some (Sl.own o) → False) → (Mu W' ρ' σ' b ↔ W'.M b) := fun {ρ' σ' b} no => ⟨fun m => m.elim id fun ⟨i, o, q, _⟩ => (no i o q).elim, .inl⟩
  have no0 : ∀ (i : Nat) (o : Ow), (hideR ρ j)[i]? = some (Sl.own o) → False := fun i o q => hide_own q
  have no1 : ∀ (d : DL.D) (i : Nat) (o : Ow), ((hideR ρ j).set j (Sl.d d))[i]? = some (Sl.own o) → False := fun d i o q => by
    rcases set_get q with ⟨_, z⟩ | ⟨_, z⟩
    · cases z
    · exact hide_own z
  have pD : D ≠ W.p := fun z => nM (z ▸ e.mup)
  have qD : D ≠ W.q := fun z => nM (z ▸ .inl e.mq)
  refine ⟨fun i m H2 => m = ds.length - i ∧ i ≤ ds.length ∧ ∃ n2 acc vs, EnvOk W' (hideR ρ j) n2 (wipe σ [j]) H2 ∧ H2 D = some (.dK vs) ∧ RpK W.K W.p W'.M H2 vs acc ∧ EM (fun b => b = W.p ∨ b = D) (upd H1 D (.dK [])) H2 ∧ compK j tt tk te (hideR ρ j) (fun ys n2 => Φ (.dct ys) n2) (ds.drop i) acc n2,
    ⟨ds.length, rfl, Nat.zero_le _, n1, [], [], eW, upd_same, .nil, EM.refl _ _, h1⟩, ?_⟩
  rintro i m H2 ⟨rfl, hi, n2, acc, vs, e2, hD, racc, em2, h2⟩
  have em12 : EM (Mu W ρ σ) H1 H2 := fun b o nb hb tb => by
    have nbD : b ≠ D := fun z => by rw [z, nD] at hb; cases hb
    exact em2 b o (fun z => z.elim (fun z => nb (z ▸ e.mup)) nbD) (sD _ _ hb) tb
  obtain ⟨it1, it2⟩ := it i H2 em12
  by_cases hlt : i < ds.length
  · right
    obtain ⟨go, yl⟩ := it1 hlt
    refine ⟨go, fun H' => i + 1 ≤ ds.length ∧ ∃ n2 acc vs, EnvOk W' (hideR ρ j) n2 (wipe σ [j]) H' ∧ H' D = some (.dK vs) ∧ RpK W.K W.p W'.M H' vs acc ∧ EM (fun b => b = W.p ∨ b = D) (upd H1 D (.dK [])) H' ∧ compK j tt tk te (hideR ρ j) (fun ys n2 => Φ (.dct ys) n2) (ds.drop (i + 1)) acc n2,
      fun H' q => ⟨ds.length - (i + 1), by omega, rfl, q⟩, fun x H' y => ?_⟩
    obtain ⟨s3, d, hd, rd⟩ := yl x H' y
    have hdr : ds.drop i = d :: ds.drop (i + 1) := by
      have := List.getElem?_eq_some_iff.mp hd
      rw [List.drop_eq_getElem_cons hlt, this.2]
    rw [hdr] at h2
    have e3 := e2.same s3
    have rd2 : Rp W.K W.p W'.M H' x d := (rd.more nD).gen (M := fun b => Mu W ρ σ b ∨ b = D) (fun b o nb hb tb => s3 _ _ (em12 b o (fun z => nb (.inl z)) hb tb)) fun b mb => .inl ((wM b).mp mb)
    have e4 : EnvOk W' ((hideR ρ j).set j (Sl.d d)) n2 ((wipe σ [j]).set j (some x)) H' := e3.set (by rw [wK, wp]; exact rd2.less fun b mb => (muI no0).mp mb)
    have hw : wipe ((wipe σ [j]).set j (some x)) [j] = wipe σ [j] := by
      show (((σ.set j none).set j (some x)).set j none) = σ.set j none
      rw [List.set_set, List.set_set]
    refine ⟨hw, ht W' wK wt' _ _ _ ⟨(hideR ρ j).set j (Sl.d d), n2, _, fun _ _ => False, e4, h2, fun b H5 n5 h5 e5 k5 => ?_, exF⟩⟩
    have back : ∀ {n : Nat} {H : Hp}, EnvOk W' ((hideR ρ j).set j (Sl.d d)) n ((wipe σ [j]).set j (some x)) H → EnvOk W' (hideR ρ j) n (wipe σ [j]) H := fun {n H} q =>
      ⟨fun i x h => by
        obtain ⟨ne, _⟩ := hide_get h
        obtain ⟨v, q1, q2⟩ := q.sl i x (by rw [List.getElem?_set, if_neg (fun z => ne z.symm)]; exact h)
        rw [List.getElem?_set, if_neg (fun z => ne z.symm)] at q1
        exact ⟨v, q1, q2.less fun b mb => (muI (no1 d)).mpr ((muI no0).mp mb)⟩, fun i o h => (no0 i o h).elim, fun i _ o _ _ h => (no0 i o h).elim, q.pen, q.tab, q.base, q.cp, q.cm, q.mq, q.mal, q.mlv, by
        have := q.len
        rw [List.length_set, List.length_set] at this
        exact this⟩
    have em5 : EM (fun b => b = W.p ∨ b = D) (upd H1 D (.dK [])) H5 := em2.trans ((EM.same s3).trans (EM.eb (by rw [wp] at k5; exact k5) (.inl rfl)))
    have hD5 : H5 D = some (.dK vs) := k5 D _ (by rw [wp]; exact pD) (s3 _ _ hD) (by intro ps z; cases z)
    have ra5 : RpK W.K W.p W'.M H5 vs acc := (racc.em (EM.same s3)).em (EM.eb k5 (e4.mp))
    cases b with
    | true =>
      have h5 : tk ((hideR ρ j).set j (Sl.d d)) n5 (fun x n2 => te ((hideR ρ j).set j (Sl.d d)) n2 (fun y n3 => ∃ q, keyD x = some q ∧ acc.length < sizeLine ∧ compK j tt tk te (hideR ρ j) (fun ys n2 => Φ (.dct ys) n2) (ds.drop (i + 1)) (putKD acc q y) n3) (fun _ _ => False)) (fun _ _ => False) := h5
      show wk _ H5 _
      refine hk W' wK wt' _ _ _ ⟨(hideR ρ j).set j (Sl.d d), n5, _, fun _ _ => False, e5, h5, fun vk H6 yk n6 h6 e6 k6 r6 => ?_, exF⟩
      have hD6 : H6 D = some (.dK vs) := k6 D _ (by rw [wp]; exact pD) hD5 (by intro ps z; cases z)
      have ra6 : RpK W.K W.p W'.M H6 vs acc := ra5.em (EM.eb k6 e5.mp)
      refine he W' wK wt' _ _ _ ⟨(hideR ρ j).set j (Sl.d d), n6, _, fun _ _ => False, e6, h6, fun v H7 y n7 h7 e7 k7 r7 => ?_, exF⟩
      obtain ⟨q, hq, h7l, h7⟩ := h7
      have hD7 : H7 D = some (.dK vs) := k7 D _ (by rw [wp]; exact pD) hD6 (by intro ps z; cases z)
      have ra7 : RpK W.K W.p W'.M H7 vs acc := ra6.em (EM.eb k7 e6.mp)
      have rv7 : Rp W.K W.p W'.M H7 v y := by
        rw [wK, wp] at r7
        exact r7.less fun b mb => (muI (no1 d)).mpr mb
      have ek := key_rp r6 hq
      refine ⟨vs, q, ek, hD7, by rw [rpk_length ra7]; exact h7l, by omega, n7, putKD acc q y, putK vs q v, poke_dct (back e7) mD cD (by rw [wp]; exact pD) (by rw [wq]; exact qD) hD7 no0, upd_same, (rpk_put rv7 ra7).em (EM.upd mD), ?_, h7⟩
      exact em5.trans ((EM.eb (by rw [wp] at k6; exact k6) (.inl rfl)).trans ((EM.eb (by rw [wp] at k7; exact k7) (.inl rfl)).trans (EM.upd (.inr rfl))))
    | false => exact ⟨by omega, n5, acc, vs, back e5, hD5, ra5, em5, h5⟩
  · left
    refine ⟨it2 (by omega), ?_⟩
    rw [List.drop_eq_nil_of_le (by omega)] at h2
    have eb1 : EB W.p H1 H2 := fun b o nb hb tb => by
      have nbD : b ≠ D := fun z => by rw [z, nD] at hb; cases hb
      exact em2 b o (fun z => z.elim nb nbD) (sD _ _ hb) tb
    have pen2 : PenAt H2 W.p W.q n2 := by
      have := e2.pen
      rw [wp, wq] at this
      exact this
    have tab2 : Tabs W.ts H2 := by
      have := e2.tab
      rw [wt'] at this
      exact this
    refine k _ H2 _ n2 h2 (e1.step eb1 pen2 tab2) (k1.trans eb1) (.dct nM hD (racc.less fun b mb => (wM b).mpr (.inl mb)))
theorem dx_dc (hK : X.K = W.K) {kx vx iter : Expr} {ifs : List Expr} {scope : Scope} {x : Str} {px : Pos} {j : Nat} {pos : Pos} {ti : TID} {tt : TTD} {tk te : TD} (hc : X.calm = true) (hN : X.N.Nodup) (hi : PI X (.Name x px) iter (liftI W E ti)) (ok : BlkOk X.N X.env.scope scope [(x, j)])
    (hg : ∀ (s : Shared) (H : Hp) (C : Addr) (cl : List (Str × Addr)) (fp : List Addr), PG (X.blk s H scope (compEnvC scope cl C X.env) fp) (.Name x px) (gName j))
    (ht : ∀ (W' : Wd), W'.K = W.K → W'.ts = W.ts → ∀ (s : Shared) (H : Hp) (C : Addr) (cl : List (Str × Addr)) (fp : List Addr), PTs (X.blk s H scope (compEnvC scope cl C X.env) fp) ifs (liftT W' EF tt))
    (hk : ∀ (W' : Wd), W'.K = W.K → W'.ts = W.ts → ∀ (s : Shared) (H : Hp) (C : Addr) (cl : List (Str × Addr)) (fp : List Addr), PE (X.blk s H scope (compEnvC scope cl C X.env) fp) kx (lift W' EF tk))
    (he : ∀ (W' : Wd), W'.K = W.K → W'.ts = W.ts → ∀ (s : Shared) (H : Hp) (C : Addr) (cl : List (Str × Addr)) (fp : List Addr), PE (X.blk s H scope (compEnvC scope cl C X.env) fp) vx (lift W' EF te))
    (hs : ∀ x, foldedSetIterable iter X.env x = pure x := by intro _; rfl) :
    PE X (.DictComp kx vx [⟨.Name x px, iter, ifs, 0⟩] scope pos) (lift W E (dDc ti j tt tk te)) := by
  refine pe_imp (L2.pe_dc (own := [(x, j)]) (g := gName j) (tt := fun σ H Q => ∃ W' : Wd, W'.K = W.K ∧ W'.ts = W.ts ∧ liftT W' EF tt σ H Q) (tk := fun σ H Q => ∃ W' : Wd, W'.K = W.K ∧ W'.ts = W.ts ∧ lift W' EF tk σ H Q) (tv := fun σ H Q => ∃ W' : Wd, W'.K = W.K ∧ W'.ts = W.ts ∧ lift W' EF te σ H Q) hc hN hi ok hg ?_ ?_ ?_ hs) fun σ H Q h => ?_
  · intro s H C cl fp
    exact ⟨fun pins s' σ H' Q I ⟨W', h1, h2, h3⟩ => (ht W' h1 h2 s H C cl fp).run pins s' σ H' Q I h3⟩
  · intro s H C cl fp
    exact ⟨fun pins s' σ H' Q I ⟨W', h1, h2, h3⟩ => (hk W' h1 h2 s H C cl fp).run pins s' σ H' Q I h3⟩
  · intro s H C cl fp
    exact ⟨fun pins s' σ H' Q I ⟨W', h1, h2, h3⟩ => (he W' h1 h2 s H C cl fp).run pins s' σ H' Q I h3⟩
  · exact dc_read hK (fun W' h1 h2 σ H Q h => ⟨W', h1, h2, h⟩) (fun W' h1 h2 σ H Q h => ⟨W', h1, h2, h⟩) (fun W' h1 h2 σ H Q h => ⟨W', h1, h2, h⟩) h
end
end DL
/-! dict methods; copies; bool, sum -/
namespace DL
open PySem PySem.Spec PyProof.Rows L2 Gx KX LamX
/-- d.get(k, e) -/
def dGet2 (o a b : TD) : TD := fun ρ n Φ Ψ => o ρ n (fun x n1 => ∃ ks, x = .dct ks ∧ a ρ n1 (fun y n2 => b ρ n2 (fun z n3 => ∃ q, keyD y = some q ∧ Φ ((valD ks q).getD z) n3) Ψ) Ψ) Ψ
/-- d.get(k) -/
def dGet1 (o a : TD) : TD := fun ρ n Φ Ψ => o ρ n (fun x n1 => ∃ ks, x = .dct ks ∧ a ρ n1 (fun y n2 => ∃ q, keyD y = some q ∧ Φ ((valD ks q).getD .non) n2) Ψ) Ψ
def dictD : List D → (D → Prop) → Prop
  | [.dct ks], k => k (.dct ks)
  | _, _ => False
def boolD : List D → (D → Prop) → Prop
  | [.int i], k => k (.bl (i != 0))
  | [.bl b], k => k (.bl b)
  | [.non], k => k (.bl false)
  | _, _ => False
def sumD : List D → (D → Prop) → Prop
  | [.lst ds], k => ∃ ns : List Int, ds = ns.map D.int ∧ k (.int ns.sum)
  | _, _ => False
section
variable {X : Cx} {W : Wd} {E : XK}
theorem valD_get {K : PySem.W.Frag} {p : Addr} {M : Addr → Prop} {H : Hp} {q : Key} {vs : List (Key × V)} {ds : List (Key × D)} {w : V} {z : D} (r : RpK K p M H vs ds) (rz : Rp K p M H w z) : Rp K p M H ((valV vs q).getD w) ((valD ds q).getD z) := by
  obtain ⟨a, b⟩ := valD_rp q r
  cases e : valD ds q with
  | none => rw [b e]; exact rz
  | some d =>
    obtain ⟨v, g1, g2⟩ := a d e
    rw [g1]
    exact g2
theorem dx_get2 {o a b : Expr} {apos cpos : Pos} {to_ ta tb : TD} (hu : X.A.units + 1 < cLine) (ho : PE X o (lift W E to_)) (ha : PE X a (lift W E ta)) (hb : PE X b (lift W E tb)) (m : M2 X o "get" apos a b cpos) :
    PE X (.Call (.Attribute o "get" apos) [a, b] [] cpos) (lift W E (dGet2 to_ ta tb)) := pe_imp (pe_dget2 hu ho ha hb m) fun σ H Q ⟨ρ, n, Φ, Ψ, e, t, k, x⟩ =>
  ⟨ρ, n, _, Ψ, e, t, fun v H1 d n1 h1 e1 k1 r1 => by
    obtain ⟨ks, rfl, h1⟩ := h1
    obtain ⟨a', kv, rfl, h4, h5⟩ := dct_rp r1
    refine ⟨a', rfl, .inl ⟨kv, .inl h4⟩, ρ, n1, _, Ψ, e1, h1, fun y H2 c n2 h2 e2 k2 r2 => ⟨ρ, n2, _, Ψ, e2, h2, fun z H3 f n3 h3 e3 k3 r3 => ?_, x⟩, x⟩
    obtain ⟨q, hq, h3⟩ := h3
    have ey := key_rp r2 hq
    have ad : Rp W.K W.p (Mu W ρ σ) H3 (.ref a') (.dct ks) := (r1.em (e1.eb k2)).em (e2.eb k3)
    obtain ⟨a2, kv2, e2', h6, h7⟩ := dct_rp ad
    cases e2'
    exact ⟨valV kv2 q, .inl ⟨kv2, q, .inl h6, ey, rfl⟩, k _ H3 _ n3 h3 e3 ((k1.trans k2).trans k3) (valD_get h7 r3)⟩, x⟩
theorem dx_get1 {o a : Expr} {apos cpos : Pos} {to_ ta : TD} (hu : X.A.units + 1 < cLine) (ho : PE X o (lift W E to_)) (ha : PE X a (lift W E ta)) (m : M1 X o "get" apos a cpos) :
    PE X (.Call (.Attribute o "get" apos) [a] [] cpos) (lift W E (dGet1 to_ ta)) := pe_imp (pe_dget1 hu ho ha m) fun σ H Q ⟨ρ, n, Φ, Ψ, e, t, k, x⟩ =>
  ⟨ρ, n, _, Ψ, e, t, fun v H1 d n1 h1 e1 k1 r1 => by
    obtain ⟨ks, rfl, h1⟩ := h1
    obtain ⟨a', kv, rfl, h4, h5⟩ := dct_rp r1
    refine ⟨a', rfl, .inl ⟨kv, .inl h4⟩, ρ, n1, _, Ψ, e1, h1, fun y H2 c n2 h2 e2 k2 r2 => ?_, x⟩
    obtain ⟨q, hq, h3⟩ := h2
    have ey := key_rp r2 hq
    have ad : Rp W.K W.p (Mu W ρ σ) H2 (.ref a') (.dct ks) := r1.em (e1.eb k2)
    obtain ⟨a2, kv2, e2', h6, h7⟩ := dct_rp ad
    cases e2'
    exact ⟨valV kv2 q, .inl ⟨kv2, q, .inl h6, ey, rfl⟩, k _ H2 _ n2 h3 e2 (k1.trans k2) (valD_get h7 .non)⟩, x⟩
theorem cd_dict : CallR X (.type "dict") (cD W dictD) := by
  intro pins s σ H xs us Q I r ⟨M, ds, k, al, r1, f, q⟩
  unfold dictD at f
  split at f <;> first | exact f.elim | skip
  obtain ⟨v, rfl, r2⟩ := one_rp r1
  obtain ⟨a, kv, rfl, h1, h2⟩ := dct_rp r2
  exact call_dictD pins s σ H _ us Q I r ⟨a, kv, rfl, .inl h1, fun p np => q _ _ _ f (new_same np _) (.dct (al.fresh np) upd_same (h2.em (EM.same (new_same np _))))⟩
theorem cd_sum (hc : X.calm = true) : CallR X (.builtin "sum") (cD W sumD) := by
  intro pins s σ H xs us Q I r ⟨M, ds, k, al, r1, f, q⟩
  unfold sumD at f
  split at f <;> first | exact f.elim | skip
  rename_i ds
  obtain ⟨v, rfl, r2⟩ := one_rp r1
  obtain ⟨ns, rfl, f⟩ := f
  cases r2 with
  | lst n1 h1 l1 =>
    have intsOf : ∀ {vs : List V} {ns : List Int}, RpL W.K W.p M H vs (ns.map D.int) → vs = ns.map V.int := by
      intro vs ns
      induction ns generalizing vs with
      | nil => intro r; cases r; rfl
      | cons m ns ih =>
        intro r
        cases r with
        | cons h t => cases h; rw [ih t]; rfl
    rw [intsOf l1] at h1
    exact cr_sum hc pins s σ H _ us Q I r ⟨_, ns, rfl, SqL.of h1, q _ _ _ f (fun _ _ h => h) (.int _)⟩
theorem cd_bool : CallR X (.type "bool") (cD W boolD) := by
  intro pins s σ H xs us Q I r ⟨M, ds, k, al, r1, f, q⟩
  unfold boolD at f
  split at f <;> first | exact f.elim | skip
  · obtain ⟨v, rfl, r2⟩ := one_rp r1
    cases r2
    exact call_bool1 pins s σ H _ us Q I r (.inl ⟨_, rfl, q _ _ _ f (fun _ _ h => h) (.bl _)⟩)
  · obtain ⟨v, rfl, r2⟩ := one_rp r1
    cases r2
    exact call_bool1 pins s σ H _ us Q I r (.inr ⟨_, rfl, q _ _ _ f (fun _ _ h => h) (.bl _)⟩)
  · obtain ⟨v, rfl, r2⟩ := one_rp r1
    cases r2
    obtain ⟨u, rfl, ru⟩ := vals1 r
    cases ru
    exact call_bool_none ⟨.bl false, H, I, rfl, q _ _ _ f (fun _ _ h => h) (.bl _)⟩
theorem un_false {A : Value → Sem Value} : UnR X A (uN W E fun _ _ _ _ => False) := fun pins s σ H x v Q I rx ⟨_, _, _, _, _, _, _, _, f0, _⟩ => f0.elim
theorem hu1 {k : Nat} {A : Around} (hr : Room k A) : A.units + 1 < cLine := by have := hr.un; omega
end
/-- cls(*xs), cls at i -/
def dSV (c : Str) (i : Nat) (φ : FD) (a : TD) : TD := fun ρ n Φ Ψ => ρ[i]? = some (.d (.cl c)) ∧ dSt φ a ρ n Φ Ψ
end DL
namespace K15
open PySem PySem.Spec PyProof.Rows L2 Hx Gx DL
/-- a def's promise, with how it is called -/
def Prom (P : Program) (w : World) (K : PySem.W.Frag) (mg : Str → Option Value) (base : Heap) (k : Nat) (d : Dx) (ps : List Str) (sp : Sp) : Prop :=
  ∃ fd, Fd K d fd ∧ FnOk P w K mg base CX0 k (d.adr K) fd ps sp ∧ Binds K fd ps []
/-- all that was tracked is as it was, but for p -/
def But (p : Addr) (H H' : Hp) : Prop := ∀ b o, b ≠ p → H b = some o → H' b = some o
theorem int_list {xs : List V} {ns : List Int} (h : xs = ns.map V.int) (n : Nat) : xs.take n = (ns.take n).map V.int := by rw [h, List.map_take]
theorem cut_ints (ns : List Int) (hl : ns.length ≤ 63) (lo hi : Option Int) : ∃ ms : List Int, cutV (ns.map V.int) lo hi = ms.map V.int ∧ ms.length ≤ 63 := by
  unfold cutV
  refine ⟨_, by rw [← List.map_drop, ← List.map_take], ?_⟩
  rw [List.length_take, List.length_drop]
  omega
theorem dp_ints (K : PySem.W.Frag) (H : Hp) : ∀ ns : List Int, DpAll K H (ns.map V.int) (ns.map PyData.int)
  | [] => .nil
  | n :: ns => .cons (.int n) (dp_ints K H ns)
theorem shaped_ints : ∀ ns : List Int, SeqAt.shaped (.list (ns.map PyData.int)) = true := by
  intro ns
  have h1 : ∀ ns : List Int, PyData.canLayAll0 (ns.map PyData.int) = true := fun ns => by
    induction ns with
    | nil => rfl
    | cons n ns ih =>
      rw [List.map_cons]
      unfold PyData.canLayAll0
      rw [ih]
      rfl
  have h2 : ∀ ns : List Int, PyData.depthAll (ns.map PyData.int) = 0 := fun ns => by
    induction ns with
    | nil => rfl
    | cons n ns ih =>
      rw [List.map_cons]
      unfold PyData.depthAll
      rw [ih]
      rfl
  unfold SeqAt.shaped
  have h3 : PyData.depth (.list (ns.map PyData.int)) = 1 := by
    show PyData.depthAll (ns.map PyData.int) + 1 = 1
    rw [h2]
  have h4 : PyData.canLay0 (.list (ns.map PyData.int)) = true := h1 ns
  rw [h3, h4]
  rfl
theorem eqv_ints : ∀ ns : List Int, PyData.eqv (.list (ns.map PyData.int)) (.list []) = decide (ns = []) := by
  intro ns
  cases ns with
  | nil => rfl
  | cons n ns => rfl
/-- an item of a list of ints -/
theorem at_int {ns : List Int} {j : Int} (h0 : 0 ≤ j) (h1 : j < (ns.map V.int).length) : ∃ x, atI (ns.map V.int) j = some (.int x) := by
  obtain ⟨i, rfl⟩ : ∃ i : Nat, j = i := ⟨j.toNat, by omega⟩
  have hi : i < ns.length := by
    rw [List.length_map] at h1
    omega
  exact ⟨ns[i], atI_nat (by rw [List.getElem?_map, List.getElem?_eq_getElem hi]; rfl)⟩
theorem great_nn {cell : Int} (h : 10 ^ Int.toNat 18 ≤ if cell < 0 then -cell else cell) : 0 ≤ 2 * ((if cell < 0 then -cell else cell) - 10 ^ Int.toNat 18) + (if decide (cell < 0) = true then 1 else 0 : Int) := by
  have h2 : (0 : Int) ≤ (if decide (cell < 0) = true then 1 else 0 : Int) := by split <;> decide
  omega
theorem mix_ok {z a c1 c2 c3 : Int} (h1 : 0 ≤ z) (h2 : z < 2147483629) (h3 : 0 ≤ a) (h4 : a ≤ 100000) (h5 : 0 ≤ c1) (h6 : c1 ≤ 100000) (h7 : 0 ≤ c2) (h8 : c2 ≤ 100000) (h9 : 0 ≤ c3) (h10 : c3 ≤ 100000) :
    (z * (2 * a + c1) + c2 * a * a + c3).natAbs < 2 ^ 64 := by
  have q1 : z * (2 * a + c1) ≤ 2147483629 * 300000 := Int.mul_le_mul (by omega) (by omega) (by omega) (by decide)
  have q0 : 0 ≤ z * (2 * a + c1) := Int.mul_nonneg h1 (by omega)
  have p1 : c2 * a ≤ 100000 * 100000 := Int.mul_le_mul h8 h4 h3 (by decide)
  have p0 : 0 ≤ c2 * a := Int.mul_nonneg h7 h3
  have r1 : c2 * a * a ≤ (100000 * 100000) * 100000 := Int.mul_le_mul p1 h4 h3 (by decide)
  have r0 : 0 ≤ c2 * a * a := Int.mul_nonneg p0 h3
  omega
theorem lt200 {m : Int} (h0 : 0 < m) (h : m < 10 ^ 60) : m.natAbs < 2 ^ 200 := by
  have e : (10 : Int) ^ 60 < 2 ^ 200 := by decide
  omega
section
variable {P : Program} {w : World} {K : PySem.W.Frag} {mg : Str → Option Value} {base : Heap}
def spPen (K : PySem.W.Frag) : Sp := fun vs H Q _ => ∃ (a : Addr) (ns : List Int), vs = [.ref a] ∧ SqL K H a (ns.map V.int) ∧ ns.length ≤ 63 ∧ ∀ (H' : Hp) (p q : Addr), Same H H' → H p = none → PenAt H' p q 0 → Q (.ref p) H'
theorem sc_pen : FnScope ["_law_script"] ["_law_script"] (defScope s__law_pen) := ⟨rfl, rfl, rfl, by decide +kernel, rfl, by decide +kernel, by decide +kernel⟩
theorem p_pen (T : Tx K mg) : Prom P w K mg base 1 d__law_pen ["_law_script"] (spPen K) := by
  obtain ⟨fd, F⟩ := f__law_pen T
  refine ⟨fd, F, F.ok sc_pen (fun vs H Q E h => ?_) (fun cdv A outer s H vs Q E hr h => ?_), F.bindsN fun _ _ _ _ _ _ us hl => match us, hl with | [_], _ => rfl⟩
  · obtain ⟨a, ns, rfl, _⟩ := h
    rfl
  · obtain ⟨a, ns, rfl, hs, hl, k⟩ := h
    refine ⟨_, pss_one (ps_ret (pe_lst (pa_cons (pe_callTy call_list_of (by rfl) (n_list T) (by decide +kernel) (pa_cons (pe_slice sl_list (pv 0) po_none (po_some pe_int)) pa_nil)) (pa_cons pe_int (pa_cons pe_int pa_nil))))), ?_⟩
    refine ⟨_, rfl, ?_⟩
    refine ⟨63, rfl, a, _, rfl, hs, fun c hc => ⟨c, _, rfl, .inl (SqL.of upd_same), fun l hl2 => ⟨(by show 3 ≤ sizeLine; decide), fun p hp => ?_⟩⟩⟩
    have hcl : c ≠ l := ne_of_none upd_same hl2
    have hcp : c ≠ p := ne_of_none (by rw [upd_ne hcl]; exact upd_same) hp
    have hlp : l ≠ p := ne_of_none upd_same hp
    have h1 : H p = none := by
      rw [upd_ne hlp.symm, upd_ne hcp.symm] at hp
      exact hp
    obtain ⟨ms, em, hm⟩ := cut_ints ns hl none (some 63)
    refine k _ p l (fun b o e => ?_) h1 ⟨ms, 0, 0, upd_same, hlp, by rw [upd_ne hlp, upd_same, ← em], hm, Int.le_refl 0, Int.le_refl 0, Int.le_refl 0⟩
    have b1 := ne_of_none e hc
    have b2 : b ≠ l := ne_of_none (by rw [upd_ne b1]; exact e) hl2
    have b3 : b ≠ p := ne_of_none e h1
    rw [upd_ne b3, upd_ne b2, upd_ne b1]
    exact e
theorem hu64 {k : Nat} {A : Around} (hr : Room k A) : A.units + 64 < cLine := by have := hr.un; omega
/-- what a draw promises: a number below many; the pen has gone on by one -/
def spDraw : Sp := fun vs H Q _ => ∃ (p c : Addr) (n : Nat) (m : Int), vs = [.ref p, .int m] ∧ PenAt H p c n ∧ n ≤ 100000 ∧ 0 < m ∧ m < 10 ^ 60 ∧
  ∀ (H' : Hp) (d : Int), But p H H' → PenAt H' p c (n + 1) → 0 ≤ d → d < m → Q (.int d) H'
theorem sc_draw : FnScope ["_law_pen_here", "_law_many", "_law_digit", "_law_at", "_law_cell", "_law_great", "_law_mixed"] ["_law_pen_here", "_law_many"] (defScope s__law_draw) := ⟨rfl, rfl, rfl, by decide +kernel, rfl, by decide +kernel, by decide +kernel⟩
theorem p_draw (T : Tx K mg) : Prom P w K mg base 1 d__law_draw ["_law_pen_here", "_law_many"] spDraw := by
  obtain ⟨fd, F⟩ := f__law_draw T
  refine ⟨fd, F, F.ok sc_draw (fun vs H Q E h => ?_) (fun cdv A outer s H vs Q E hr h => ?_), F.bindsN fun _ _ _ _ _ _ us hl => match us, hl with | [_, _], _ => rfl⟩
  · obtain ⟨p, c, n, m, rfl, _⟩ := h
    rfl
  · obtain ⟨p, c, n, m, rfl, ⟨ns, a, r, hp, hcp, hc, hns, ha0, han, hr0⟩, hn, hm, hm2, k⟩ := h
    refine ⟨_, (pss_cons (ps_if (pt_cmpR op_gt (pe_ix ix_list (pv 0) pe_int (fun _ _ => rfl)) pe_int (nomark _)) (pss_cons (ps_set (i := 2) sc_draw.nd rfl (Or.inl rfl) (pe_op op_mod (pe_callTy call_int1 (by rfl) (n_int T) (by decide +kernel) (pa_cons (pe_ix ix_list (pv 0) pe_int (fun _ _ => rfl)) pa_nil)) (pv 1)))
      (pss_cons (ps_asg (pe_op op_fdivW (pe_callTy call_int1 (by rfl) (n_int T) (by decide +kernel) (pa_cons (pe_ix ix_list (pv 0) pe_int (fun _ _ => rfl)) pa_nil)) (pv 1)) (pg_sub (pv 0) pe_int set_list))
      (pss_one (ps_ret (pv 2))))) pss_nil)
      (pss_cons (ps_set (i := 3) sc_draw.nd rfl (Or.inl rfl) (pe_ix ix_list (pv 0) pe_int (fun _ _ => rfl)))
      (pss_cons (ps_asg (pe_op op_add (pv 3) pe_int) (pg_sub (pv 0) pe_int set_list))
      (pss_cons (ps_set (i := 4) sc_draw.nd rfl (Or.inl rfl) (pe_op op_add (pe_op op_mul pe_int (pv 3)) pe_int))
      (pss_cons (ps_if (pt_cmpR (op_neD (hu64 hr)) (pe_ix ix_list (pv 0) pe_int (fun _ _ => rfl)) (pe_lst pa_nil) (nomark _)) (pss_one (ps_set (i := 4) sc_draw.nd rfl (Or.inl rfl) (pe_ix ix_list (pe_ix ix_list (pv 0) pe_int (fun _ _ => rfl)) (pe_op op_mod (pe_callTy call_int1 (by rfl) (n_int T) (by decide +kernel) (pa_cons (pv 3) pa_nil)) (pe_callB call_len_seq (by rfl) (n_len T) (by decide +kernel) (pa_cons (pe_ix ix_list (pv 0) pe_int (fun _ _ => rfl)) pa_nil))) (fun _ _ => rfl)))) pss_nil)
      (pss_cons (ps_if (PW.pt (pw_and (pt_cmpR op_lt (pv 3) (pe_callB call_len_seq (by rfl) (n_len T) (by decide +kernel) (pa_cons (pe_ix ix_list (pv 0) pe_int (fun _ _ => rfl)) pa_nil)) (nomark _)) (pw_and1 (pt_cmpR op_ge (pe_callB call_abs (by rfl) (n_abs T) (by decide +kernel) (pa_cons (pv 4) pa_nil)) (pe_op op_pow pe_int pe_int) (nomark _))))) (pss_cons (ps_set (i := 5) sc_draw.nd rfl (Or.inl rfl) (pe_op op_add (pe_op op_mul pe_int (pe_op op_sub (pe_callB call_abs (by rfl) (n_abs T) (by decide +kernel) (pa_cons (pv 4) pa_nil)) (pe_op op_pow pe_int pe_int))) (pe_callTy call_int1 (by rfl) (n_int T) (by decide +kernel) (pa_cons (pe_cmpR op_lt (pv 4) pe_int (nomark _)) pa_nil))))
      (pss_cons (ps_asg (pe_op op_fdivW (pe_callTy call_int1 (by rfl) (n_int T) (by decide +kernel) (pa_cons (pv 5) pa_nil)) (pv 1)) (pg_sub (pv 0) pe_int set_list))
      (pss_one (ps_ret (pe_op op_mod (pe_callTy call_int1 (by rfl) (n_int T) (by decide +kernel) (pa_cons (pv 5) pa_nil)) (pv 1)))))) pss_nil)
      (pss_cons (ps_set (i := 6) sc_draw.nd rfl (Or.inl rfl) (pe_op op_mod (pe_callTy call_int1 (by rfl) (n_int T) (by decide +kernel) (pa_cons (pe_op op_pow (pe_op op_add (pe_op op_add (pe_op op_mod (pe_callTy call_int1 (by rfl) (n_int T) (by decide +kernel) (pa_cons (pv 4) pa_nil)) pe_int) (pe_op op_mul pe_int (pv 3))) pe_int) pe_int) pa_nil)) pe_int))
      (pss_cons (ps_set (i := 6) sc_draw.nd rfl (Or.inl rfl) (pe_op op_mod (pe_callTy call_int1 (by rfl) (n_int T) (by decide +kernel) (pa_cons (pe_op op_pow (pe_op op_add (pe_op op_add (pe_op op_mul (pv 6) (pe_op op_add (pe_op op_mul pe_int (pv 3)) pe_int)) (pe_op op_mul (pe_op op_mul pe_int (pv 3)) (pv 3))) pe_int) pe_int) pa_nil)) pe_int))
      (pss_one (ps_ret (pe_op op_mod (pe_callTy call_int1 (by rfl) (n_int T) (by decide +kernel) (pa_cons (pe_op op_fdivW (pv 6) pe_int) pa_nil)) (pv 1)))))))))))), ?_⟩
    -- pen[2] > 0
    refine ⟨_, rfl, p, _, 2, _, rfl, rfl, SqL.of hp, atI_nat (j := 2) rfl, _, _, rfl, rfl, _, rfl, ?_⟩
    refine ite2 (fun h => ?_) (fun h => ?_)
    · have hr : 0 < r := of_decide_eq_true h
      have b1 := Int.emod_nonneg r (by omega : m ≠ 0)
      have b2 := Int.emod_lt_of_pos r hm
      refine ⟨_, rfl, p, _, 2, _, rfl, rfl, SqL.of hp, atI_nat (j := 2) rfl, .inl ⟨_, rfl, _, rfl, _, _, rfl, rfl, hm, ?_⟩⟩
      refine ⟨_, rfl, p, _, 2, _, rfl, rfl, SqL.of hp, atI_nat (j := 2) rfl, .inl ⟨_, rfl, _, rfl, _, _, rfl, rfl, wide_div hm (lt200 hm hm2) (by decide) (by decide), ?_⟩⟩
      refine ⟨_, rfl, p, _, 2, 2, rfl, rfl, hp, rfl, ?_⟩
      refine ⟨_, rfl, ?_⟩
      refine k _ _ (fun b o e1 e2 => by rw [upd_ne e1]; exact e2) ⟨ns, a, r / m, upd_same, hcp, by rw [upd_ne hcp]; exact hc, hns, ha0, by omega, Int.ediv_nonneg hr0 (by omega)⟩ b1 b2
    · -- at = pen[1]; pen[1] = at + 1; cell = ..
      refine ⟨_, rfl, p, _, 1, _, rfl, rfl, SqL.of hp, atI_nat (j := 1) rfl, ?_⟩
      refine ⟨_, rfl, _, _, rfl, rfl, _, rfl, p, _, 1, 1, rfl, rfl, hp, rfl, ?_⟩
      refine ⟨_, rfl, _, _, rfl, rfl, .inl ⟨by decide, by decide⟩, _, _, rfl, rfl, ?_⟩
      have hp1 : (upd H p (.lst ([V.ref c, .int a, .int r].set 1 (.int (a + 1))))) p = some (.lst [.ref c, .int (a + 1), .int r]) := upd_same
      have hc1 : (upd H p (.lst ([V.ref c, .int a, .int r].set 1 (.int (a + 1))))) c = some (.lst (ns.map V.int)) := by rw [upd_ne hcp]; exact hc
      have but1 : But p H (upd H p (.lst ([V.ref c, .int a, .int r].set 1 (.int (a + 1))))) := fun b o e1 e2 => by rw [upd_ne e1]; exact e2
      generalize upd H p (.lst ([V.ref c, .int a, .int r].set 1 (.int (a + 1)))) = H1 at hp1 hc1 but1
      -- pen[0] != []
      refine ⟨_, rfl, p, _, 0, _, rfl, rfl, SqL.of hp1, atI_nat (j := 0) rfl, ⟨by decide, fun l hl => ?_⟩⟩
      have hpl : p ≠ l := ne_of_none hp1 hl
      have hcl : c ≠ l := ne_of_none hc1 hl
      have hp2 : (upd H1 l (.lst [])) p = some (.lst [.ref c, .int (a + 1), .int r]) := by rw [upd_ne hpl]; exact hp1
      have hc2 : (upd H1 l (.lst [])) c = some (.lst (ns.map V.int)) := by rw [upd_ne hcl]; exact hc1
      have but2 : But p H (upd H1 l (.lst [])) := fun b o e1 e2 => by rw [upd_ne (ne_of_none (but1 b o e1 e2) hl)]; exact but1 b o e1 e2
      have hl2 : (upd H1 l (.lst [])) l = some (.lst []) := upd_same
      refine ⟨.list (ns.map .int), .list [], .lst (SqL.of hc2) (dp_ints K _ ns), .lst (SqL.of hl2) .nil, shaped_ints ns, by decide, _, rfl, ?_⟩
      generalize upd H1 l (.lst []) = H2 at hp2 hc2 but2 hl2
      rw [eqv_ints]
      refine ite2 (fun hne => ?_) (fun hne => ?_)
      · have hn0 : 0 < (ns.map V.int).length := by
          cases ns with
          | nil => cases hne
          | cons x xs => exact Nat.succ_pos _
        have c1 := Int.emod_nonneg a (by omega : ((ns.map V.int).length : Int) ≠ 0)
        have c2 := Int.emod_lt_of_pos a (by omega : 0 < ((ns.map V.int).length : Int))
        obtain ⟨x, hx⟩ := at_int c1 c2
        refine ⟨_, rfl, p, _, 0, _, rfl, rfl, SqL.of hp2, atI_nat (j := 0) rfl, _, rfl, .inl ⟨_, rfl, _, rfl, p, _, 0, _, rfl, rfl, SqL.of hp2, atI_nat (j := 0) rfl, c, _, rfl, .inl (SqL.of hc2), ?_⟩⟩
        refine ⟨_, _, rfl, rfl, (by omega), c, _, _, _, rfl, rfl, SqL.of hc2, hx, ?_⟩
        generalize x = cell
        refine ⟨_, rfl, _, rfl, p, _, 0, _, rfl, rfl, SqL.of hp2, atI_nat (j := 0) rfl, c, _, rfl, .inl (SqL.of hc2), _, _, rfl, rfl, _, rfl, ?_⟩
        refine ite2 (fun hA => ?_) (fun hA => ?_)
        · refine ⟨_, rfl, _, rfl, _, _, rfl, rfl, ⟨by decide, by decide, by decide⟩, _, _, rfl, rfl, _, rfl, ?_⟩
          refine ite2 (fun hB => ?_) (fun hB => ?_)
          · have hB2 := of_decide_eq_true hB
            refine ⟨_, rfl, _, rfl, _, _, rfl, rfl, ⟨by decide, by decide, by decide⟩, _, _, rfl, rfl, _, _, rfl, rfl, .inl ⟨by decide, by decide⟩, _, rfl, _, _, rfl, rfl, .inr ⟨_, rfl, _, _, rfl, rfl, ?_⟩⟩
            refine ⟨_, rfl, .inl ⟨_, rfl, _, rfl, _, _, rfl, rfl, wide_div hm (lt200 hm hm2) (by decide) (by decide), _, rfl, p, _, 2, 2, rfl, rfl, hp2, rfl, ?_⟩⟩
            refine ⟨_, rfl, .inl ⟨_, rfl, _, rfl, _, _, rfl, rfl, hm, ?_⟩⟩
            exact k _ _ (fun b o e1 e2 => by rw [upd_ne e1]; exact but2 b o e1 e2) ⟨ns, a + 1, _, upd_same, hcp, by rw [upd_ne hcp]; exact hc2, hns, by omega, by omega, Int.ediv_nonneg (great_nn hB2) (by omega)⟩ (Int.emod_nonneg _ (by omega)) (Int.emod_lt_of_pos _ hm)
          · have e1 := Int.emod_nonneg cell (by decide : (2147483549 : Int) ≠ 0)
            have e2 := Int.emod_lt_of_pos cell (by decide : (0 : Int) < 2147483549)
            refine ⟨_, rfl, .inl ⟨_, rfl, _, _, rfl, rfl, (by show (0 : Int) < 2147483549; decide), _, rfl, _, _, rfl, rfl, .inl ⟨by decide, by decide⟩, _, _, rfl, rfl, _, _, rfl, rfl, _, _, rfl, rfl, ⟨by decide, by decide, by omega⟩, .inl ⟨_, rfl, _, _, rfl, rfl, (by show (0 : Int) < 2147483629; decide), ?_⟩⟩⟩
            have e3 := Int.emod_nonneg ((cell % 2147483549 + 53149 * a + 283) ^ Int.toNat 5) (by decide : (2147483629 : Int) ≠ 0)
            have e4 := Int.emod_lt_of_pos ((cell % 2147483549 + 53149 * a + 283) ^ Int.toNat 5) (by decide : (0 : Int) < 2147483629)
            dsimp only
            generalize (cell % 2147483549 + 53149 * a + 283) ^ Int.toNat 5 % 2147483629 = z at e3 e4
            refine ⟨_, rfl, _, rfl, _, _, rfl, rfl, .inl ⟨by decide, by decide⟩, _, _, rfl, rfl, _, _, rfl, rfl, .inl ⟨by omega, by omega⟩, _, rfl, _, _, rfl, rfl, .inl ⟨by decide, by decide⟩, _, rfl, _, _, rfl, rfl, .inl ⟨by omega, by omega⟩, _, _, rfl, rfl, _, _, rfl, rfl, _, _, rfl, rfl, ⟨by decide, by decide, mix_ok e3 e4 ha0 (by omega) (by decide) (by decide) (by decide) (by decide) (by decide) (by decide)⟩, .inl ⟨_, rfl, _, _, rfl, rfl, (by show (0 : Int) < 2147483587; decide), ?_⟩⟩
            refine ⟨_, rfl, _, _, rfl, rfl, wide_div (by decide) (by decide : (32 : Int).natAbs < 2 ^ 10) (by decide) (by decide), .inl ⟨_, rfl, _, rfl, _, _, rfl, rfl, hm, ?_⟩⟩
            exact k _ _ but2 ⟨ns, a + 1, r, hp2, hcp, hc2, hns, by omega, by omega, hr0⟩ (Int.emod_nonneg _ (by omega)) (Int.emod_lt_of_pos _ hm)
        · have e1 := Int.emod_nonneg cell (by decide : (2147483549 : Int) ≠ 0)
          have e2 := Int.emod_lt_of_pos cell (by decide : (0 : Int) < 2147483549)
          refine ⟨_, rfl, .inl ⟨_, rfl, _, _, rfl, rfl, (by show (0 : Int) < 2147483549; decide), _, rfl, _, _, rfl, rfl, .inl ⟨by decide, by decide⟩, _, _, rfl, rfl, _, _, rfl, rfl, _, _, rfl, rfl, ⟨by decide, by decide, by omega⟩, .inl ⟨_, rfl, _, _, rfl, rfl, (by show (0 : Int) < 2147483629; decide), ?_⟩⟩⟩
          have e3 := Int.emod_nonneg ((cell % 2147483549 + 53149 * a + 283) ^ Int.toNat 5) (by decide : (2147483629 : Int) ≠ 0)
          have e4 := Int.emod_lt_of_pos ((cell % 2147483549 + 53149 * a + 283) ^ Int.toNat 5) (by decide : (0 : Int) < 2147483629)
          dsimp only
          generalize (cell % 2147483549 + 53149 * a + 283) ^ Int.toNat 5 % 2147483629 = z at e3 e4
          refine ⟨_, rfl, _, rfl, _, _, rfl, rfl, .inl ⟨by decide, by decide⟩, _, _, rfl, rfl, _, _, rfl, rfl, .inl ⟨by omega, by omega⟩, _, rfl, _, _, rfl, rfl, .inl ⟨by decide, by decide⟩, _, rfl, _, _, rfl, rfl, .inl ⟨by omega, by omega⟩, _, _, rfl, rfl, _, _, rfl, rfl, _, _, rfl, rfl, ⟨by decide, by decide, mix_ok e3 e4 ha0 (by omega) (by decide) (by decide) (by decide) (by decide) (by decide) (by decide)⟩, .inl ⟨_, rfl, _, _, rfl, rfl, (by show (0 : Int) < 2147483587; decide), ?_⟩⟩
          refine ⟨_, rfl, _, _, rfl, rfl, wide_div (by decide) (by decide : (32 : Int).natAbs < 2 ^ 10) (by decide) (by decide), .inl ⟨_, rfl, _, rfl, _, _, rfl, rfl, hm, ?_⟩⟩
          exact k _ _ but2 ⟨ns, a + 1, r, hp2, hcp, hc2, hns, by omega, by omega, hr0⟩ (Int.emod_nonneg _ (by omega)) (Int.emod_lt_of_pos _ hm)

      · dsimp only
        generalize 41543 * a + 389 = cell
        refine ⟨_, rfl, _, rfl, p, _, 0, _, rfl, rfl, SqL.of hp2, atI_nat (j := 0) rfl, c, _, rfl, .inl (SqL.of hc2), _, _, rfl, rfl, _, rfl, ?_⟩
        refine ite2 (fun hA => ?_) (fun hA => ?_)
        · refine ⟨_, rfl, _, rfl, _, _, rfl, rfl, ⟨by decide, by decide, by decide⟩, _, _, rfl, rfl, _, rfl, ?_⟩
          refine ite2 (fun hB => ?_) (fun hB => ?_)
          · have hB2 := of_decide_eq_true hB
            refine ⟨_, rfl, _, rfl, _, _, rfl, rfl, ⟨by decide, by decide, by decide⟩, _, _, rfl, rfl, _, _, rfl, rfl, .inl ⟨by decide, by decide⟩, _, rfl, _, _, rfl, rfl, .inr ⟨_, rfl, _, _, rfl, rfl, ?_⟩⟩
            refine ⟨_, rfl, .inl ⟨_, rfl, _, rfl, _, _, rfl, rfl, wide_div hm (lt200 hm hm2) (by decide) (by decide), _, rfl, p, _, 2, 2, rfl, rfl, hp2, rfl, ?_⟩⟩
            refine ⟨_, rfl, .inl ⟨_, rfl, _, rfl, _, _, rfl, rfl, hm, ?_⟩⟩
            exact k _ _ (fun b o e1 e2 => by rw [upd_ne e1]; exact but2 b o e1 e2) ⟨ns, a + 1, _, upd_same, hcp, by rw [upd_ne hcp]; exact hc2, hns, by omega, by omega, Int.ediv_nonneg (great_nn hB2) (by omega)⟩ (Int.emod_nonneg _ (by omega)) (Int.emod_lt_of_pos _ hm)
          · have e1 := Int.emod_nonneg cell (by decide : (2147483549 : Int) ≠ 0)
            have e2 := Int.emod_lt_of_pos cell (by decide : (0 : Int) < 2147483549)
            refine ⟨_, rfl, .inl ⟨_, rfl, _, _, rfl, rfl, (by show (0 : Int) < 2147483549; decide), _, rfl, _, _, rfl, rfl, .inl ⟨by decide, by decide⟩, _, _, rfl, rfl, _, _, rfl, rfl, _, _, rfl, rfl, ⟨by decide, by decide, by omega⟩, .inl ⟨_, rfl, _, _, rfl, rfl, (by show (0 : Int) < 2147483629; decide), ?_⟩⟩⟩
            have e3 := Int.emod_nonneg ((cell % 2147483549 + 53149 * a + 283) ^ Int.toNat 5) (by decide : (2147483629 : Int) ≠ 0)
            have e4 := Int.emod_lt_of_pos ((cell % 2147483549 + 53149 * a + 283) ^ Int.toNat 5) (by decide : (0 : Int) < 2147483629)
            dsimp only
            generalize (cell % 2147483549 + 53149 * a + 283) ^ Int.toNat 5 % 2147483629 = z at e3 e4
            refine ⟨_, rfl, _, rfl, _, _, rfl, rfl, .inl ⟨by decide, by decide⟩, _, _, rfl, rfl, _, _, rfl, rfl, .inl ⟨by omega, by omega⟩, _, rfl, _, _, rfl, rfl, .inl ⟨by decide, by decide⟩, _, rfl, _, _, rfl, rfl, .inl ⟨by omega, by omega⟩, _, _, rfl, rfl, _, _, rfl, rfl, _, _, rfl, rfl, ⟨by decide, by decide, mix_ok e3 e4 ha0 (by omega) (by decide) (by decide) (by decide) (by decide) (by decide) (by decide)⟩, .inl ⟨_, rfl, _, _, rfl, rfl, (by show (0 : Int) < 2147483587; decide), ?_⟩⟩
            refine ⟨_, rfl, _, _, rfl, rfl, wide_div (by decide) (by decide : (32 : Int).natAbs < 2 ^ 10) (by decide) (by decide), .inl ⟨_, rfl, _, rfl, _, _, rfl, rfl, hm, ?_⟩⟩
            exact k _ _ but2 ⟨ns, a + 1, r, hp2, hcp, hc2, hns, by omega, by omega, hr0⟩ (Int.emod_nonneg _ (by omega)) (Int.emod_lt_of_pos _ hm)
        · have e1 := Int.emod_nonneg cell (by decide : (2147483549 : Int) ≠ 0)
          have e2 := Int.emod_lt_of_pos cell (by decide : (0 : Int) < 2147483549)
          refine ⟨_, rfl, .inl ⟨_, rfl, _, _, rfl, rfl, (by show (0 : Int) < 2147483549; decide), _, rfl, _, _, rfl, rfl, .inl ⟨by decide, by decide⟩, _, _, rfl, rfl, _, _, rfl, rfl, _, _, rfl, rfl, ⟨by decide, by decide, by omega⟩, .inl ⟨_, rfl, _, _, rfl, rfl, (by show (0 : Int) < 2147483629; decide), ?_⟩⟩⟩
          have e3 := Int.emod_nonneg ((cell % 2147483549 + 53149 * a + 283) ^ Int.toNat 5) (by decide : (2147483629 : Int) ≠ 0)
          have e4 := Int.emod_lt_of_pos ((cell % 2147483549 + 53149 * a + 283) ^ Int.toNat 5) (by decide : (0 : Int) < 2147483629)
          dsimp only
          generalize (cell % 2147483549 + 53149 * a + 283) ^ Int.toNat 5 % 2147483629 = z at e3 e4
          refine ⟨_, rfl, _, rfl, _, _, rfl, rfl, .inl ⟨by decide, by decide⟩, _, _, rfl, rfl, _, _, rfl, rfl, .inl ⟨by omega, by omega⟩, _, rfl, _, _, rfl, rfl, .inl ⟨by decide, by decide⟩, _, rfl, _, _, rfl, rfl, .inl ⟨by omega, by omega⟩, _, _, rfl, rfl, _, _, rfl, rfl, _, _, rfl, rfl, ⟨by decide, by decide, mix_ok e3 e4 ha0 (by omega) (by decide) (by decide) (by decide) (by decide) (by decide) (by decide)⟩, .inl ⟨_, rfl, _, _, rfl, rfl, (by show (0 : Int) < 2147483587; decide), ?_⟩⟩
          refine ⟨_, rfl, _, _, rfl, rfl, wide_div (by decide) (by decide : (32 : Int).natAbs < 2 ^ 10) (by decide) (by decide), .inl ⟨_, rfl, _, rfl, _, _, rfl, rfl, hm, ?_⟩⟩
          exact k _ _ but2 ⟨ns, a + 1, r, hp2, hcp, hc2, hns, by omega, by omega, hr0⟩ (Int.emod_nonneg _ (by omega)) (Int.emod_lt_of_pos _ hm)

theorem tabs_but {ts : List (Addr × Str)} {p : Addr} {xs : List V} {H H' : Hp} (t : LamX.Tabs ts H) (hp : H p = some (.lst xs)) (b : But p H H') : LamX.Tabs ts H' := fun pq h => by
  obtain ⟨ps, g1, g2, g3⟩ := t pq h
  refine ⟨ps, b _ _ (fun z => by rw [z, hp] at g1; cases g1) g1, g2, fun pos cv hc => ?_⟩
  obtain ⟨d, e1, e2⟩ := g3 pos cv hc
  exact ⟨d, e1, b _ _ (fun z => by rw [z] at e2; unfold LamX.CodeO at e2; rw [hp] at e2; cases e2) e2⟩
theorem q__law_draw {ts : List (Addr × Str)} (T : Tx K mg) : ∃ fd, Fd K d__law_draw fd ∧ FnOk P w K mg base (L2.CX P w) 1 (d__law_draw.adr K) fd ["_law_pen_here", "_law_many"] (spD K ts 2 drawD) ∧ Binds K fd ["_law_pen_here", "_law_many"] [] := by
  obtain ⟨fd, F, G, B⟩ := p_draw (P := P) (w := w) (base := base) T
  have key : ∀ vs H Q E, spD K ts 2 drawD vs H Q E → spDraw vs H Q E := fun vs H Q E ⟨p, q, M, ds, n, Φ, Ψ, h1, h2, h3, h4, h5, h6, h7, ⟨m, e, g1, g2, g3, g4⟩, h9, h10⟩ => by
    subst e
    cases h5 with
    | cons r1 r2 => cases r2 with
      | cons r2 r3 =>
        cases r3
        cases r1
        cases r2
        obtain ⟨xs, hx⟩ := h6.at_
        exact ⟨p, q, n, m, rfl, h6, g1, g2, g3, fun H' d b pa d0 d1 => h9 _ H' _ _ (g4 d d0 d1) (fun c o nc hc _ => b c o nc hc) pa (tabs_but h7 hx b) (.int d)⟩
  exact ⟨fd, F, FnOk.cx ⟨fun vs H Q E h => G.len vs H Q E (key _ _ _ _ h), fun A outer s H args us vs Q E hr he hb hv hs => G.run A outer s H args us vs Q E hr he hb hv (key _ _ _ _ hs)⟩, B⟩
end
end K15
namespace K15
open PySem PySem.Spec PyProof.Rows L2 Hx Gx KX LamX DL

def csK (K : PySem.W.Frag) : List (Addr × Addr) := [He.cT K ("_law_right", none), He.cT K ("law", none)]
def tsK (K : PySem.W.Frag) : List (Addr × Str) := [((He.cT K ("_law_right", none)).2, "_law_right" ++ ".<locals>." ++ "<lambda>"), ((He.cT K ("law", none)).2, "law" ++ ".<locals>." ++ "<lambda>")]
section
variable {P : Program} {w : World} {K : PySem.W.Frag} {mg : Str → Option Value} {base : Heap} {ts : List (Addr × Str)}
theorem jc_Ward (T : Tx K mg) : ClsJ K (He.ga K "Ward") := ⟨c_Ward T, (ci_Ward T).ca, (ci_Ward T).cn, (ci_Ward T).ct, (ci_Ward T).cm⟩
theorem ri_Ward (T : Tx K mg) : RightOk K ["Ward"] (He.ga K "Ward") := ⟨fun c hc => ⟨by simp only [List.mem_cons, List.not_mem_nil, or_false] at hc; rcases hc with rfl <;> first | exact jc_Ward T, (rightB_ok (rb_Ward T)).1 c hc⟩, (rightB_ok (rb_Ward T)).2⟩
theorem hu__law_right (T : Tx K mg) : ∀ p ∈ tsK K, p.1 = (He.cT K ("_law_right", none)).2 → p.2 = ("_law_right" ++ ".<locals>." ++ "<lambda>" : Str) := fun p hp h => by
  simp only [tsK, List.mem_cons, List.not_mem_nil, or_false] at hp
  rcases hp with rfl | rfl
  · rfl
  · exact absurd h (ct_law__law_right T)
theorem hu_law (T : Tx K mg) : ∀ p ∈ tsK K, p.1 = (He.cT K ("law", none)).2 → p.2 = ("law" ++ ".<locals>." ++ "<lambda>" : Str) := fun p hp h => by
  simp only [tsK, List.mem_cons, List.not_mem_nil, or_false] at hp
  rcases hp with rfl | rfl
  · exact absurd h (ct__law_right_law T)
  · rfl
theorem qi_BadText (T : Tx K mg) : ∃ fd, Fd K d_BadText_init fd ∧ FnOk P w K mg base (L2.CX P w) 1 (d_BadText_init.adr K) fd ["self", "line", "word"] (spErr K "BadText" ["line", "word"]) ∧ Binds K fd ["self", "line", "word"] [] := by
  obtain ⟨fd, F⟩ := f_BadText_init T
  exact ⟨fd, F, err2_ok (er_BadText T).o (xn_BadText_line T) (xn_BadText_word T) F ⟨rfl, rfl, rfl, by decide +kernel, rfl, by decide +kernel, by decide +kernel⟩ (.inl rfl) (.inl rfl) (.inl rfl) (by decide) (by decide) (by decide) (by decide), F.bindsN fun _ _ _ _ _ _ us hl => match us, hl with | [_, _, _], _ => rfl⟩
theorem qi_BadWard (T : Tx K mg) : ∃ fd, Fd K d_BadWard_init fd ∧ FnOk P w K mg base (L2.CX P w) 1 (d_BadWard_init.adr K) fd ["self", "part"] (spErr K "BadWard" ["part"]) ∧ Binds K fd ["self", "part"] [] := by
  obtain ⟨fd, F⟩ := f_BadWard_init T
  exact ⟨fd, F, err1_ok (er_BadWard T).o (xn_BadWard_part T) F ⟨rfl, rfl, rfl, by decide +kernel, rfl, by decide +kernel, by decide +kernel⟩ (.inl rfl) (.inl rfl) (by decide) (by decide), F.bindsN fun _ _ _ _ _ _ us hl => match us, hl with | [_, _], _ => rfl⟩
theorem qi_TooMany (T : Tx K mg) : ∃ fd, Fd K d_TooMany_init fd ∧ FnOk P w K mg base (L2.CX P w) 1 (d_TooMany_init.adr K) fd ["self", "what", "most"] (spErr K "TooMany" ["what", "most"]) ∧ Binds K fd ["self", "what", "most"] [] := by
  obtain ⟨fd, F⟩ := f_TooMany_init T
  exact ⟨fd, F, err2_ok (er_TooMany T).o (xn_TooMany_what T) (xn_TooMany_most T) F ⟨rfl, rfl, rfl, by decide +kernel, rfl, by decide +kernel, by decide +kernel⟩ (.inl rfl) (.inl rfl) (.inl rfl) (by decide) (by decide) (by decide) (by decide), F.bindsN fun _ _ _ _ _ _ us hl => match us, hl with | [_, _, _], _ => rfl⟩
theorem it_tbl {X : Cx} (T : Tx X.K X.mg) {c f : Str} (h : List.lookup c ([("Ward", "_corners")] : List (Str × Str)) = some f) : ItDef X 1 c f := by
  simp only [List.lookup_cons, List.lookup_nil] at h
  split at h
  · rename_i e
    rw [beq_iff_eq] at e
    subst e
    cases h
    obtain ⟨fd, F⟩ := f_Ward_iter T
    exact it_def (m_Ward_iter T) (c_Ward T) (na_Ward__corners T) F ⟨rfl, rfl, rfl, by decide +kernel, rfl, by decide +kernel, by decide +kernel⟩ (.inl rfl) rfl (fun _ => rfl) (n_iter T) (F.bindsN fun _ _ _ _ _ _ us hl => match us, hl with | [_], _ => rfl)
  cases h
def w_Ward_eq : TSD := (sRet (dAndV (isiD (isC [("Ward", true)] []) (dVar 1)) (dOp2 eqD (dUnN (attD ["Ward"] [] [] "_corners") (dVar 0)) (dUnN (attD ["Ward"] [] [] "_corners") (dVar 1)))))

def φ_Ward_eq : FD := fnD 2 w_Ward_eq

theorem sc_Ward_eq : FnScope ["self", "other"] ["self", "other"] (defScope s_Ward_eq) := ⟨rfl, rfl, rfl, by decide +kernel, rfl, by decide +kernel, by decide +kernel⟩

theorem q_Ward_eq (T : Tx K mg) : ∃ fd, Fd K d_Ward_eq fd ∧ FnOk P w K mg base (L2.CX P w) 2 (d_Ward_eq.adr K) fd ["self", "other"] (spD K (tsK K) 2 φ_Ward_eq) ∧ Binds K fd ["self", "other"] [] := by
  obtain ⟨fd, F⟩ := f_Ward_eq T
  refine ⟨fd, F, fn_ok F sc_Ward_eq fun cdv A outer s H E W hK ht hr => ?_, (F.bindsN fun _ _ _ _ _ _ us hl => match us, hl with | [_, _], _ => rfl)⟩
  exact (ds_one (ds_ret (dx_and (hK.symm) (dx_isC (C := "Ward") (cs := [("Ward", true)]) (es := []) (hK.symm) (fun c hc => by simp only [List.mem_cons, List.not_mem_nil, or_false] at hc; rcases hc with rfl <;> first | exact ⟨k_Ward_Ward T, jc_Ward T⟩) (fun _ h => by simp at h) (fun a ha => by simp only [List.mem_cons, List.not_mem_nil, or_false] at ha; rcases ha with rfl | rfl | rfl | rfl | rfl | rfl | rfl <;> first | exact k_NoneType_Ward T | exact k_bool_Ward T | exact k_int_Ward T | exact k_str_Ward T | exact k_tuple_Ward T | exact k_list_Ward T | exact k_dict_Ward T) (by rfl) (n_isinstance T) (dx_var 1 (pv 1)) (pe_glob (v := .ref (He.ga _ "Ward")) rfl (g_Ward T) rfl)) (dx_one (dx_cmp (od_eq (hK.symm) (hu64 hr)) (dx_att (k := 0) (fcs := ["Ward"]) (ecs := []) (hK.symm) ht (fun c hc => by simp only [List.mem_cons, List.not_mem_nil, or_false] at hc; rcases hc with rfl <;> first | exact ⟨c_Ward T, na_Ward__corners T⟩) (fun _ h => by simp at h) tbl_nil (dx_var 0 (pv 0)) (hr.mono (by decide))) (dx_att (k := 0) (fcs := ["Ward"]) (ecs := []) (hK.symm) ht (fun c hc => by simp only [List.mem_cons, List.not_mem_nil, or_false] at hc; rcases hc with rfl <;> first | exact ⟨c_Ward T, na_Ward__corners T⟩) (fun _ h => by simp at h) tbl_nil (dx_var 1 (pv 1)) (hr.mono (by decide))) (nomark _))))))

def w_Ward_str : TSD := (sRet (dBm joinD (dC (.str ",")) (dCons (dUnN (attD ["Ward"] [] [] "_corners") (dVar 0)) dNil)))

def φ_Ward_str : FD := fnD 1 w_Ward_str

theorem sc_Ward_str : FnScope ["self"] ["self"] (defScope s_Ward_str) := ⟨rfl, rfl, rfl, by decide +kernel, rfl, by decide +kernel, by decide +kernel⟩

theorem q_Ward_str (T : Tx K mg) : ∃ fd, Fd K d_Ward_str fd ∧ FnOk P w K mg base (L2.CX P w) 2 (d_Ward_str.adr K) fd ["self"] (spD K (tsK K) 1 φ_Ward_str) ∧ Binds K fd ["self"] [] := by
  obtain ⟨fd, F⟩ := f_Ward_str T
  refine ⟨fd, F, fn_ok F sc_Ward_str fun cdv A outer s H E W hK ht hr => ?_, (F.bindsN fun _ _ _ _ _ _ us hl => match us, hl with | [_], _ => rfl)⟩
  exact (ds_one (ds_ret (dx_bm PySem.F.slot_str_join PySem.F.type_str_join (bm_join (hK.symm)) dx_str (da_cons (dx_att (k := 0) (fcs := ["Ward"]) (ecs := []) (hK.symm) ht (fun c hc => by simp only [List.mem_cons, List.not_mem_nil, or_false] at hc; rcases hc with rfl <;> first | exact ⟨c_Ward T, na_Ward__corners T⟩) (fun _ h => by simp at h) tbl_nil (dx_var 0 (pv 0)) (hr.mono (by decide))) da_nil))))

def w_Ward_len : TSD := (sRet (dCB lenD (dCons (dUnN (attD ["Ward"] [] [] "_corners") (dVar 0)) dNil)))

def φ_Ward_len : FD := fnD 1 w_Ward_len

theorem sc_Ward_len : FnScope ["self"] ["self"] (defScope s_Ward_len) := ⟨rfl, rfl, rfl, by decide +kernel, rfl, by decide +kernel, by decide +kernel⟩

theorem q_Ward_len (T : Tx K mg) : ∃ fd, Fd K d_Ward_len fd ∧ FnOk P w K mg base (L2.CX P w) 2 (d_Ward_len.adr K) fd ["self"] (spD K (tsK K) 1 φ_Ward_len) ∧ Binds K fd ["self"] [] := by
  obtain ⟨fd, F⟩ := f_Ward_len T
  refine ⟨fd, F, fn_ok F sc_Ward_len fun cdv A outer s H E W hK ht hr => ?_, (F.bindsN fun _ _ _ _ _ _ us hl => match us, hl with | [_], _ => rfl)⟩
  exact (ds_one (ds_ret (dx_cb (cd_len (hK.symm)) (by rfl) (n_len T) (by decide +kernel) (da_cons (dx_att (k := 0) (fcs := ["Ward"]) (ecs := []) (hK.symm) ht (fun c hc => by simp only [List.mem_cons, List.not_mem_nil, or_false] at hc; rcases hc with rfl <;> first | exact ⟨c_Ward T, na_Ward__corners T⟩) (fun _ h => by simp at h) tbl_nil (dx_var 0 (pv 0)) (hr.mono (by decide))) da_nil))))

def w__law_corners : TSD := (sSeq (sPFF 1 2 (fLst (dCons (dC (.str "a")) (dCons (dC (.str "b")) (dCons (dC (.str "c")) (dCons (dC (.str "d")) (dCons (dC (.str "e")) (dCons (dC (.str "ab")) (dCons (dC (.str "ba")) (dCons (dC (.str "zzzzzzzz")) (dCons (dC (.str "m")) dNil)))))))))) (fLst dNil))
  (sSeq (sFor (iRg1 (dOp2 addD (dC (.int 1)) (dCall 2 drawD [] (dCons (dVar 0) (dCons (dC (.int 7)) dNil))))) (gNm 3) (sAppP 2 (dPop 1 (dTr 1 (dCall 2 drawD [] (dCons (dVar 0) (dCons (dUnN (selLen [("Ward", φ_Ward_len)] (list1 lenD)) (dVar 1)) dNil)))))))
  (sFz 2 (sRet (dCB sortedD (dCons (dLc (iOb [("Ward", "_corners")] (dVar 2)) 4 dTrue (dUnN (selStr [("Ward", φ_Ward_str)] (list1 strD)) (dVar 4))) dNil))))))

def φ__law_corners : FD := fnD 5 w__law_corners

theorem sc__law_corners : FnScope ["_law_pen_here", "_law_left", "_law_found", "_law_turn", "_law_one"] ["_law_pen_here"] (defScope s__law_corners) := ⟨rfl, rfl, rfl, by decide +kernel, rfl, by decide +kernel, by decide +kernel⟩

theorem q__law_corners (T : Tx K mg) : ∃ fd, Fd K d__law_corners fd ∧ FnOk P w K mg base (L2.CX P w) 5 (d__law_corners.adr K) fd ["_law_pen_here"] (spD K (tsK K) 1 φ__law_corners) ∧ Binds K fd ["_law_pen_here"] [] := by
  obtain ⟨fd, F⟩ := f__law_corners T
  obtain ⟨fd__law_draw, F__law_draw, G__law_draw, B__law_draw⟩ := q__law_draw (P := P) (w := w) (base := base) T
  obtain ⟨fd_Ward_len, F_Ward_len, G_Ward_len, B_Ward_len⟩ := q_Ward_len (P := P) (w := w) (base := base) T
  obtain ⟨fd_Ward_str, F_Ward_str, G_Ward_str, B_Ward_str⟩ := q_Ward_str (P := P) (w := w) (base := base) T
  refine ⟨fd, F, fn_ok F sc__law_corners fun cdv A outer s H E W hK ht hr => ?_, (F.bindsN fun _ _ _ _ _ _ us hl => match us, hl with | [_], _ => rfl)⟩
  exact (ds_cons (ds_pFF (fun t ht => ps_par (i := 1) (j := 2) (by rfl) sc__law_corners.nd rfl rfl (by decide) rfl rfl ht (by rfl)) (df_lst (da_cons dx_str (da_cons dx_str (da_cons dx_str (da_cons dx_str (da_cons dx_str (da_cons dx_str (da_cons dx_str (da_cons dx_str (da_cons dx_str da_nil)))))))))) (fun W1 k1 t1 => (df_lst da_nil)))
      (ds_cons (ds_for (passes_of rfl) rfl (di_range1 (by rfl) (n_range T) (dx_op (od_add (hK.symm)) dx_int (dx_call' (hK.symm) ht G__law_draw (hr.mono (by decide)) (by rfl) (g__law_draw T) F__law_draw.kp B__law_draw .nil (fun _ _ _ => .nil) (passes_call (takes_of rfl rfl rfl rfl) (fun _ _ _ _ h => h)) (da_cons (dx_var 0 (pv 0)) (da_cons dx_int da_nil))))) (dg_name (i := 3) sc__law_corners.nd rfl (Or.inl rfl)) (ds_one (ds_appP (i := 2) (pv 2) (px_pop (i := 1) (pv 1) (dx_tr 1 (dx_call' (hK.symm) ht G__law_draw (hr.mono (by decide)) (by rfl) (g__law_draw T) F__law_draw.kp B__law_draw .nil (fun _ _ _ => .nil) (passes_call (takes_of rfl rfl rfl rfl) (fun _ _ _ _ h => h)) (da_cons (dx_var 0 (pv 0)) (da_cons (dx_cb1 (cn_len (k := 2) (hK.symm) ht (tbl_cons ⟨_, _, _, m_Ward_len T, rfl, G_Ward_len.mono (by decide), B_Ward_len, trivial⟩ tbl_nil) (hr.mono (by decide)) (passes_call (takes_of rfl rfl rfl rfl) (fun _ _ _ _ h => h)) (cn_list (cd_len (hK.symm)))) (by rfl) (n_len T) (by decide +kernel) (dx_var 1 (pv 1))) da_nil))))))))
      (dss_fz 2 (ds_one (ds_ret (dx_cb (cd_sorted (hK.symm)) (by rfl) (n_sorted T) (by decide +kernel) (da_cons (dx_lc (hK.symm) (by rfl) sc__law_corners.nd (di_ob (tbl := [("Ward", "_corners")]) (k := 1) (hK.symm) (fun c f h => it_tbl T h) (hr.mono (by decide)) (dx_var 2 (pv 2))) (blkOk_by (own := [("_law_one", 4)]) (N := ["_law_pen_here", "_law_left", "_law_found", "_law_turn", "_law_one"]) (sc := defScope s__law_corners) (by decide +kernel)) (fun _ _ _ _ _ => pg_name (i := 4) sc__law_corners.nd rfl (Or.inl rfl)) (fun W1 k1 t1 _ _ _ _ _ => dts_nil) (fun W1 k1 t1 _ _ _ _ _ => (dx_cty1 (cn_str (k := 2) ((k1.trans hK).symm) (t1.trans ht) (tbl_cons ⟨_, _, _, m_Ward_str T, rfl, G_Ward_str.mono (by decide), B_Ward_str, trivial⟩ tbl_nil) (hr.mono (by decide)) passF (cn_list cd_str)) (by rfl) (n_str T) (by decide +kernel) (dx_var 4 (pv 4))))) da_nil)))))))

def w__law_pick : TSD := (sRet (dOp2 ixD (dVar 1) (dCall 2 drawD [] (dCons (dVar 0) (dCons (dUnN (selLen [("Ward", φ_Ward_len)] (list1 lenD)) (dVar 1)) dNil)))))

def φ__law_pick : FD := fnD 2 w__law_pick

theorem sc__law_pick : FnScope ["_law_pen_here", "_law_some"] ["_law_pen_here", "_law_some"] (defScope s__law_pick) := ⟨rfl, rfl, rfl, by decide +kernel, rfl, by decide +kernel, by decide +kernel⟩

theorem q__law_pick (T : Tx K mg) : ∃ fd, Fd K d__law_pick fd ∧ FnOk P w K mg base (L2.CX P w) 5 (d__law_pick.adr K) fd ["_law_pen_here", "_law_some"] (spD K (tsK K) 2 φ__law_pick) ∧ Binds K fd ["_law_pen_here", "_law_some"] [] := by
  obtain ⟨fd, F⟩ := f__law_pick T
  obtain ⟨fd__law_draw, F__law_draw, G__law_draw, B__law_draw⟩ := q__law_draw (P := P) (w := w) (base := base) T
  obtain ⟨fd_Ward_len, F_Ward_len, G_Ward_len, B_Ward_len⟩ := q_Ward_len (P := P) (w := w) (base := base) T
  refine ⟨fd, F, fn_ok F sc__law_pick fun cdv A outer s H E W hK ht hr => ?_, (F.bindsN fun _ _ _ _ _ _ us hl => match us, hl with | [_, _], _ => rfl)⟩
  exact (ds_one (ds_ret (dx_ix (hK.symm) (dx_var 1 (pv 1)) (dx_call' (hK.symm) ht G__law_draw (hr.mono (by decide)) (by rfl) (g__law_draw T) F__law_draw.kp B__law_draw .nil (fun _ _ _ => .nil) (passes_call (takes_of rfl rfl rfl rfl) (fun _ _ _ _ h => h)) (da_cons (dx_var 0 (pv 0)) (da_cons (dx_cb1 (cn_len (k := 2) (hK.symm) ht (tbl_cons ⟨_, _, _, m_Ward_len T, rfl, G_Ward_len.mono (by decide), B_Ward_len, trivial⟩ tbl_nil) (hr.mono (by decide)) (passes_call (takes_of rfl rfl rfl rfl) (fun _ _ _ _ h => h)) (cn_list (cd_len (hK.symm)))) (by rfl) (n_len T) (by decide +kernel) (dx_var 1 (pv 1))) da_nil))) (fun _ _ => rfl))))

def w_ascending : TSD := (sRet (dCB tupleD (dCons (dUn (ascL D.lst) (dVar 0)) dNil)))

def φ_ascending : FD := fnD 1 w_ascending

theorem sc_ascending : FnScope ["names"] ["names"] (defScope s_ascending) := ⟨rfl, rfl, rfl, by decide +kernel, rfl, by decide +kernel, by decide +kernel⟩

theorem q_ascending (T : Tx K mg) : ∃ fd, Fd K d_ascending fd ∧ FnOk P w K mg base (L2.CX P w) 1 (d_ascending.adr K) fd ["names"] (spD K (tsK K) 1 φ_ascending) ∧ Binds K fd ["names"] [] := by
  obtain ⟨fd, F⟩ := f_ascending T
  refine ⟨fd, F, fn_ok F sc_ascending fun cdv A outer s H E W hK ht hr => ?_, (F.bindsN fun _ _ _ _ _ _ us hl => match us, hl with | [_], _ => rfl)⟩
  exact (ds_one (ds_ret (dx_cty (cd_tuple (hK.symm)) (by rfl) (n_tuple T) (by decide +kernel) (da_cons (dx_asc (by rfl) (hK.symm) (by rfl) (n_sorted T) (by rfl) (n_set T) (dx_var 0 (pv 0))) da_nil))))

def w_check_ward : TSD := (sIf (dNot (dTru (isiD (isC [("Ward", true)] []) (dVar 0)))) (sRaise "BadWard" ["part"] (dCons (dC (.str "ward")) dNil)) sNext)

def φ_check_ward : FD := fnD 1 w_check_ward

theorem sc_check_ward : FnScope ["value"] ["value"] (defScope s_check_ward) := ⟨rfl, rfl, rfl, by decide +kernel, rfl, by decide +kernel, by decide +kernel⟩

theorem q_check_ward (T : Tx K mg) : ∃ fd, Fd K d_check_ward fd ∧ FnOk P w K mg base (L2.CX P w) 3 (d_check_ward.adr K) fd ["value"] (spD K (tsK K) 1 φ_check_ward) ∧ Binds K fd ["value"] [] := by
  obtain ⟨fd, F⟩ := f_check_ward T
  obtain ⟨fd_BadWard_in, F_BadWard_in, G_BadWard_in, B_BadWard_in⟩ := qi_BadWard (P := P) (w := w) (base := base) T
  refine ⟨fd, F, fn_ok F sc_check_ward fun cdv A outer s H E W hK ht hr => ?_, (F.bindsN fun _ _ _ _ _ _ us hl => match us, hl with | [_], _ => rfl)⟩
  exact (ds_one (ds_if (dt_not (dt_tru (hK.symm) (dx_isC (C := "Ward") (cs := [("Ward", true)]) (es := []) (hK.symm) (fun c hc => by simp only [List.mem_cons, List.not_mem_nil, or_false] at hc; rcases hc with rfl <;> first | exact ⟨k_Ward_Ward T, jc_Ward T⟩) (fun _ h => by simp at h) (fun a ha => by simp only [List.mem_cons, List.not_mem_nil, or_false] at ha; rcases ha with rfl | rfl | rfl | rfl | rfl | rfl | rfl <;> first | exact k_NoneType_Ward T | exact k_bool_Ward T | exact k_int_Ward T | exact k_str_Ward T | exact k_tuple_Ward T | exact k_list_Ward T | exact k_dict_Ward T) (by rfl) (n_isinstance T) (dx_var 0 (pv 0)) (pe_glob (v := .ref (He.ga _ "Ward")) rfl (g_Ward T) rfl)))) (ds_one (ds_raise (fs := ["part"]) (hK.symm) (by rfl) (takes_of rfl rfl rfl rfl) (er_BadWard T).o (in_BadWard T).1 (in_BadWard T).2 G_BadWard_in (hr.mono (by decide)) B_BadWard_in (by rfl) (g_BadWard T) (by decide) (da_cons dx_str da_nil))) ds_nil))

def w_Ward_contains : TSD := (sRet (dOpN (inX false [("Ward", φ_Ward_eq)] (pureN (inD false))) (dVar 1) (dUnN (attD ["Ward"] [] [] "_corners") (dVar 0))))

def φ_Ward_contains : FD := fnD 2 w_Ward_contains

theorem sc_Ward_contains : FnScope ["self", "corner"] ["self", "corner"] (defScope s_Ward_contains) := ⟨rfl, rfl, rfl, by decide +kernel, rfl, by decide +kernel, by decide +kernel⟩

theorem q_Ward_contains (T : Tx K mg) : ∃ fd, Fd K d_Ward_contains fd ∧ FnOk P w K mg base (L2.CX P w) 4 (d_Ward_contains.adr K) fd ["self", "corner"] (spD K (tsK K) 2 φ_Ward_contains) ∧ Binds K fd ["self", "corner"] [] := by
  obtain ⟨fd, F⟩ := f_Ward_contains T
  obtain ⟨fd_Ward_eq, F_Ward_eq, G_Ward_eq, B_Ward_eq⟩ := q_Ward_eq (P := P) (w := w) (base := base) T
  refine ⟨fd, F, fn_ok F sc_Ward_contains fun cdv A outer s H E W hK ht hr => ?_, (F.bindsN fun _ _ _ _ _ _ us hl => match us, hl with | [_, _], _ => rfl)⟩
  exact (ds_one (ds_ret (dx_cmpN (on_inX (k := 2) (hK.symm) ht (tbl_cons ⟨_, _, _, m_Ward_eq T, rfl, G_Ward_eq.mono (by decide), B_Ward_eq, (su_Ward T)⟩ tbl_nil) (hr.mono (by decide)) (passes_call (takes_of rfl rfl rfl rfl) (fun _ _ _ _ h => h)) (on_pure (od_in (hK.symm) (hu65 hr)))) (dx_var 1 (pv 1)) (dx_att (k := 0) (fcs := ["Ward"]) (ecs := []) (hK.symm) ht (fun c hc => by simp only [List.mem_cons, List.not_mem_nil, or_false] at hc; rcases hc with rfl <;> first | exact ⟨c_Ward T, na_Ward__corners T⟩) (fun _ h => by simp at h) tbl_nil (dx_var 0 (pv 0)) (hr.mono (by decide))) rfl)))

def w_are_among : TSD := (sRet (dCB (allD fun bs => bs.all id) (dCons (dLc (iOb [("Ward", "_corners")] (dVar 0)) 2 dTrue (dOpN (selR false [("Ward", φ_Ward_contains)] (inX false [("Ward", φ_Ward_eq)] (pureN (inD false)))) (dVar 2) (dVar 1))) dNil)))

def φ_are_among : FD := fnD 3 w_are_among

theorem sc_are_among : FnScope ["corners", "others", "corner"] ["corners", "others"] (defScope s_are_among) := ⟨rfl, rfl, rfl, by decide +kernel, rfl, by decide +kernel, by decide +kernel⟩

theorem q_are_among (T : Tx K mg) : ∃ fd, Fd K d_are_among fd ∧ FnOk P w K mg base (L2.CX P w) 6 (d_are_among.adr K) fd ["corners", "others"] (spD K (tsK K) 2 φ_are_among) ∧ Binds K fd ["corners", "others"] [] := by
  obtain ⟨fd, F⟩ := f_are_among T
  obtain ⟨fd_Ward_eq, F_Ward_eq, G_Ward_eq, B_Ward_eq⟩ := q_Ward_eq (P := P) (w := w) (base := base) T
  obtain ⟨fd_Ward_contains, F_Ward_contains, G_Ward_contains, B_Ward_contains⟩ := q_Ward_contains (P := P) (w := w) (base := base) T
  refine ⟨fd, F, fn_ok F sc_are_among fun cdv A outer s H E W hK ht hr => ?_, (F.bindsN fun _ _ _ _ _ _ us hl => match us, hl with | [_, _], _ => rfl)⟩
  exact (ds_one (ds_ret (dx_cb (cd_all rfl) (by rfl) (n_all T) (by decide +kernel) (da_cons (dx_lc (hK.symm) (by rfl) sc_are_among.nd (di_ob (tbl := [("Ward", "_corners")]) (k := 1) (hK.symm) (fun c f h => it_tbl T h) (hr.mono (by decide)) (dx_var 0 (pv 0))) (blkOk_by (own := [("corner", 2)]) (N := ["corners", "others", "corner"]) (sc := defScope s_are_among) (by decide +kernel)) (fun _ _ _ _ _ => pg_name (i := 2) sc_are_among.nd rfl (Or.inl rfl)) (fun W1 k1 t1 _ _ _ _ _ => dts_nil) (fun W1 k1 t1 _ _ _ _ _ => (dx_cmpN (on_in (k := 4) ((k1.trans hK).symm) (t1.trans ht) (tbl_cons ⟨_, _, _, m_Ward_contains T, rfl, G_Ward_contains.mono (by decide), B_Ward_contains, trivial⟩ tbl_nil) (hr.mono (by decide)) passF (on_inX (k := 2) ((k1.trans hK).symm) (t1.trans ht) (tbl_cons ⟨_, _, _, m_Ward_eq T, rfl, G_Ward_eq.mono (by decide), B_Ward_eq, (su_Ward T)⟩ tbl_nil) (hr.mono (by decide)) passF (on_pure (od_in ((k1.trans hK).symm) (hu65 hr))))) (dx_var 2 (pv 2)) (dx_var 1 (pv 1)) rfl))) da_nil))))

def w_Ward_le : TSD := (sSeq (sDrop (dCall 1 φ_check_ward [] (dCons (dVar 1) dNil)))
  (sRet (dCall 2 φ_are_among [] (dCons (dUnN (attD ["Ward"] [] [] "_corners") (dVar 0)) (dCons (dUnN (attD ["Ward"] [] [] "_corners") (dVar 1)) dNil)))))

def φ_Ward_le : FD := fnD 2 w_Ward_le

theorem sc_Ward_le : FnScope ["self", "other"] ["self", "other"] (defScope s_Ward_le) := ⟨rfl, rfl, rfl, by decide +kernel, rfl, by decide +kernel, by decide +kernel⟩

theorem q_Ward_le (T : Tx K mg) : ∃ fd, Fd K d_Ward_le fd ∧ FnOk P w K mg base (L2.CX P w) 7 (d_Ward_le.adr K) fd ["self", "other"] (spD K (tsK K) 2 φ_Ward_le) ∧ Binds K fd ["self", "other"] [] := by
  obtain ⟨fd, F⟩ := f_Ward_le T
  obtain ⟨fd_check_ward, F_check_ward, G_check_ward, B_check_ward⟩ := q_check_ward (P := P) (w := w) (base := base) T
  obtain ⟨fd_are_among, F_are_among, G_are_among, B_are_among⟩ := q_are_among (P := P) (w := w) (base := base) T
  refine ⟨fd, F, fn_ok F sc_Ward_le fun cdv A outer s H E W hK ht hr => ?_, (F.bindsN fun _ _ _ _ _ _ us hl => match us, hl with | [_, _], _ => rfl)⟩
  exact (ds_cons (ds_expr (dx_call' (hK.symm) ht G_check_ward (hr.mono (by decide)) (by rfl) (g_check_ward T) F_check_ward.kp B_check_ward .nil (fun _ _ _ => .nil) (passes_call (takes_of rfl rfl rfl rfl) (fun _ _ _ _ h => h)) (da_cons (dx_var 1 (pv 1)) da_nil)))
      (ds_one (ds_ret (dx_call' (hK.symm) ht G_are_among (hr.mono (by decide)) (by rfl) (g_are_among T) F_are_among.kp B_are_among .nil (fun _ _ _ => .nil) (passes_call (takes_of rfl rfl rfl rfl) (fun _ _ _ _ h => h)) (da_cons (dx_att (k := 0) (fcs := ["Ward"]) (ecs := []) (hK.symm) ht (fun c hc => by simp only [List.mem_cons, List.not_mem_nil, or_false] at hc; rcases hc with rfl <;> first | exact ⟨c_Ward T, na_Ward__corners T⟩) (fun _ h => by simp at h) tbl_nil (dx_var 0 (pv 0)) (hr.mono (by decide))) (da_cons (dx_att (k := 0) (fcs := ["Ward"]) (ecs := []) (hK.symm) ht (fun c hc => by simp only [List.mem_cons, List.not_mem_nil, or_false] at hc; rcases hc with rfl <;> first | exact ⟨c_Ward T, na_Ward__corners T⟩) (fun _ h => by simp at h) tbl_nil (dx_var 1 (pv 1)) (hr.mono (by decide))) da_nil))))))

def w_is_name : TSD := (sSeq (sIf (dOr (dNot (dTru (isiD (isB "str" ["Ward"]) (dVar 0)))) (dNot (dTest (dChain leD leD (dC (.int 1)) (dUnN (selLen [("Ward", φ_Ward_len)] (list1 lenD)) (dVar 0)) (dC (.int 8)))))) (sRet (dC (.bl false))) sNext)
  (sRet (dCB (allD fun bs => bs.all id) (dCons (dLc (iOb [("Ward", "_corners")] (dVar 0)) 1 dTrue (dOp2 (inD false) (dVar 1) (dC (.str "abcdefghijklmnopqrstuvwxyz")))) dNil))))

def φ_is_name : FD := fnD 2 w_is_name

theorem sc_is_name : FnScope ["value", "letter"] ["value"] (defScope s_is_name) := ⟨rfl, rfl, rfl, by decide +kernel, rfl, by decide +kernel, by decide +kernel⟩

theorem q_is_name (T : Tx K mg) : ∃ fd, Fd K d_is_name fd ∧ FnOk P w K mg base (L2.CX P w) 5 (d_is_name.adr K) fd ["value"] (spD K (tsK K) 1 φ_is_name) ∧ Binds K fd ["value"] [] := by
  obtain ⟨fd, F⟩ := f_is_name T
  obtain ⟨fd_Ward_len, F_Ward_len, G_Ward_len, B_Ward_len⟩ := q_Ward_len (P := P) (w := w) (base := base) T
  obtain ⟨t_NAME_LENGTH, h_NAME_LENGTH⟩ := i_NAME_LENGTH T (v := 8) rfl rfl
  obtain ⟨t_LETTERS, h_LETTERS⟩ := t_LETTERS T (v := "abcdefghijklmnopqrstuvwxyz") rfl
  refine ⟨fd, F, fn_ok F sc_is_name fun cdv A outer s H E W hK ht hr => ?_, (F.bindsN fun _ _ _ _ _ _ us hl => match us, hl with | [_], _ => rfl)⟩
  exact (ds_cons (ds_if (PW.pt (dw_or (dt_not (dt_tru (hK.symm) (dx_isB (T := "str") (cs := ["Ward"]) (hK.symm) (fun c hc => by simp only [List.mem_cons, List.not_mem_nil, or_false] at hc; rcases hc with rfl <;> first | exact ⟨k_Ward_str T, jc_Ward T⟩) (by rfl) (n_isinstance T) (dx_var 0 (pv 0)) (pe_bltn (v := .ty "str") (by rfl) (n_str T) (by decide +kernel) rfl)))) (dw_or1 (dt_not (dt_chain od_le od_le dx_int (dx_cb1 (cn_len (k := 2) (hK.symm) ht (tbl_cons ⟨_, _, _, m_Ward_len T, rfl, G_Ward_len.mono (by decide), B_Ward_len, trivial⟩ tbl_nil) (hr.mono (by decide)) (passes_call (takes_of rfl rfl rfl rfl) (fun _ _ _ _ h => h)) (cn_list (cd_len (hK.symm)))) (by rfl) (n_len T) (by decide +kernel) (dx_var 0 (pv 0))) (dx_c (pe_glob (v := .int 8) rfl h_NAME_LENGTH ⟨_, rfl⟩) (fun _ _ => .int _))))))) (ds_one (ds_ret dx_bl)) ds_nil)
      (ds_one (ds_ret (dx_cb (cd_all rfl) (by rfl) (n_all T) (by decide +kernel) (da_cons (dx_lc (hK.symm) (by rfl) sc_is_name.nd (di_ob (tbl := [("Ward", "_corners")]) (k := 1) (hK.symm) (fun c f h => it_tbl T h) (hr.mono (by decide)) (dx_var 0 (pv 0))) (blkOk_by (own := [("letter", 1)]) (N := ["value", "letter"]) (sc := defScope s_is_name) (by decide +kernel)) (fun _ _ _ _ _ => pg_name (i := 1) sc_is_name.nd rfl (Or.inl rfl)) (fun W1 k1 t1 _ _ _ _ _ => dts_nil) (fun W1 k1 t1 _ _ _ _ _ => (dx_cmp (od_in ((k1.trans hK).symm) (hu65 hr)) (dx_var 1 (pv 1)) (dx_c (pe_glob (v := .str "abcdefghijklmnopqrstuvwxyz") rfl h_LETTERS ⟨_, rfl⟩) (fun _ _ => .str _)) rfl))) da_nil)))))

def w_Ward_init : TSD := (sSeq (sIf (dNot (dTru (dCB (allD fun bs => bs.all id) (dCons (dLc (iOb [("Ward", "_corners")] (dVar 1)) 2 dTrue (dCall 1 φ_is_name [] (dCons (dVar 2) dNil))) dNil)))) (sRaise "BadWard" ["part"] (dCons (dC (.str "corner")) dNil)) sNext)
  (sSeq (sIf (dNot (dTru (dVar 1))) (sRaise "BadWard" ["part"] (dCons (dC (.str "none")) dNil)) sNext)
  (sSeq (sSet 3 (dCall 1 φ_ascending [] (dCons (dVar 1) dNil)))
  (sSeq (sIf (dTest (dOp2 gtD (dUnN (selLen [("Ward", φ_Ward_len)] (list1 lenD)) (dVar 3)) (dC (.int 7)))) (sRaise "TooMany" ["what", "most"] (dCons (dC (.str "corners")) (dCons (dC (.int 7)) dNil))) sNext)
  (sFldD 0 "Ward" "_corners" (dVar 3))))))

def φ_Ward_init : FD := restD 0 (inD' 4 "Ward" w_Ward_init)

theorem sc_Ward_init : FnScope ["self", "corners", "corner", "kept"] ["self", "corners"] (defScope s_Ward_init) := ⟨rfl, rfl, rfl, by decide +kernel, rfl, by decide +kernel, by decide +kernel⟩

theorem q_Ward_init (T : Tx K mg) : (∃ fd, Fd K d_Ward_init fd) ∧ FnR P w K mg base (L2.CX P w) 6 (d_Ward_init.adr K) (spIR K (tsK K) "Ward" φ_Ward_init) := by
  obtain ⟨fd, F⟩ := f_Ward_init T
  obtain ⟨fd_is_name, F_is_name, G_is_name, B_is_name⟩ := q_is_name (P := P) (w := w) (base := base) T
  obtain ⟨fd_BadWard_in, F_BadWard_in, G_BadWard_in, B_BadWard_in⟩ := qi_BadWard (P := P) (w := w) (base := base) T
  obtain ⟨fd_ascending, F_ascending, G_ascending, B_ascending⟩ := q_ascending (P := P) (w := w) (base := base) T
  obtain ⟨fd_Ward_len, F_Ward_len, G_Ward_len, B_Ward_len⟩ := q_Ward_len (P := P) (w := w) (base := base) T
  obtain ⟨fd_TooMany_in, F_TooMany_in, G_TooMany_in, B_TooMany_in⟩ := qi_TooMany (P := P) (w := w) (base := base) T
  obtain ⟨t_MOST_CORNERS, h_MOST_CORNERS⟩ := i_MOST_CORNERS T (v := 7) rfl rfl
  refine ⟨⟨fd, F⟩, in_starD (s0 := "self") (ps := []) (pv := "corners") F sc_Ward_init (fun kV doc pm an cdv ct us rest hl => match us, rest, hl with | [_], [], _ => rfl | [_], _ :: _, _ => rfl) fun cdv A outer s H E W hK ht hr => ?_⟩
  exact (ds_cons (ds_if (dt_not (dt_tru (hK.symm) (dx_cb (cd_all rfl) (by rfl) (n_all T) (by decide +kernel) (da_cons (dx_lc (hK.symm) (by rfl) sc_Ward_init.nd (di_ob (tbl := [("Ward", "_corners")]) (k := 1) (hK.symm) (fun c f h => it_tbl T h) (hr.mono (by decide)) (dx_var 1 (pv 1))) (blkOk_by (own := [("corner", 2)]) (N := ["self", "corners", "corner", "kept"]) (sc := defScope s_Ward_init) (by decide +kernel)) (fun _ _ _ _ _ => pg_name (i := 2) sc_Ward_init.nd rfl (Or.inl rfl)) (fun W1 k1 t1 _ _ _ _ _ => dts_nil) (fun W1 k1 t1 _ _ _ _ _ => (dx_call' ((k1.trans hK).symm) (t1.trans ht) G_is_name (hr.mono (by decide)) (by rfl) (g_is_name T) F_is_name.kp B_is_name .nil (fun _ _ _ => .nil) passF (da_cons (dx_var 2 (pv 2)) da_nil)))) da_nil)))) (ds_one (ds_raise (fs := ["part"]) (hK.symm) (by rfl) (takes_of rfl rfl rfl rfl) (er_BadWard T).o (in_BadWard T).1 (in_BadWard T).2 G_BadWard_in (hr.mono (by decide)) B_BadWard_in (by rfl) (g_BadWard T) (by decide) (da_cons dx_str da_nil))) ds_nil)
      (ds_cons (ds_if (dt_not (dt_tru (hK.symm) (dx_var 1 (pv 1)))) (ds_one (ds_raise (fs := ["part"]) (hK.symm) (by rfl) (takes_of rfl rfl rfl rfl) (er_BadWard T).o (in_BadWard T).1 (in_BadWard T).2 G_BadWard_in (hr.mono (by decide)) B_BadWard_in (by rfl) (g_BadWard T) (by decide) (da_cons dx_str da_nil))) ds_nil)
      (ds_cons (ds_set (i := 3) sc_Ward_init.nd rfl (Or.inl rfl) (dx_call' (hK.symm) ht G_ascending (hr.mono (by decide)) (by rfl) (g_ascending T) F_ascending.kp B_ascending .nil (fun _ _ _ => .nil) (passes_call (takes_of rfl rfl rfl rfl) (fun _ _ _ _ h => h)) (da_cons (dx_var 1 (pv 1)) da_nil)))
      (ds_cons (ds_if (dt_cmp od_gt (dx_cb1 (cn_len (k := 2) (hK.symm) ht (tbl_cons ⟨_, _, _, m_Ward_len T, rfl, G_Ward_len.mono (by decide), B_Ward_len, trivial⟩ tbl_nil) (hr.mono (by decide)) (passes_call (takes_of rfl rfl rfl rfl) (fun _ _ _ _ h => h)) (cn_list (cd_len (hK.symm)))) (by rfl) (n_len T) (by decide +kernel) (dx_var 3 (pv 3))) (dx_c (pe_glob (v := .int 7) rfl h_MOST_CORNERS ⟨_, rfl⟩) (fun _ _ => .int _)) (nomark _)) (ds_one (ds_raise (fs := ["what", "most"]) (hK.symm) (by rfl) (takes_of rfl rfl rfl rfl) (er_TooMany T).o (in_TooMany T).1 (in_TooMany T).2 G_TooMany_in (hr.mono (by decide)) B_TooMany_in (by rfl) (g_TooMany T) (by decide) (da_cons dx_str (da_cons (dx_c (pe_glob (v := .int 7) rfl h_MOST_CORNERS ⟨_, rfl⟩) (fun _ _ => .int _)) da_nil)))) ds_nil)
      (ds_one (ds_fld (hK.symm) (pv 0) (dx_var 3 (pv 3)) (c_Ward T) (na_Ward__corners T)))))))

def w_Ward_or : TSD := (sSeq (sDrop (dCall 1 φ_check_ward [] (dCons (dVar 1) dNil)))
  (sSeq (sSet 2 (dLst (dStar (dUnN (attD ["Ward"] [] [] "_corners") (dVar 0)) (dStar (dUnN (attD ["Ward"] [] [] "_corners") (dVar 1)) dNil))))
  (sRet (dSt φ_Ward_init (dVar 2)))))

def φ_Ward_or : FD := fnD 3 w_Ward_or

theorem sc_Ward_or : FnScope ["self", "other", "corners"] ["self", "other"] (defScope s_Ward_or) := ⟨rfl, rfl, rfl, by decide +kernel, rfl, by decide +kernel, by decide +kernel⟩

theorem q_Ward_or (T : Tx K mg) : ∃ fd, Fd K d_Ward_or fd ∧ FnOk P w K mg base (L2.CX P w) 8 (d_Ward_or.adr K) fd ["self", "other"] (spD K (tsK K) 2 φ_Ward_or) ∧ Binds K fd ["self", "other"] [] := by
  obtain ⟨fd, F⟩ := f_Ward_or T
  obtain ⟨fd_check_ward, F_check_ward, G_check_ward, B_check_ward⟩ := q_check_ward (P := P) (w := w) (base := base) T
  obtain ⟨F_Ward_init, G_Ward_init⟩ := q_Ward_init (P := P) (w := w) (base := base) T
  refine ⟨fd, F, fn_ok F sc_Ward_or fun cdv A outer s H E W hK ht hr => ?_, (F.bindsN fun _ _ _ _ _ _ us hl => match us, hl with | [_, _], _ => rfl)⟩
  exact (ds_cons (ds_expr (dx_call' (hK.symm) ht G_check_ward (hr.mono (by decide)) (by rfl) (g_check_ward T) F_check_ward.kp B_check_ward .nil (fun _ _ _ => .nil) (passes_call (takes_of rfl rfl rfl rfl) (fun _ _ _ _ h => h)) (da_cons (dx_var 1 (pv 1)) da_nil)))
      (ds_cons (ds_set (i := 2) sc_Ward_or.nd rfl (Or.inl rfl) (dx_lst (da_star (hK.symm) (dx_att (k := 0) (fcs := ["Ward"]) (ecs := []) (hK.symm) ht (fun c hc => by simp only [List.mem_cons, List.not_mem_nil, or_false] at hc; rcases hc with rfl <;> first | exact ⟨c_Ward T, na_Ward__corners T⟩) (fun _ h => by simp at h) tbl_nil (dx_var 0 (pv 0)) (hr.mono (by decide))) (da_star (hK.symm) (dx_att (k := 0) (fcs := ["Ward"]) (ecs := []) (hK.symm) ht (fun c hc => by simp only [List.mem_cons, List.not_mem_nil, or_false] at hc; rcases hc with rfl <;> first | exact ⟨c_Ward T, na_Ward__corners T⟩) (fun _ h => by simp at h) tbl_nil (dx_var 1 (pv 1)) (hr.mono (by decide))) da_nil))))
      (ds_one (ds_ret (dx_makeS' (hK.symm) ht (mk_Ward T) G_Ward_init (hr.mono (by decide)) (by rfl) (g_Ward T) (passes_call (takes_of rfl rfl rfl rfl) (fun _ _ _ _ h => h)) (dx_var 2 (pv 2)))))))

def w__law_ward : TSD := (sSeq (sSet 1 (dR φ_Ward_init (dCons (dOp2 ixD (dVar 0) (dUn negD (dC (.int 1)))) dNil)))
  (sSeq (sFor (iSeq (dSl (dVar 0) dNoPart (dPart (dUn negD (dC (.int 1)))))) (gNm 2) (sSet 1 (dOpN (selN [("Ward", φ_Ward_or)] (okR ["Ward"]) (fun _ _ _ _ _ => False)) (dVar 1) (dR φ_Ward_init (dCons (dVar 2) dNil)))))
  (sRet (dVar 1))))

def φ__law_ward : FD := fnD 3 w__law_ward

theorem sc__law_ward : FnScope ["_law_corners_so", "_law_found", "_law_one"] ["_law_corners_so"] (defScope s__law_ward) := ⟨rfl, rfl, rfl, by decide +kernel, rfl, by decide +kernel, by decide +kernel⟩

theorem q__law_ward (T : Tx K mg) : ∃ fd, Fd K d__law_ward fd ∧ FnOk P w K mg base (L2.CX P w) 9 (d__law_ward.adr K) fd ["_law_corners_so"] (spD K (tsK K) 1 φ__law_ward) ∧ Binds K fd ["_law_corners_so"] [] := by
  obtain ⟨fd, F⟩ := f__law_ward T
  obtain ⟨F_Ward_init, G_Ward_init⟩ := q_Ward_init (P := P) (w := w) (base := base) T
  obtain ⟨fd_Ward_or, F_Ward_or, G_Ward_or, B_Ward_or⟩ := q_Ward_or (P := P) (w := w) (base := base) T
  refine ⟨fd, F, fn_ok F sc__law_ward fun cdv A outer s H E W hK ht hr => ?_, (F.bindsN fun _ _ _ _ _ _ us hl => match us, hl with | [_], _ => rfl)⟩
  exact (ds_cons (ds_set (i := 1) sc__law_ward.nd rfl (Or.inl rfl) (dx_makeR' (hK.symm) ht (mk_Ward T) G_Ward_init (hr.mono (by decide)) (by rfl) (g_Ward T) (passes_call (takes_of rfl rfl rfl rfl) (fun _ _ _ _ h => h)) (da_cons (dx_ix (hK.symm) (dx_var 0 (pv 0)) (dx_un ud_neg dx_int) (fun _ _ => rfl)) da_nil)))
      (ds_cons (ds_for (passes_of rfl) rfl (di_seq (hK.symm) (dx_sl (hK.symm) (dx_var 0 (pv 0)) do_none (do_some (dx_un ud_neg dx_int)))) (dg_name (i := 2) sc__law_ward.nd rfl (Or.inl rfl)) (ds_one (ds_set (i := 1) sc__law_ward.nd rfl (Or.inl rfl) (dx_opN (on_bin (k := 8) (cs := ["Ward"]) rfl rfl (hK.symm) ht (tbl_cons ⟨_, _, _, m_Ward_or T, rfl, G_Ward_or.mono (by decide), B_Ward_or, ⟨(bi_Ward_or T).1, (bi_Ward_or T).2, (fun c hc => by simp only [List.mem_cons, List.not_mem_nil, or_false] at hc; subst hc; exact ⟨jc_Ward T, rfl⟩)⟩⟩ tbl_nil) (hr.mono (by decide)) (passes_call (takes_of rfl rfl rfl rfl) (fun _ _ _ _ h => h)) on_false) (dx_var 1 (pv 1)) (dx_makeR' (hK.symm) ht (mk_Ward T) G_Ward_init (hr.mono (by decide)) (by rfl) (g_Ward T) (passes_call (takes_of rfl rfl rfl rfl) (fun _ _ _ _ h => h)) (da_cons (dx_var 2 (pv 2)) da_nil))))))
      (ds_one (ds_ret (dx_var 1 (pv 1))))))

def w__law_bent : TSD := (sSeq (sPar 2 3 (dCons (dBm splitD (dVar 1) (dCons (dC (.str ",")) dNil)) (dCons (dCall 2 drawD [] (dCons (dVar 0) (dCons (dC (.int 8)) dNil))) dNil)))
  (sSeq (sSet 4 (dCall 2 drawD [] (dCons (dVar 0) (dCons (dUnN (selLen [("Ward", φ_Ward_len)] (list1 lenD)) (dVar 2)) dNil))))
  (sSeq (sSet 5 (dCall 2 φ__law_pick [] (dCons (dVar 0) (dCons (dLst (dCons (dC (.str "")) (dCons (dC (.str "a")) (dCons (dC (.str "c")) (dCons (dC (.str "zz")) (dCons (dC (.str "A")) (dCons (dC (.str "a b")) (dCons (dC (.str "abcdefghi")) (dCons (dC (.str "b\n")) dNil))))))))) dNil))))
  (sSeq (sIf (dTest (dOpN (selN [("Ward", φ_Ward_eq)] (okR ["Ward"]) (pureN eqD)) (dVar 3) (dC (.int 0)))) (sRet (dBm joinD (dC (.str ",")) (dCons (dOp2 addD (dSl (dVar 2) dNoPart (dPart (dVar 4))) (dSl (dVar 2) (dPart (dOp2 addD (dVar 4) (dC (.int 1)))) dNoPart)) dNil))) sNext)
  (sSeq (sIf (dTest (dOpN (selN [("Ward", φ_Ward_eq)] (okR ["Ward"]) (pureN eqD)) (dVar 3) (dC (.int 1)))) (sRet (dBm joinD (dC (.str ",")) (dCons (dOp2 addD (dSl (dVar 2) dNoPart (dPart (dOp2 addD (dVar 4) (dC (.int 1))))) (dSl (dVar 2) (dPart (dVar 4)) dNoPart)) dNil))) sNext)
  (sSeq (sIf (dTest (dOpN (selN [("Ward", φ_Ward_eq)] (okR ["Ward"]) (pureN eqD)) (dVar 3) (dC (.int 2)))) (sRet (dBm joinD (dC (.str ",")) (dCons (dOp2 addD (dOp2 addD (dSl (dVar 2) dNoPart (dPart (dVar 4))) (dLst (dCons (dVar 5) dNil))) (dSl (dVar 2) (dPart (dOp2 addD (dVar 4) (dC (.int 1)))) dNoPart)) dNil))) sNext)
  (sSeq (sIf (dTest (dOpN (selN [("Ward", φ_Ward_eq)] (okR ["Ward"]) (pureN eqD)) (dVar 3) (dC (.int 3)))) (sRet (dBm joinD (dC (.str ",")) (dCons (dOp2 addD (dOp2 addD (dSl (dVar 2) dNoPart (dPart (dVar 4))) (dLst (dCons (dVar 5) dNil))) (dSl (dVar 2) (dPart (dVar 4)) dNoPart)) dNil))) sNext)
  (sSeq (sIf (dTest (dOpN (selN [("Ward", φ_Ward_eq)] (okR ["Ward"]) (pureN eqD)) (dVar 3) (dC (.int 4)))) (sRet (dBm joinD (dC (.str ",")) (dCons (dOp2 addD (dSl (dVar 2) (dPart (dVar 4)) dNoPart) (dSl (dVar 2) dNoPart (dPart (dVar 4)))) dNil))) sNext)
  (sSeq (sIf (dTest (dOpN (selN [("Ward", φ_Ward_eq)] (okR ["Ward"]) (pureN eqD)) (dVar 3) (dC (.int 5)))) (sRet (dBm joinD (dC (.str ",")) (dCons (dCB sortedD (dCons (dLc (iSeq (dOp2 addD (dVar 2) (dLst (dCons (dVar 5) dNil)))) 6 dTrue (dUnN (selStr [("Ward", φ_Ward_str)] (list1 strD)) (dVar 6))) dNil)) dNil))) sNext)
  (sSeq (sSet 7 (dCall 2 drawD [] (dCons (dVar 0) (dCons (dOp2 addD (dUnN (selLen [("Ward", φ_Ward_len)] (list1 lenD)) (dVar 1)) (dC (.int 1))) dNil))))
  (sRet (dOp2 addD (dOp2 addD (dSl (dVar 1) dNoPart (dPart (dVar 7))) (dCall 2 φ__law_pick [] (dCons (dVar 0) (dCons (dLst (dCons (dC (.str " ")) (dCons (dC (.str "")) (dCons (dC (.str "a")) (dCons (dC (.str ",")) (dCons (dC (.str "-")) (dCons (dC (.str "\n")) (dCons (dC (.str ".")) (dCons (dC (.str "A")) dNil))))))))) dNil)))) (dSl (dVar 1) (dPart (dOp2 addD (dVar 7) (dCB intD (dCons (dOpN (selN [("Ward", φ_Ward_eq)] (okR ["Ward"]) (pureN eqD)) (dVar 3) (dC (.int 6))) dNil)))) dNoPart)))))))))))))

def φ__law_bent : FD := fnD 8 w__law_bent

theorem sc__law_bent : FnScope ["_law_pen_here", "_law_page", "_law_terms", "_law_way", "_law_spot", "_law_word", "_law_term", "_law_at"] ["_law_pen_here", "_law_page"] (defScope s__law_bent) := ⟨rfl, rfl, rfl, by decide +kernel, rfl, by decide +kernel, by decide +kernel⟩

theorem q__law_bent (T : Tx K mg) : ∃ fd, Fd K d__law_bent fd ∧ FnOk P w K mg base (L2.CX P w) 6 (d__law_bent.adr K) fd ["_law_pen_here", "_law_page"] (spD K (tsK K) 2 φ__law_bent) ∧ Binds K fd ["_law_pen_here", "_law_page"] [] := by
  obtain ⟨fd, F⟩ := f__law_bent T
  obtain ⟨fd__law_draw, F__law_draw, G__law_draw, B__law_draw⟩ := q__law_draw (P := P) (w := w) (base := base) T
  obtain ⟨fd_Ward_len, F_Ward_len, G_Ward_len, B_Ward_len⟩ := q_Ward_len (P := P) (w := w) (base := base) T
  obtain ⟨fd__law_pick, F__law_pick, G__law_pick, B__law_pick⟩ := q__law_pick (P := P) (w := w) (base := base) T
  obtain ⟨fd_Ward_eq, F_Ward_eq, G_Ward_eq, B_Ward_eq⟩ := q_Ward_eq (P := P) (w := w) (base := base) T
  obtain ⟨fd_Ward_str, F_Ward_str, G_Ward_str, B_Ward_str⟩ := q_Ward_str (P := P) (w := w) (base := base) T
  refine ⟨fd, F, fn_ok F sc__law_bent fun cdv A outer s H E W hK ht hr => ?_, (F.bindsN fun _ _ _ _ _ _ us hl => match us, hl with | [_, _], _ => rfl)⟩
  exact (ds_cons (ds_par (ps_par (i := 2) (j := 3) (by rfl) sc__law_bent.nd rfl rfl (by decide) rfl rfl (da_cons (dx_bm PySem.F.slot_str_split PySem.F.type_str_split bm_split (dx_var 1 (pv 1)) (da_cons dx_str da_nil)) (da_cons (dx_call' (hK.symm) ht G__law_draw (hr.mono (by decide)) (by rfl) (g__law_draw T) F__law_draw.kp B__law_draw .nil (fun _ _ _ => .nil) (passes_call (takes_of rfl rfl rfl rfl) (fun _ _ _ _ h => h)) (da_cons (dx_var 0 (pv 0)) (da_cons dx_int da_nil))) da_nil)) (by rfl)))
      (ds_cons (ds_set (i := 4) sc__law_bent.nd rfl (Or.inl rfl) (dx_call' (hK.symm) ht G__law_draw (hr.mono (by decide)) (by rfl) (g__law_draw T) F__law_draw.kp B__law_draw .nil (fun _ _ _ => .nil) (passes_call (takes_of rfl rfl rfl rfl) (fun _ _ _ _ h => h)) (da_cons (dx_var 0 (pv 0)) (da_cons (dx_cb1 (cn_len (k := 2) (hK.symm) ht (tbl_cons ⟨_, _, _, m_Ward_len T, rfl, G_Ward_len.mono (by decide), B_Ward_len, trivial⟩ tbl_nil) (hr.mono (by decide)) (passes_call (takes_of rfl rfl rfl rfl) (fun _ _ _ _ h => h)) (cn_list (cd_len (hK.symm)))) (by rfl) (n_len T) (by decide +kernel) (dx_var 2 (pv 2))) da_nil))))
      (ds_cons (ds_set (i := 5) sc__law_bent.nd rfl (Or.inl rfl) (dx_call' (hK.symm) ht G__law_pick (hr.mono (by decide)) (by rfl) (g__law_pick T) F__law_pick.kp B__law_pick .nil (fun _ _ _ => .nil) (passes_call (takes_of rfl rfl rfl rfl) (fun _ _ _ _ h => h)) (da_cons (dx_var 0 (pv 0)) (da_cons (dx_lst (da_cons dx_str (da_cons dx_str (da_cons dx_str (da_cons dx_str (da_cons dx_str (da_cons dx_str (da_cons dx_str (da_cons dx_str da_nil))))))))) da_nil))))
      (ds_cons (ds_if (dt_cmpN (on_cmp (k := 2) (cs := ["Ward"]) (fun _ _ => rfl) (nm := "__eq__") rfl (hK.symm) ht (tbl_cons ⟨_, _, _, m_Ward_eq T, rfl, G_Ward_eq.mono (by decide), B_Ward_eq, (ri_Ward T)⟩ tbl_nil) (hr.mono (by decide)) (passes_call (takes_of rfl rfl rfl rfl) (fun _ _ _ _ h => h)) (on_pure (od_eq (hK.symm) (hu64 hr)))) (dx_var 3 (pv 3)) dx_int (nomark _)) (ds_one (ds_ret (dx_bm PySem.F.slot_str_join PySem.F.type_str_join (bm_join (hK.symm)) dx_str (da_cons (dx_op (od_add (hK.symm)) (dx_sl (hK.symm) (dx_var 2 (pv 2)) do_none (do_some (dx_var 4 (pv 4)))) (dx_sl (hK.symm) (dx_var 2 (pv 2)) (do_some (dx_op (od_add (hK.symm)) (dx_var 4 (pv 4)) dx_int)) do_none)) da_nil)))) ds_nil)
      (ds_cons (ds_if (dt_cmpN (on_cmp (k := 2) (cs := ["Ward"]) (fun _ _ => rfl) (nm := "__eq__") rfl (hK.symm) ht (tbl_cons ⟨_, _, _, m_Ward_eq T, rfl, G_Ward_eq.mono (by decide), B_Ward_eq, (ri_Ward T)⟩ tbl_nil) (hr.mono (by decide)) (passes_call (takes_of rfl rfl rfl rfl) (fun _ _ _ _ h => h)) (on_pure (od_eq (hK.symm) (hu64 hr)))) (dx_var 3 (pv 3)) dx_int (nomark _)) (ds_one (ds_ret (dx_bm PySem.F.slot_str_join PySem.F.type_str_join (bm_join (hK.symm)) dx_str (da_cons (dx_op (od_add (hK.symm)) (dx_sl (hK.symm) (dx_var 2 (pv 2)) do_none (do_some (dx_op (od_add (hK.symm)) (dx_var 4 (pv 4)) dx_int))) (dx_sl (hK.symm) (dx_var 2 (pv 2)) (do_some (dx_var 4 (pv 4))) do_none)) da_nil)))) ds_nil)
      (ds_cons (ds_if (dt_cmpN (on_cmp (k := 2) (cs := ["Ward"]) (fun _ _ => rfl) (nm := "__eq__") rfl (hK.symm) ht (tbl_cons ⟨_, _, _, m_Ward_eq T, rfl, G_Ward_eq.mono (by decide), B_Ward_eq, (ri_Ward T)⟩ tbl_nil) (hr.mono (by decide)) (passes_call (takes_of rfl rfl rfl rfl) (fun _ _ _ _ h => h)) (on_pure (od_eq (hK.symm) (hu64 hr)))) (dx_var 3 (pv 3)) dx_int (nomark _)) (ds_one (ds_ret (dx_bm PySem.F.slot_str_join PySem.F.type_str_join (bm_join (hK.symm)) dx_str (da_cons (dx_op (od_add (hK.symm)) (dx_op (od_add (hK.symm)) (dx_sl (hK.symm) (dx_var 2 (pv 2)) do_none (do_some (dx_var 4 (pv 4)))) (dx_lst (da_cons (dx_var 5 (pv 5)) da_nil))) (dx_sl (hK.symm) (dx_var 2 (pv 2)) (do_some (dx_op (od_add (hK.symm)) (dx_var 4 (pv 4)) dx_int)) do_none)) da_nil)))) ds_nil)
      (ds_cons (ds_if (dt_cmpN (on_cmp (k := 2) (cs := ["Ward"]) (fun _ _ => rfl) (nm := "__eq__") rfl (hK.symm) ht (tbl_cons ⟨_, _, _, m_Ward_eq T, rfl, G_Ward_eq.mono (by decide), B_Ward_eq, (ri_Ward T)⟩ tbl_nil) (hr.mono (by decide)) (passes_call (takes_of rfl rfl rfl rfl) (fun _ _ _ _ h => h)) (on_pure (od_eq (hK.symm) (hu64 hr)))) (dx_var 3 (pv 3)) dx_int (nomark _)) (ds_one (ds_ret (dx_bm PySem.F.slot_str_join PySem.F.type_str_join (bm_join (hK.symm)) dx_str (da_cons (dx_op (od_add (hK.symm)) (dx_op (od_add (hK.symm)) (dx_sl (hK.symm) (dx_var 2 (pv 2)) do_none (do_some (dx_var 4 (pv 4)))) (dx_lst (da_cons (dx_var 5 (pv 5)) da_nil))) (dx_sl (hK.symm) (dx_var 2 (pv 2)) (do_some (dx_var 4 (pv 4))) do_none)) da_nil)))) ds_nil)
      (ds_cons (ds_if (dt_cmpN (on_cmp (k := 2) (cs := ["Ward"]) (fun _ _ => rfl) (nm := "__eq__") rfl (hK.symm) ht (tbl_cons ⟨_, _, _, m_Ward_eq T, rfl, G_Ward_eq.mono (by decide), B_Ward_eq, (ri_Ward T)⟩ tbl_nil) (hr.mono (by decide)) (passes_call (takes_of rfl rfl rfl rfl) (fun _ _ _ _ h => h)) (on_pure (od_eq (hK.symm) (hu64 hr)))) (dx_var 3 (pv 3)) dx_int (nomark _)) (ds_one (ds_ret (dx_bm PySem.F.slot_str_join PySem.F.type_str_join (bm_join (hK.symm)) dx_str (da_cons (dx_op (od_add (hK.symm)) (dx_sl (hK.symm) (dx_var 2 (pv 2)) (do_some (dx_var 4 (pv 4))) do_none) (dx_sl (hK.symm) (dx_var 2 (pv 2)) do_none (do_some (dx_var 4 (pv 4))))) da_nil)))) ds_nil)
      (ds_cons (ds_if (dt_cmpN (on_cmp (k := 2) (cs := ["Ward"]) (fun _ _ => rfl) (nm := "__eq__") rfl (hK.symm) ht (tbl_cons ⟨_, _, _, m_Ward_eq T, rfl, G_Ward_eq.mono (by decide), B_Ward_eq, (ri_Ward T)⟩ tbl_nil) (hr.mono (by decide)) (passes_call (takes_of rfl rfl rfl rfl) (fun _ _ _ _ h => h)) (on_pure (od_eq (hK.symm) (hu64 hr)))) (dx_var 3 (pv 3)) dx_int (nomark _)) (ds_one (ds_ret (dx_bm PySem.F.slot_str_join PySem.F.type_str_join (bm_join (hK.symm)) dx_str (da_cons (dx_cb (cd_sorted (hK.symm)) (by rfl) (n_sorted T) (by decide +kernel) (da_cons (dx_lc (hK.symm) (by rfl) sc__law_bent.nd (di_seq (hK.symm) (dx_op (od_add (hK.symm)) (dx_var 2 (pv 2)) (dx_lst (da_cons (dx_var 5 (pv 5)) da_nil)))) (blkOk_by (own := [("_law_term", 6)]) (N := ["_law_pen_here", "_law_page", "_law_terms", "_law_way", "_law_spot", "_law_word", "_law_term", "_law_at"]) (sc := defScope s__law_bent) (by decide +kernel)) (fun _ _ _ _ _ => pg_name (i := 6) sc__law_bent.nd rfl (Or.inl rfl)) (fun W1 k1 t1 _ _ _ _ _ => dts_nil) (fun W1 k1 t1 _ _ _ _ _ => (dx_cty1 (cn_str (k := 2) ((k1.trans hK).symm) (t1.trans ht) (tbl_cons ⟨_, _, _, m_Ward_str T, rfl, G_Ward_str.mono (by decide), B_Ward_str, trivial⟩ tbl_nil) (hr.mono (by decide)) passF (cn_list cd_str)) (by rfl) (n_str T) (by decide +kernel) (dx_var 6 (pv 6))))) da_nil)) da_nil)))) ds_nil)
      (ds_cons (ds_set (i := 7) sc__law_bent.nd rfl (Or.inl rfl) (dx_call' (hK.symm) ht G__law_draw (hr.mono (by decide)) (by rfl) (g__law_draw T) F__law_draw.kp B__law_draw .nil (fun _ _ _ => .nil) (passes_call (takes_of rfl rfl rfl rfl) (fun _ _ _ _ h => h)) (da_cons (dx_var 0 (pv 0)) (da_cons (dx_op (od_add (hK.symm)) (dx_cb1 (cn_len (k := 2) (hK.symm) ht (tbl_cons ⟨_, _, _, m_Ward_len T, rfl, G_Ward_len.mono (by decide), B_Ward_len, trivial⟩ tbl_nil) (hr.mono (by decide)) (passes_call (takes_of rfl rfl rfl rfl) (fun _ _ _ _ h => h)) (cn_list (cd_len (hK.symm)))) (by rfl) (n_len T) (by decide +kernel) (dx_var 1 (pv 1))) dx_int) da_nil))))
      (ds_one (ds_ret (dx_op (od_add (hK.symm)) (dx_op (od_add (hK.symm)) (dx_sl (hK.symm) (dx_var 1 (pv 1)) do_none (do_some (dx_var 7 (pv 7)))) (dx_call' (hK.symm) ht G__law_pick (hr.mono (by decide)) (by rfl) (g__law_pick T) F__law_pick.kp B__law_pick .nil (fun _ _ _ => .nil) (passes_call (takes_of rfl rfl rfl rfl) (fun _ _ _ _ h => h)) (da_cons (dx_var 0 (pv 0)) (da_cons (dx_lst (da_cons dx_str (da_cons dx_str (da_cons dx_str (da_cons dx_str (da_cons dx_str (da_cons dx_str (da_cons dx_str (da_cons dx_str da_nil))))))))) da_nil)))) (dx_sl (hK.symm) (dx_var 1 (pv 1)) (do_some (dx_op (od_add (hK.symm)) (dx_var 7 (pv 7)) (dx_cty cd_int (by rfl) (n_int T) (by decide +kernel) (da_cons (dx_cmpN (on_cmp (k := 2) (cs := ["Ward"]) (fun _ _ => rfl) (nm := "__eq__") rfl (hK.symm) ht (tbl_cons ⟨_, _, _, m_Ward_eq T, rfl, G_Ward_eq.mono (by decide), B_Ward_eq, (ri_Ward T)⟩ tbl_nil) (hr.mono (by decide)) (passes_call (takes_of rfl rfl rfl rfl) (fun _ _ _ _ h => h)) (on_pure (od_eq (hK.symm) (hu64 hr)))) (dx_var 3 (pv 3)) dx_int (nomark _)) da_nil)))) do_none))))))))))))))

def w_Ward_corners : TSD := (sRet (dUnN (attD ["Ward"] [] [] "_corners") (dVar 0)))

def φ_Ward_corners : FD := fnD 1 w_Ward_corners

theorem sc_Ward_corners : FnScope ["self"] ["self"] (defScope s_Ward_corners) := ⟨rfl, rfl, rfl, by decide +kernel, rfl, by decide +kernel, by decide +kernel⟩

theorem q_Ward_corners (T : Tx K mg) : ∃ fd, Fd K d_Ward_corners fd ∧ FnOk P w K mg base (L2.CX P w) 2 (d_Ward_corners.adr K) fd ["self"] (spD K (tsK K) 1 φ_Ward_corners) ∧ Binds K fd ["self"] [] := by
  obtain ⟨fd, F⟩ := f_Ward_corners T
  refine ⟨fd, F, fn_ok F sc_Ward_corners fun cdv A outer s H E W hK ht hr => ?_, (F.bindsN fun _ _ _ _ _ _ us hl => match us, hl with | [_], _ => rfl)⟩
  exact (ds_one (ds_ret (dx_att (k := 0) (fcs := ["Ward"]) (ecs := []) (hK.symm) ht (fun c hc => by simp only [List.mem_cons, List.not_mem_nil, or_false] at hc; rcases hc with rfl <;> first | exact ⟨c_Ward T, na_Ward__corners T⟩) (fun _ h => by simp at h) tbl_nil (dx_var 0 (pv 0)) (hr.mono (by decide)))))

def w__law_heard (α : Ask) (f : Addr) : TSD := (sSeq (sSet 1 (dC .non))
  (sTry 3 1 ["TownError", "BadInput", "Refused", "BadTown", "BadWard", "BadText", "TooMany"] (sRet (dCB listD (dCons (dUnN (attD [] [] [("Ward", φ_Ward_corners)] "corners") (dAsk f α)) dNil))) (sSeq (sIf (dOr (dNot (dTru (isiD (isC [("Ward", false)] [("TownError", false), ("BadInput", false), ("Refused", false), ("BadTown", false), ("BadWard", false), ("BadText", true), ("TooMany", false)]) (dVar 1)))) (dNot (dTru (isiD (isC [("Ward", false)] [("TownError", false), ("BadInput", true), ("Refused", false), ("BadTown", true), ("BadWard", true), ("BadText", true), ("TooMany", false)]) (dVar 1))))) (sRet (dTup (dCons (dC (.str "odd")) dNil))) sNext)
  (sRet (dTup (dCons (dC (.str "text")) (dCons (dUnN (attD [] ["BadText"] [] "line") (dVar 1)) (dCons (dUnN (attD [] ["BadText"] [] "word") (dVar 1)) dNil))))))))

theorem sc__law_heard : FnScope ["_law_ask", "_law_caught", "error"] ["_law_ask"] (defScope s__law_heard) := ⟨rfl, rfl, rfl, by decide +kernel, rfl, by decide +kernel, by decide +kernel⟩

theorem gv__law_heard {X : Cx} {q : Str} {g : Addr} (T : Tx X.K X.mg) (gu : X.A.guards = some []) (hrr : Room 4 X.A) (cdg : Value) : GivesTo X ["_law_ask", "_law_caught", "error"] "_law_heard" (defScope s__law_heard) g cdg (defBody s__law_heard) "_law_ask" q (TTh X.K (tsK X.K) 3 w__law_heard) := by
  obtain ⟨P, w, K, mg, base, A0, N0, s0, H0, env0, outer0, stack0, ex0, fn0, calm0, pn0, xe0⟩ := X
  replace T : Tx K mg := T
  replace gu : A0.guards = some [] := gu
  replace hrr : Room 4 A0 := hrr
  obtain ⟨fd_Ward_corners, F_Ward_corners, G_Ward_corners, B_Ward_corners⟩ := q_Ward_corners (P := P) (w := w) (base := base) T
  refine gives_heard (Ng := ["_law_ask", "_law_caught", "error"]) rfl fun f s H W α hK ht hC ask => ?_
  replace hK : W.K = K := hK
  replace ht : W.ts = tsK K := ht
  dsimp only at ask
  have hr : Room 3 (cxOf C8.CX0 P w K mg base ["_law_ask", "_law_caught", "error"] "_law_heard" (defScope s__law_heard) g cdg A0 stack0 s H C8.E0).nox.A := hrr.deeper _
  have gu : (cxOf C8.CX0 P w K mg base ["_law_ask", "_law_caught", "error"] "_law_heard" (defScope s__law_heard) g cdg A0 stack0 s H C8.E0).nox.A.guards = some [] := gu
  show PSs (cxOf C8.CX0 P w K mg base ["_law_ask", "_law_caught", "error"] "_law_heard" (defScope s__law_heard) g cdg A0 stack0 s H C8.E0).nox _ (liftS W EF _)
  exact (ds_cons (ds_set (i := 1) sc__law_heard.nd rfl (Or.inl rfl) dx_non)
      (dss_try (cs := ["TownError", "BadInput", "Refused", "BadTown", "BadWard", "BadText", "TooMany"]) hC (hK.symm) rfl rfl rfl sc__law_heard.nd rfl rfl ⟨rfl, by decide, .inl (g_TownError T)⟩ (i := 2) (j := 1) (by decide) (show 1 < 3 by decide) (fun a ha => by simp only [List.mem_cons, List.not_mem_nil, or_false] at ha; rcases ha with rfl | rfl | rfl | rfl | rfl | rfl | rfl <;> first | exact ex_TownError_TownError T | exact ex_BadInput_TownError T | exact ex_Refused_TownError T | exact ex_BadTown_TownError T | exact ex_BadWard_TownError T | exact ex_BadText_TownError T | exact ex_TooMany_TownError T) (fun pn xe E' tk => (ds_one (ds_ret (dx_cty (cd_list (by rfl) (hK.symm)) (by rfl) (n_list T) (by decide +kernel) (da_cons (dx_att (k := 2) (fcs := []) (ecs := []) (hK.symm) ht (fun _ h => by simp at h) (fun _ h => by simp at h) (tbl_cons ⟨c_Ward T, _, _, _, pr_Ward_corners T, G_Ward_corners.mono (by decide), B_Ward_corners⟩ tbl_nil) (ask _ _ _ _ _ tk) (hr.mono (by decide))) da_nil))))) (fun a oe pn => pss_one (ps_set (i := 1) sc__law_heard.nd rfl (Or.inl rfl) (pv 2))) (ds_cons (ds_if (PW.pt (dw_or (dt_not (dt_tru (hK.symm) (dx_isC (C := "BadText") (cs := [("Ward", false)]) (es := [("TownError", false), ("BadInput", false), ("Refused", false), ("BadTown", false), ("BadWard", false), ("BadText", true), ("TooMany", false)]) (hK.symm) (fun c hc => by simp only [List.mem_cons, List.not_mem_nil, or_false] at hc; rcases hc with rfl <;> first | exact ⟨k_Ward_BadText T, jc_Ward T⟩) (fun c hc => by simp only [List.mem_cons, List.not_mem_nil, or_false] at hc; rcases hc with rfl | rfl | rfl | rfl | rfl | rfl | rfl <;> first | exact ⟨k_TownError_BadText T, (er_TownError T).c⟩ | exact ⟨k_BadInput_BadText T, (er_BadInput T).c⟩ | exact ⟨k_Refused_BadText T, (er_Refused T).c⟩ | exact ⟨k_BadTown_BadText T, (er_BadTown T).c⟩ | exact ⟨k_BadWard_BadText T, (er_BadWard T).c⟩ | exact ⟨k_BadText_BadText T, (er_BadText T).c⟩ | exact ⟨k_TooMany_BadText T, (er_TooMany T).c⟩) (fun a ha => by simp only [List.mem_cons, List.not_mem_nil, or_false] at ha; rcases ha with rfl | rfl | rfl | rfl | rfl | rfl | rfl <;> first | exact k_NoneType_BadText T | exact k_bool_BadText T | exact k_int_BadText T | exact k_str_BadText T | exact k_tuple_BadText T | exact k_list_BadText T | exact k_dict_BadText T) (by rfl) (n_isinstance T) (dx_var 1 (pv 1)) (pe_glob (v := .ref (He.ga _ "BadText")) rfl (g_BadText T) rfl)))) (dw_or1 (dt_not (dt_tru (hK.symm) (dx_isC (C := "BadInput") (cs := [("Ward", false)]) (es := [("TownError", false), ("BadInput", true), ("Refused", false), ("BadTown", true), ("BadWard", true), ("BadText", true), ("TooMany", false)]) (hK.symm) (fun c hc => by simp only [List.mem_cons, List.not_mem_nil, or_false] at hc; rcases hc with rfl <;> first | exact ⟨k_Ward_BadInput T, jc_Ward T⟩) (fun c hc => by simp only [List.mem_cons, List.not_mem_nil, or_false] at hc; rcases hc with rfl | rfl | rfl | rfl | rfl | rfl | rfl <;> first | exact ⟨k_TownError_BadInput T, (er_TownError T).c⟩ | exact ⟨k_BadInput_BadInput T, (er_BadInput T).c⟩ | exact ⟨k_Refused_BadInput T, (er_Refused T).c⟩ | exact ⟨k_BadTown_BadInput T, (er_BadTown T).c⟩ | exact ⟨k_BadWard_BadInput T, (er_BadWard T).c⟩ | exact ⟨k_BadText_BadInput T, (er_BadText T).c⟩ | exact ⟨k_TooMany_BadInput T, (er_TooMany T).c⟩) (fun a ha => by simp only [List.mem_cons, List.not_mem_nil, or_false] at ha; rcases ha with rfl | rfl | rfl | rfl | rfl | rfl | rfl <;> first | exact k_NoneType_BadInput T | exact k_bool_BadInput T | exact k_int_BadInput T | exact k_str_BadInput T | exact k_tuple_BadInput T | exact k_list_BadInput T | exact k_dict_BadInput T) (by rfl) (n_isinstance T) (dx_var 1 (pv 1)) (pe_glob (v := .ref (He.ga _ "BadInput")) rfl (g_BadInput T) rfl))))))) (ds_one (ds_ret (dx_tup (da_cons dx_str da_nil)))) ds_nil)
      (ds_one (ds_ret (dx_tup (da_cons dx_str (da_cons (dx_att (k := 0) (fcs := []) (ecs := ["BadText"]) (hK.symm) ht (fun _ h => by simp at h) (fun c hc => by simp only [List.mem_cons, List.not_mem_nil, or_false] at hc; rcases hc with rfl <;> first | exact ⟨(er_BadText T).f, xn_BadText_line T⟩) tbl_nil (dx_var 1 (pv 1)) (hr.mono (by decide))) (da_cons (dx_att (k := 0) (fcs := []) (ecs := ["BadText"]) (hK.symm) ht (fun _ h => by simp at h) (fun c hc => by simp only [List.mem_cons, List.not_mem_nil, or_false] at hc; rcases hc with rfl <;> first | exact ⟨(er_BadText T).f, xn_BadText_word T⟩) tbl_nil (dx_var 1 (pv 1)) (hr.mono (by decide))) da_nil))))))) (fun pn => (ds_cons (ds_if (PW.pt (dw_or (dt_not (dt_tru (hK.symm) (dx_isC (C := "BadText") (cs := [("Ward", false)]) (es := [("TownError", false), ("BadInput", false), ("Refused", false), ("BadTown", false), ("BadWard", false), ("BadText", true), ("TooMany", false)]) (hK.symm) (fun c hc => by simp only [List.mem_cons, List.not_mem_nil, or_false] at hc; rcases hc with rfl <;> first | exact ⟨k_Ward_BadText T, jc_Ward T⟩) (fun c hc => by simp only [List.mem_cons, List.not_mem_nil, or_false] at hc; rcases hc with rfl | rfl | rfl | rfl | rfl | rfl | rfl <;> first | exact ⟨k_TownError_BadText T, (er_TownError T).c⟩ | exact ⟨k_BadInput_BadText T, (er_BadInput T).c⟩ | exact ⟨k_Refused_BadText T, (er_Refused T).c⟩ | exact ⟨k_BadTown_BadText T, (er_BadTown T).c⟩ | exact ⟨k_BadWard_BadText T, (er_BadWard T).c⟩ | exact ⟨k_BadText_BadText T, (er_BadText T).c⟩ | exact ⟨k_TooMany_BadText T, (er_TooMany T).c⟩) (fun a ha => by simp only [List.mem_cons, List.not_mem_nil, or_false] at ha; rcases ha with rfl | rfl | rfl | rfl | rfl | rfl | rfl <;> first | exact k_NoneType_BadText T | exact k_bool_BadText T | exact k_int_BadText T | exact k_str_BadText T | exact k_tuple_BadText T | exact k_list_BadText T | exact k_dict_BadText T) (by rfl) (n_isinstance T) (dx_var 1 (pv 1)) (pe_glob (v := .ref (He.ga _ "BadText")) rfl (g_BadText T) rfl)))) (dw_or1 (dt_not (dt_tru (hK.symm) (dx_isC (C := "BadInput") (cs := [("Ward", false)]) (es := [("TownError", false), ("BadInput", true), ("Refused", false), ("BadTown", true), ("BadWard", true), ("BadText", true), ("TooMany", false)]) (hK.symm) (fun c hc => by simp only [List.mem_cons, List.not_mem_nil, or_false] at hc; rcases hc with rfl <;> first | exact ⟨k_Ward_BadInput T, jc_Ward T⟩) (fun c hc => by simp only [List.mem_cons, List.not_mem_nil, or_false] at hc; rcases hc with rfl | rfl | rfl | rfl | rfl | rfl | rfl <;> first | exact ⟨k_TownError_BadInput T, (er_TownError T).c⟩ | exact ⟨k_BadInput_BadInput T, (er_BadInput T).c⟩ | exact ⟨k_Refused_BadInput T, (er_Refused T).c⟩ | exact ⟨k_BadTown_BadInput T, (er_BadTown T).c⟩ | exact ⟨k_BadWard_BadInput T, (er_BadWard T).c⟩ | exact ⟨k_BadText_BadInput T, (er_BadText T).c⟩ | exact ⟨k_TooMany_BadInput T, (er_TooMany T).c⟩) (fun a ha => by simp only [List.mem_cons, List.not_mem_nil, or_false] at ha; rcases ha with rfl | rfl | rfl | rfl | rfl | rfl | rfl <;> first | exact k_NoneType_BadInput T | exact k_bool_BadInput T | exact k_int_BadInput T | exact k_str_BadInput T | exact k_tuple_BadInput T | exact k_list_BadInput T | exact k_dict_BadInput T) (by rfl) (n_isinstance T) (dx_var 1 (pv 1)) (pe_glob (v := .ref (He.ga _ "BadInput")) rfl (g_BadInput T) rfl))))))) (ds_one (ds_ret (dx_tup (da_cons dx_str da_nil)))) ds_nil)
      (ds_one (ds_ret (dx_tup (da_cons dx_str (da_cons (dx_att (k := 0) (fcs := []) (ecs := ["BadText"]) (hK.symm) ht (fun _ h => by simp at h) (fun c hc => by simp only [List.mem_cons, List.not_mem_nil, or_false] at hc; rcases hc with rfl <;> first | exact ⟨(er_BadText T).f, xn_BadText_line T⟩) tbl_nil (dx_var 1 (pv 1)) (hr.mono (by decide))) (da_cons (dx_att (k := 0) (fcs := []) (ecs := ["BadText"]) (hK.symm) ht (fun _ h => by simp at h) (fun c hc => by simp only [List.mem_cons, List.not_mem_nil, or_false] at hc; rcases hc with rfl <;> first | exact ⟨(er_BadText T).f, xn_BadText_word T⟩) tbl_nil (dx_var 1 (pv 1)) (hr.mono (by decide))) da_nil))))))))))

def w_is_ward_text : TSD := (sSeq (sIf (dNot (dTru (isiD (isB "str" ["Ward"]) (dVar 0)))) (sRet (dC (.bl false))) sNext)
  (sSeq (sSet 1 (dBm splitD (dVar 0) (dCons (dC (.str ",")) dNil)))
  (sSeq (sIf (dOr (dTest (dOp2 gtD (dUnN (selLen [("Ward", φ_Ward_len)] (list1 lenD)) (dVar 1)) (dC (.int 7)))) (dNot (dTru (dCB (allD fun bs => bs.all id) (dCons (dLc (iOb [("Ward", "_corners")] (dVar 1)) 2 dTrue (dCall 1 φ_is_name [] (dCons (dVar 2) dNil))) dNil))))) (sRet (dC (.bl false))) sNext)
  (sRet (dOpN (selN [("Ward", φ_Ward_eq)] (okR ["Ward"]) (pureN eqD)) (dCall 1 φ_ascending [] (dCons (dVar 1) dNil)) (dCB tupleD (dCons (dVar 1) dNil)))))))

def φ_is_ward_text : FD := fnD 3 w_is_ward_text

theorem sc_is_ward_text : FnScope ["value", "words", "word"] ["value"] (defScope s_is_ward_text) := ⟨rfl, rfl, rfl, by decide +kernel, rfl, by decide +kernel, by decide +kernel⟩

theorem q_is_ward_text (T : Tx K mg) : ∃ fd, Fd K d_is_ward_text fd ∧ FnOk P w K mg base (L2.CX P w) 6 (d_is_ward_text.adr K) fd ["value"] (spD K (tsK K) 1 φ_is_ward_text) ∧ Binds K fd ["value"] [] := by
  obtain ⟨fd, F⟩ := f_is_ward_text T
  obtain ⟨fd_is_name, F_is_name, G_is_name, B_is_name⟩ := q_is_name (P := P) (w := w) (base := base) T
  obtain ⟨fd_Ward_len, F_Ward_len, G_Ward_len, B_Ward_len⟩ := q_Ward_len (P := P) (w := w) (base := base) T
  obtain ⟨fd_ascending, F_ascending, G_ascending, B_ascending⟩ := q_ascending (P := P) (w := w) (base := base) T
  obtain ⟨fd_Ward_eq, F_Ward_eq, G_Ward_eq, B_Ward_eq⟩ := q_Ward_eq (P := P) (w := w) (base := base) T
  obtain ⟨t_MOST_CORNERS, h_MOST_CORNERS⟩ := i_MOST_CORNERS T (v := 7) rfl rfl
  refine ⟨fd, F, fn_ok F sc_is_ward_text fun cdv A outer s H E W hK ht hr => ?_, (F.bindsN fun _ _ _ _ _ _ us hl => match us, hl with | [_], _ => rfl)⟩
  exact (ds_cons (ds_if (dt_not (dt_tru (hK.symm) (dx_isB (T := "str") (cs := ["Ward"]) (hK.symm) (fun c hc => by simp only [List.mem_cons, List.not_mem_nil, or_false] at hc; rcases hc with rfl <;> first | exact ⟨k_Ward_str T, jc_Ward T⟩) (by rfl) (n_isinstance T) (dx_var 0 (pv 0)) (pe_bltn (v := .ty "str") (by rfl) (n_str T) (by decide +kernel) rfl)))) (ds_one (ds_ret dx_bl)) ds_nil)
      (ds_cons (ds_set (i := 1) sc_is_ward_text.nd rfl (Or.inl rfl) (dx_bm PySem.F.slot_str_split PySem.F.type_str_split bm_split (dx_var 0 (pv 0)) (da_cons dx_str da_nil)))
      (ds_cons (ds_if (PW.pt (dw_or (dt_cmp od_gt (dx_cb1 (cn_len (k := 2) (hK.symm) ht (tbl_cons ⟨_, _, _, m_Ward_len T, rfl, G_Ward_len.mono (by decide), B_Ward_len, trivial⟩ tbl_nil) (hr.mono (by decide)) (passes_call (takes_of rfl rfl rfl rfl) (fun _ _ _ _ h => h)) (cn_list (cd_len (hK.symm)))) (by rfl) (n_len T) (by decide +kernel) (dx_var 1 (pv 1))) (dx_c (pe_glob (v := .int 7) rfl h_MOST_CORNERS ⟨_, rfl⟩) (fun _ _ => .int _)) (nomark _)) (dw_or1 (dt_not (dt_tru (hK.symm) (dx_cb (cd_all rfl) (by rfl) (n_all T) (by decide +kernel) (da_cons (dx_lc (hK.symm) (by rfl) sc_is_ward_text.nd (di_ob (tbl := [("Ward", "_corners")]) (k := 1) (hK.symm) (fun c f h => it_tbl T h) (hr.mono (by decide)) (dx_var 1 (pv 1))) (blkOk_by (own := [("word", 2)]) (N := ["value", "words", "word"]) (sc := defScope s_is_ward_text) (by decide +kernel)) (fun _ _ _ _ _ => pg_name (i := 2) sc_is_ward_text.nd rfl (Or.inl rfl)) (fun W1 k1 t1 _ _ _ _ _ => dts_nil) (fun W1 k1 t1 _ _ _ _ _ => (dx_call' ((k1.trans hK).symm) (t1.trans ht) G_is_name (hr.mono (by decide)) (by rfl) (g_is_name T) F_is_name.kp B_is_name .nil (fun _ _ _ => .nil) passF (da_cons (dx_var 2 (pv 2)) da_nil)))) da_nil))))))) (ds_one (ds_ret dx_bl)) ds_nil)
      (ds_one (ds_ret (dx_cmpN (on_cmp (k := 2) (cs := ["Ward"]) (fun _ _ => rfl) (nm := "__eq__") rfl (hK.symm) ht (tbl_cons ⟨_, _, _, m_Ward_eq T, rfl, G_Ward_eq.mono (by decide), B_Ward_eq, (ri_Ward T)⟩ tbl_nil) (hr.mono (by decide)) (passes_call (takes_of rfl rfl rfl rfl) (fun _ _ _ _ h => h)) (on_pure (od_eq (hK.symm) (hu64 hr)))) (dx_call' (hK.symm) ht G_ascending (hr.mono (by decide)) (by rfl) (g_ascending T) F_ascending.kp B_ascending .nil (fun _ _ _ => .nil) (passes_call (takes_of rfl rfl rfl rfl) (fun _ _ _ _ h => h)) (da_cons (dx_var 1 (pv 1)) da_nil)) (dx_cty (cd_tuple (hK.symm)) (by rfl) (n_tuple T) (by decide +kernel) (da_cons (dx_var 1 (pv 1)) da_nil)) (nomark _)))))))

def w_Ward_read : TSD := (sSeq (sIf (dNot (dTru (dCall 1 φ_is_ward_text [] (dCons (dVar 1) dNil)))) (sRaise "BadText" ["line", "word"] (dCons (dC (.int 0)) (dCons (dC (.int 0)) dNil))) sNext)
  (sSeq (sSet 2 (dBm splitD (dVar 1) (dCons (dC (.str ",")) dNil)))
  (sRet (dSV "Ward" 0 φ_Ward_init (dVar 2)))))

def φ_Ward_read : FD := fnD 3 w_Ward_read

theorem sc_Ward_read : FnScope ["cls", "text", "corners"] ["cls", "text"] (defScope s_Ward_read) := ⟨rfl, rfl, rfl, by decide +kernel, rfl, by decide +kernel, by decide +kernel⟩

theorem q_Ward_read (T : Tx K mg) : ∃ fd, Fd K d_Ward_read fd ∧ FnOk P w K mg base (L2.CX P w) 8 (d_Ward_read.adr K) fd ["cls", "text"] (spD K (tsK K) 2 φ_Ward_read) ∧ Binds K fd ["cls", "text"] [] := by
  obtain ⟨fd, F⟩ := f_Ward_read T
  obtain ⟨fd_is_ward_text, F_is_ward_text, G_is_ward_text, B_is_ward_text⟩ := q_is_ward_text (P := P) (w := w) (base := base) T
  obtain ⟨fd_BadText_in, F_BadText_in, G_BadText_in, B_BadText_in⟩ := qi_BadText (P := P) (w := w) (base := base) T
  obtain ⟨F_Ward_init, G_Ward_init⟩ := q_Ward_init (P := P) (w := w) (base := base) T
  refine ⟨fd, F, fn_ok F sc_Ward_read fun cdv A outer s H E W hK ht hr => ?_, (F.bindsN fun _ _ _ _ _ _ us hl => match us, hl with | [_, _], _ => rfl)⟩
  exact (ds_cons (ds_if (dt_not (dt_tru (hK.symm) (dx_call' (hK.symm) ht G_is_ward_text (hr.mono (by decide)) (by rfl) (g_is_ward_text T) F_is_ward_text.kp B_is_ward_text .nil (fun _ _ _ => .nil) (passes_call (takes_of rfl rfl rfl rfl) (fun _ _ _ _ h => h)) (da_cons (dx_var 1 (pv 1)) da_nil)))) (ds_one (ds_raise (fs := ["line", "word"]) (hK.symm) (by rfl) (takes_of rfl rfl rfl rfl) (er_BadText T).o (in_BadText T).1 (in_BadText T).2 G_BadText_in (hr.mono (by decide)) B_BadText_in (by rfl) (g_BadText T) (by decide) (da_cons dx_int (da_cons dx_int da_nil)))) ds_nil)
      (ds_cons (ds_set (i := 2) sc_Ward_read.nd rfl (Or.inl rfl) (dx_bm PySem.F.slot_str_split PySem.F.type_str_split bm_split (dx_var 1 (pv 1)) (da_cons dx_str da_nil)))
      (ds_one (ds_ret (dx_makeSV (i := 0) (hK.symm) ht (mk_Ward T) G_Ward_init (hr.mono (by decide)) (dx_var 0 (pv 0)) (passes_call (takes_of rfl rfl rfl rfl) (fun _ _ _ _ h => h)) (dx_var 2 (pv 2)))))))

def w_Ward_sub : TSD := (sSeq (sDrop (dCall 1 φ_check_ward [] (dCons (dVar 1) dNil)))
  (sSeq (sSet 2 (dLc (iOb [("Ward", "_corners")] (dUnN (attD ["Ward"] [] [] "_corners") (dVar 0))) 3 (dTest (dOpN (selR true [("Ward", φ_Ward_contains)] (inX true [("Ward", φ_Ward_eq)] (pureN (inD true)))) (dVar 3) (dUnN (attD ["Ward"] [] [] "_corners") (dVar 1)))) (dVar 3)))
  (sRet (dSt φ_Ward_init (dVar 2)))))

def φ_Ward_sub : FD := fnD 4 w_Ward_sub

theorem sc_Ward_sub : FnScope ["self", "other", "corners", "corner"] ["self", "other"] (defScope s_Ward_sub) := ⟨rfl, rfl, rfl, by decide +kernel, rfl, by decide +kernel, by decide +kernel⟩

theorem q_Ward_sub (T : Tx K mg) : ∃ fd, Fd K d_Ward_sub fd ∧ FnOk P w K mg base (L2.CX P w) 8 (d_Ward_sub.adr K) fd ["self", "other"] (spD K (tsK K) 2 φ_Ward_sub) ∧ Binds K fd ["self", "other"] [] := by
  obtain ⟨fd, F⟩ := f_Ward_sub T
  obtain ⟨fd_check_ward, F_check_ward, G_check_ward, B_check_ward⟩ := q_check_ward (P := P) (w := w) (base := base) T
  obtain ⟨fd_Ward_eq, F_Ward_eq, G_Ward_eq, B_Ward_eq⟩ := q_Ward_eq (P := P) (w := w) (base := base) T
  obtain ⟨fd_Ward_contains, F_Ward_contains, G_Ward_contains, B_Ward_contains⟩ := q_Ward_contains (P := P) (w := w) (base := base) T
  obtain ⟨F_Ward_init, G_Ward_init⟩ := q_Ward_init (P := P) (w := w) (base := base) T
  refine ⟨fd, F, fn_ok F sc_Ward_sub fun cdv A outer s H E W hK ht hr => ?_, (F.bindsN fun _ _ _ _ _ _ us hl => match us, hl with | [_, _], _ => rfl)⟩
  exact (ds_cons (ds_expr (dx_call' (hK.symm) ht G_check_ward (hr.mono (by decide)) (by rfl) (g_check_ward T) F_check_ward.kp B_check_ward .nil (fun _ _ _ => .nil) (passes_call (takes_of rfl rfl rfl rfl) (fun _ _ _ _ h => h)) (da_cons (dx_var 1 (pv 1)) da_nil)))
      (ds_cons (ds_setLc (i := 2) (hK.symm) (by rfl) sc_Ward_sub.nd rfl rfl rfl (di_ob (tbl := [("Ward", "_corners")]) (k := 1) (hK.symm) (fun c f h => it_tbl T h) (hr.mono (by decide)) (dx_att (k := 0) (fcs := ["Ward"]) (ecs := []) (hK.symm) ht (fun c hc => by simp only [List.mem_cons, List.not_mem_nil, or_false] at hc; rcases hc with rfl <;> first | exact ⟨c_Ward T, na_Ward__corners T⟩) (fun _ h => by simp at h) tbl_nil (dx_var 0 (pv 0)) (hr.mono (by decide)))) (blkOk_by (own := [("corner", 3)]) (N := ["self", "other", "corners", "corner"]) (sc := defScope s_Ward_sub) (by decide +kernel)) (fun _ _ _ _ _ => pg_name (i := 3) sc_Ward_sub.nd rfl (Or.inl rfl)) (fun W1 k1 t1 _ _ _ _ _ => (dts_one (dt_cmpN (on_notIn (k := 4) ((k1.trans hK).symm) (t1.trans ht) (tbl_cons ⟨_, _, _, m_Ward_contains T, rfl, G_Ward_contains.mono (by decide), B_Ward_contains, trivial⟩ tbl_nil) (hr.mono (by decide)) passF (on_notInX (k := 2) ((k1.trans hK).symm) (t1.trans ht) (tbl_cons ⟨_, _, _, m_Ward_eq T, rfl, G_Ward_eq.mono (by decide), B_Ward_eq, (su_Ward T)⟩ tbl_nil) (hr.mono (by decide)) passF (on_pure (od_notIn ((k1.trans hK).symm) (hu65 hr))))) (dx_var 3 (pv 3)) (dx_att (k := 0) (fcs := ["Ward"]) (ecs := []) ((k1.trans hK).symm) (t1.trans ht) (fun c hc => by simp only [List.mem_cons, List.not_mem_nil, or_false] at hc; rcases hc with rfl <;> first | exact ⟨c_Ward T, na_Ward__corners T⟩) (fun _ h => by simp at h) tbl_nil (dx_var 1 (pv 1)) (hr.mono (by decide))) rfl))) (fun W1 k1 t1 _ _ _ _ _ => (dx_var 3 (pv 3))))
      (ds_one (ds_ret (dx_makeS' (hK.symm) ht (mk_Ward T) G_Ward_init (hr.mono (by decide)) (by rfl) (g_Ward T) (passes_call (takes_of rfl rfl rfl rfl) (fun _ _ _ _ h => h)) (dx_var 2 (pv 2)))))))

def w__law_is_name : TSD := (sSeq (sIf (dNot (dTest (dChain leD leD (dC (.int 1)) (dUnN (selLen [("Ward", φ_Ward_len)] (list1 lenD)) (dVar 0)) (dC (.int 8))))) (sRet (dC (.bl false))) sNext)
  (sRet (dOp2 eqD (dLc (iOb [("Ward", "_corners")] (dVar 0)) 1 (dTest (dOp2 (inD true) (dVar 1) (dC (.str "abcdefghijklmnopqrstuvwxyz")))) (dVar 1)) (dLst dNil))))

def φ__law_is_name : FD := fnD 2 w__law_is_name

theorem sc__law_is_name : FnScope ["_law_term", "_law_sign"] ["_law_term"] (defScope s__law_is_name) := ⟨rfl, rfl, rfl, by decide +kernel, rfl, by decide +kernel, by decide +kernel⟩

theorem q__law_is_name (T : Tx K mg) : ∃ fd, Fd K d__law_is_name fd ∧ FnOk P w K mg base (L2.CX P w) 5 (d__law_is_name.adr K) fd ["_law_term"] (spD K (tsK K) 1 φ__law_is_name) ∧ Binds K fd ["_law_term"] [] := by
  obtain ⟨fd, F⟩ := f__law_is_name T
  obtain ⟨fd_Ward_len, F_Ward_len, G_Ward_len, B_Ward_len⟩ := q_Ward_len (P := P) (w := w) (base := base) T
  refine ⟨fd, F, fn_ok F sc__law_is_name fun cdv A outer s H E W hK ht hr => ?_, (F.bindsN fun _ _ _ _ _ _ us hl => match us, hl with | [_], _ => rfl)⟩
  exact (ds_cons (ds_if (dt_not (dt_chain od_le od_le dx_int (dx_cb1 (cn_len (k := 2) (hK.symm) ht (tbl_cons ⟨_, _, _, m_Ward_len T, rfl, G_Ward_len.mono (by decide), B_Ward_len, trivial⟩ tbl_nil) (hr.mono (by decide)) (passes_call (takes_of rfl rfl rfl rfl) (fun _ _ _ _ h => h)) (cn_list (cd_len (hK.symm)))) (by rfl) (n_len T) (by decide +kernel) (dx_var 0 (pv 0))) dx_int)) (ds_one (ds_ret dx_bl)) ds_nil)
      (ds_one (ds_ret (dx_cmp (od_eq (hK.symm) (hu64 hr)) (dx_lc (hK.symm) (by rfl) sc__law_is_name.nd (di_ob (tbl := [("Ward", "_corners")]) (k := 1) (hK.symm) (fun c f h => it_tbl T h) (hr.mono (by decide)) (dx_var 0 (pv 0))) (blkOk_by (own := [("_law_sign", 1)]) (N := ["_law_term", "_law_sign"]) (sc := defScope s__law_is_name) (by decide +kernel)) (fun _ _ _ _ _ => pg_name (i := 1) sc__law_is_name.nd rfl (Or.inl rfl)) (fun W1 k1 t1 _ _ _ _ _ => (dts_one (dt_cmp (od_notIn ((k1.trans hK).symm) (hu65 hr)) (dx_var 1 (pv 1)) dx_str rfl))) (fun W1 k1 t1 _ _ _ _ _ => (dx_var 1 (pv 1)))) (dx_lst da_nil) (nomark _)))))

def w__law_due : TSD := (sSeq (sSet 1 (dBm splitD (dVar 0) (dCons (dC (.str ",")) dNil)))
  (sSeq (sIf (dOr (dTest (dOp2 gtD (dUnN (selLen [("Ward", φ_Ward_len)] (list1 lenD)) (dVar 1)) (dC (.int 7)))) (dTest (dOp2 neD (dLc (iOb [("Ward", "_corners")] (dVar 1)) 2 (dNot (dTru (dCall 1 φ__law_is_name [] (dCons (dVar 2) dNil)))) (dVar 2)) (dLst dNil)))) (sRet (dC .non)) sNext)
  (sSeq (sSet 3 (dLc (iRg2 (dC (.int 1)) (dUnN (selLen [("Ward", φ_Ward_len)] (list1 lenD)) (dVar 1))) 4 (dTest (dOp2 geD (dOp2 ixD (dVar 1) (dOpN (selN [("Ward", φ_Ward_sub)] (okR ["Ward"]) (pureN subD)) (dVar 4) (dC (.int 1)))) (dOp2 ixD (dVar 1) (dVar 4)))) (dVar 4)))
  (sRet (dIf (dTest (dOpN (selN [("Ward", φ_Ward_eq)] (okR ["Ward"]) (pureN eqD)) (dVar 3) (dLst dNil))) (dVar 1) (dC .non))))))

def φ__law_due : FD := fnD 5 w__law_due

theorem sc__law_due : FnScope ["_law_page", "_law_terms", "_law_term", "_law_late", "_law_k"] ["_law_page"] (defScope s__law_due) := ⟨rfl, rfl, rfl, by decide +kernel, rfl, by decide +kernel, by decide +kernel⟩

theorem q__law_due (T : Tx K mg) : ∃ fd, Fd K d__law_due fd ∧ FnOk P w K mg base (L2.CX P w) 9 (d__law_due.adr K) fd ["_law_page"] (spD K (tsK K) 1 φ__law_due) ∧ Binds K fd ["_law_page"] [] := by
  obtain ⟨fd, F⟩ := f__law_due T
  obtain ⟨fd__law_is_name, F__law_is_name, G__law_is_name, B__law_is_name⟩ := q__law_is_name (P := P) (w := w) (base := base) T
  obtain ⟨fd_Ward_len, F_Ward_len, G_Ward_len, B_Ward_len⟩ := q_Ward_len (P := P) (w := w) (base := base) T
  obtain ⟨fd_Ward_sub, F_Ward_sub, G_Ward_sub, B_Ward_sub⟩ := q_Ward_sub (P := P) (w := w) (base := base) T
  obtain ⟨fd_Ward_eq, F_Ward_eq, G_Ward_eq, B_Ward_eq⟩ := q_Ward_eq (P := P) (w := w) (base := base) T
  refine ⟨fd, F, fn_ok F sc__law_due fun cdv A outer s H E W hK ht hr => ?_, (F.bindsN fun _ _ _ _ _ _ us hl => match us, hl with | [_], _ => rfl)⟩
  exact (ds_cons (ds_set (i := 1) sc__law_due.nd rfl (Or.inr rfl) (dx_bm PySem.F.slot_str_split PySem.F.type_str_split bm_split (dx_var 0 (pv 0)) (da_cons dx_str da_nil)))
      (ds_cons (ds_if (PW.pt (dw_or (dt_cmp od_gt (dx_cb1 (cn_len (k := 2) (hK.symm) ht (tbl_cons ⟨_, _, _, m_Ward_len T, rfl, G_Ward_len.mono (by decide), B_Ward_len, trivial⟩ tbl_nil) (hr.mono (by decide)) (passes_call (takes_of rfl rfl rfl rfl) (fun _ _ _ _ h => h)) (cn_list (cd_len (hK.symm)))) (by rfl) (n_len T) (by decide +kernel) (dx_var 1 (pv 1))) dx_int (nomark _)) (dw_or1 (dt_cmp (od_ne (hK.symm) (hu64 hr)) (dx_lc (hK.symm) (by rfl) sc__law_due.nd (di_ob (tbl := [("Ward", "_corners")]) (k := 1) (hK.symm) (fun c f h => it_tbl T h) (hr.mono (by decide)) (dx_var 1 (pv 1))) (blkOk_by (own := [("_law_term", 2)]) (N := ["_law_page", "_law_terms", "_law_term", "_law_late", "_law_k"]) (sc := defScope s__law_due) (by decide +kernel)) (fun _ _ _ _ _ => pg_name (i := 2) sc__law_due.nd rfl (Or.inl rfl)) (fun W1 k1 t1 _ _ _ _ _ => (dts_one (dt_not (dt_tru ((k1.trans hK).symm) (dx_call' ((k1.trans hK).symm) (t1.trans ht) G__law_is_name (hr.mono (by decide)) (by rfl) (g__law_is_name T) F__law_is_name.kp B__law_is_name .nil (fun _ _ _ => .nil) passF (da_cons (dx_var 2 (pv 2)) da_nil)))))) (fun W1 k1 t1 _ _ _ _ _ => (dx_var 2 (pv 2)))) (dx_lst da_nil) (nomark _))))) (ds_one (ds_ret dx_non)) ds_nil)
      (ds_cons (ds_setLc (i := 3) (hK.symm) (by rfl) sc__law_due.nd rfl rfl rfl (di_range2 (by rfl) (n_range T) dx_int (dx_cb1 (cn_len (k := 2) (hK.symm) ht (tbl_cons ⟨_, _, _, m_Ward_len T, rfl, G_Ward_len.mono (by decide), B_Ward_len, trivial⟩ tbl_nil) (hr.mono (by decide)) (passes_call (takes_of rfl rfl rfl rfl) (fun _ _ _ _ h => h)) (cn_list (cd_len (hK.symm)))) (by rfl) (n_len T) (by decide +kernel) (dx_var 1 (pv 1)))) (blkOk_by (own := [("_law_k", 4)]) (N := ["_law_page", "_law_terms", "_law_term", "_law_late", "_law_k"]) (sc := defScope s__law_due) (by decide +kernel)) (fun _ _ _ _ _ => pg_name (i := 4) sc__law_due.nd rfl (Or.inl rfl)) (fun W1 k1 t1 _ _ _ _ _ => (dts_one (dt_cmp od_ge (dx_ix ((k1.trans hK).symm) (dx_var 1 (pv 1)) (dx_opN (on_bin (k := 8) (cs := ["Ward"]) rfl rfl ((k1.trans hK).symm) (t1.trans ht) (tbl_cons ⟨_, _, _, m_Ward_sub T, rfl, G_Ward_sub.mono (by decide), B_Ward_sub, ⟨(bi_Ward_sub T).1, (bi_Ward_sub T).2, (fun c hc => by simp only [List.mem_cons, List.not_mem_nil, or_false] at hc; subst hc; exact ⟨jc_Ward T, rfl⟩)⟩⟩ tbl_nil) (hr.mono (by decide)) passF (on_pure od_sub)) (dx_var 4 (pv 4)) dx_int) (fun _ _ => rfl)) (dx_ix ((k1.trans hK).symm) (dx_var 1 (pv 1)) (dx_var 4 (pv 4)) (fun _ _ => rfl)) (nomark _)))) (fun W1 k1 t1 _ _ _ _ _ => (dx_var 4 (pv 4))))
      (ds_one (ds_ret (dx_if (dt_cmpN (on_cmp (k := 2) (cs := ["Ward"]) (fun _ _ => rfl) (nm := "__eq__") rfl (hK.symm) ht (tbl_cons ⟨_, _, _, m_Ward_eq T, rfl, G_Ward_eq.mono (by decide), B_Ward_eq, (ri_Ward T)⟩ tbl_nil) (hr.mono (by decide)) (passes_call (takes_of rfl rfl rfl rfl) (fun _ _ _ _ h => h)) (on_pure (od_eq (hK.symm) (hu64 hr)))) (dx_var 3 (pv 3)) (dx_lst da_nil) (nomark _)) (dx_var 1 (pv 1)) dx_non))))))

def w__law_right : TSD := (sSeq (sSet 1 (dCall 1 φ__law_due [] (dCons (dVar 0) dNil)))
  (sSeq (sOwn 2 (fLst (dCons (dHeard 3 w__law_heard (dCm [("Ward", (fillD 2 [] φ_Ward_read))] (dC (.cl "Ward")) (dArg0 1 (dCons (dVar 0) dNil)))) dNil)))
  (sSeq (sApp 2 (dHeard 3 w__law_heard (dCm [("Ward", (kwD 2 1 (fun us ws => us ++ (ws.drop 0).take 1) φ_Ward_read))] (dC (.cl "Ward")) (dArg0 1 (dCons (dVar 0) dNil)))))
  (sFz 2 (sRet (dOp2 eqD (dCB reprD (dCons (dVar 2) dNil)) (dCB reprD (dCons (dOp2 mulD (dLst (dCons (dIf (dTest (dOp2 (isNone false) (dVar 1) (dC .non))) (dTup (dCons (dC (.str "text")) (dCons (dC (.int 0)) (dCons (dC (.int 0)) dNil)))) (dVar 1)) dNil)) (dC (.int 2))) dNil))))))))

def φ__law_right : FD := fnD 3 w__law_right

theorem sc__law_right : FnScope ["_law_page", "_law_due_here", "_law_heard_here"] ["_law_page"] (defScope s__law_right) := ⟨rfl, rfl, rfl, by decide +kernel, rfl, by decide +kernel, by decide +kernel⟩

theorem q__law_right (T : Tx K mg) (tb : ∀ p ∈ csK K, TabB base mg p.1 p.2) : ∃ fd, Fd K d__law_right fd ∧ FnG P w K mg base (L2.CX P w) 11 (d__law_right.adr K) fd ["_law_page"] (spD K (tsK K) 1 φ__law_right) ∧ Binds K fd ["_law_page"] [] := by
  obtain ⟨fd, F⟩ := f__law_right T
  obtain ⟨fd__law_due, F__law_due, G__law_due, B__law_due⟩ := q__law_due (P := P) (w := w) (base := base) T
  obtain ⟨fd__law_heard, F__law_heard⟩ := f__law_heard T
  have B__law_heard := F__law_heard.bindsN (ps := ["_law_ask"]) fun _ _ _ _ _ _ us hl => match us, hl with | [_], _ => rfl
  obtain ⟨fd_Ward_read, F_Ward_read, G_Ward_read, B_Ward_read⟩ := q_Ward_read (P := P) (w := w) (base := base) T
  have hb_Ward_read_1_text := kbN (ps := ["cls", "text"]) F_Ward_read 1 ["text"] (fun us ws => us ++ (ws.drop 0).take 1) (fun r1 r3 => (r1).append ((r3.drop 0).take 1)) (fun kV doc pm an cdv ct us ws h1 h2 => match us, ws, h1, h2 with | [_], [_], _, _ => rfl)
  refine ⟨fd, F, fn_t (pd := ("_law_right", none)) rfl F sc__law_right fun A outer s H E W hK ht hr gu => ?_, (F.bindsN fun _ _ _ _ _ _ us hl => match us, hl with | [_], _ => rfl)⟩
  exact (ds_cons (ds_set (i := 1) sc__law_right.nd rfl (Or.inl rfl) (dx_call' (hK.symm) ht G__law_due (hr.mono (by decide)) (by rfl) (g__law_due T) F__law_due.kp B__law_due .nil (fun _ _ _ => .nil) (passes_call (takes_of rfl rfl rfl rfl) (fun _ _ _ _ h => h)) (da_cons (dx_var 0 (pv 0)) da_nil)))
      (ds_cons (ds_own (i := 2) sc__law_right.nd rfl (Or.inl rfl) (Or.inl rfl) (df_lst (da_cons (dx_heard (k := 8) (te := (dCm [("Ward", (fillD 2 [] φ_Ward_read))] (dC (.cl "Ward")) (dArg0 1 (dCons (dVar 0) dNil)))) (hK.symm) ht (by rfl) (g__law_heard T) F__law_heard B__law_heard sc__law_heard rfl (.inl rfl) (fun cdg => gv__law_heard T gu (hr.mono (by decide)) cdg) (tb _ (List.mem_of_getElem? (i := 0) rfl)) rfl (List.mem_of_getElem? (i := 0) rfl) (fun p hp h => hu__law_right T p hp h) (hr.mono (by decide)) (lamS_by (sc := defScope s__law_right) (by decide +kernel)) rfl (fun _ _ _ _ _ => rfl) (fun _ _ _ _ _ _ _ W1 k1 t1 hr1 => (dx_cm (k := 8) (m := 1) (ks := []) (k1.symm) t1 (tbl_cons ⟨_, _, _, cr_Ward T, cm_Ward_read T, (ans_fn G_Ward_read B_Ward_read .nil (fun _ _ _ => .nil) 2)⟩ tbl_nil) (dx_cls (by rfl) (by rw [k1]; exact g_Ward T)) (hr1.mono (by decide)) (passes_call (takes_of rfl rfl rfl rfl) (fun _ _ _ _ h => h)) (ev_pos 1 (da_cons (dx_var 0 (pv 0)) da_nil))))) da_nil)))
      (ds_cons (ds_app (i := 2) (pv 2) (dx_heard (k := 8) (te := (dCm [("Ward", (kwD 2 1 (fun us ws => us ++ (ws.drop 0).take 1) φ_Ward_read))] (dC (.cl "Ward")) (dArg0 1 (dCons (dVar 0) dNil)))) (hK.symm) ht (by rfl) (g__law_heard T) F__law_heard B__law_heard sc__law_heard rfl (.inl rfl) (fun cdg => gv__law_heard T gu (hr.mono (by decide)) cdg) (tb _ (List.mem_of_getElem? (i := 0) rfl)) rfl (List.mem_of_getElem? (i := 0) rfl) (fun p hp h => hu__law_right T p hp h) (hr.mono (by decide)) (lamS_by (sc := defScope s__law_right) (by decide +kernel)) rfl (fun _ _ _ _ _ => rfl) (fun _ _ _ _ _ _ _ W1 k1 t1 hr1 => (dx_cm (k := 8) (m := 0) (ks := ["text"]) (k1.symm) t1 (tbl_cons ⟨_, _, _, cr_Ward T, cm_Ward_read T, (ans_kw G_Ward_read hb_Ward_read_1_text (fun _ _ _ _ _ _ _ _ r1 r3 => (r1).append (RpL.take 1 (RpL.drop 0 r3))))⟩ tbl_nil) (dx_cls (by rfl) (by rw [k1]; exact g_Ward T)) (hr1.mono (by decide)) (passes_call (takes_of rfl rfl rfl rfl) (fun _ _ _ _ h => h)) (ev_kw (ks := ["text"]) (dk_cons (dx_var 0 (pv 0)) dk_nil))))))
      (dss_fz 2 (ds_one (ds_ret (dx_cmp (od_eq (hK.symm) (hu64 hr)) (dx_cb (cd_repr (hK.symm) (sm_ok T) gu (hu64 hr)) (by rfl) (n_repr T) (by decide +kernel) (da_cons (dx_var 2 (pv 2)) da_nil)) (dx_cb (cd_repr (hK.symm) (sm_ok T) gu (hu64 hr)) (by rfl) (n_repr T) (by decide +kernel) (da_cons (dx_op od_mul (dx_lst (da_cons (dx_if (dt_cmp od_isN (dx_var 1 (pv 1)) dx_non (nomark _)) (dx_tup (da_cons dx_str (da_cons dx_int (da_cons dx_int da_nil)))) (dx_var 1 (pv 1))) da_nil)) dx_int) da_nil)) (nomark _))))))))

def w_law : TSD := (sSeq (sFor (iRg1 (dC (.int 10))) (gNm 2) (sSeq (sSet 3 (dCall 1 φ__law_corners [] (dCons (dVar 1) dNil)))
  (sSeq (sPar 4 5 (dCons (dCall 1 φ__law_ward [] (dCons (dVar 3) dNil)) (dCons (dBm joinD (dC (.str ",")) (dCons (dVar 3) dNil)) dNil)))
  (sSeq (sIf (dOr (dTest (dOp2 neD (dUnN (selStr [("Ward", φ_Ward_str)] (list1 strD)) (dVar 4)) (dVar 5))) (dOr (dTest (dOpN (selNe [("Ward", φ_Ward_eq)] (okR ["Ward"]) (pureN neD)) (dCm [("Ward", (fillD 2 [] φ_Ward_read))] (dC (.cl "Ward")) (dArg0 1 (dCons (dVar 5) dNil))) (dVar 4))) (dNot (dTru (dCall 1 φ__law_right [] (dCons (dVar 5) dNil)))))) (sRet (dC (.bl false))) sNext)
  (sSeq (sFor (iRg1 (dC (.int 4))) (gNm 6) (sSeq (sSet 7 (dCall 2 φ__law_bent [] (dCons (dVar 1) (dCons (dVar 5) dNil))))
  (sIf (dOr (dNot (dTru (dCall 1 φ__law_right [] (dCons (dVar 7) dNil)))) (dNot (dTru (dCall 1 φ__law_right [] (dCons (dCall 2 φ__law_bent [] (dCons (dVar 1) (dCons (dVar 7) dNil))) dNil))))) (sRet (dC (.bl false))) sNext)))
  (sSeq (sSet 8 (dCall 2 φ__law_pick [] (dCons (dVar 1) (dCons (dLst (dCons (dC .non) (dCons (dC (.bl true)) (dCons (dC (.int 0)) (dCons (dVar 3) (dCons (dCB tupleD (dCons (dVar 3) dNil)) (dCons (dC (.dct [])) (dCons (dVar 4) (dCons (dTup dNil) dNil))))))))) dNil))))
  (sIf (dTest (dOpN (selNe [("Ward", φ_Ward_eq)] (okR ["Ward"]) (pureN neD)) (dHeard 3 w__law_heard (dCm [("Ward", (fillD 2 [] φ_Ward_read))] (dC (.cl "Ward")) (dArg0 1 (dCons (dVar 8) dNil)))) (dTup (dCons (dC (.str "text")) (dCons (dC (.int 0)) (dCons (dC (.int 0)) dNil)))))) (sRet (dC (.bl false))) sNext)))))))
  (sSeq (sSet 3 (dLst (dCons (dC (.str "")) (dCons (dC (.str ",")) (dCons (dC (.str "a,")) (dCons (dC (.str ",a")) (dCons (dC (.str "a,b,c,d,e,f,g,h")) (dCons (dC (.str "a,b,c,d,e,f,g")) (dCons (dC (.str "a, b")) dNil)))))))))
  (sRet (dOp2 eqD (dLc (iOb [("Ward", "_corners")] (dVar 3)) 5 (dNot (dTru (dCall 1 φ__law_right [] (dCons (dVar 5) dNil)))) (dVar 5)) (dLst dNil)))))
theorem sc_law : FnScope ["_law_script", "_law_pen_here", "_law_turn", "_law_some", "_law_ward_here", "_law_page", "_law_again", "_law_bent_here", "_law_odd"] ["_law_script"] (defScope s_law) := ⟨rfl, rfl, rfl, by decide +kernel, rfl, by decide +kernel, by decide +kernel⟩
theorem p_law (T : Tx K mg) (tb : ∀ p ∈ csK K, TabB base mg p.1 p.2) (math : w_law lawEn (lawRho 9) 0) : ∃ fd, Fd K d_law fd ∧ FnG P w K mg base (L2.CX P w) 12 (d_law.adr K) fd ["_law_script"] (spLawD K (tsK K)) := by
  obtain ⟨fd, F⟩ := f_law T
  obtain ⟨fdE, FE, GE, BE⟩ := p_pen (P := P) (w := w) (base := base) T
  obtain ⟨fd__law_corners, F__law_corners, G__law_corners, B__law_corners⟩ := q__law_corners (P := P) (w := w) (base := base) T
  obtain ⟨fd__law_ward, F__law_ward, G__law_ward, B__law_ward⟩ := q__law_ward (P := P) (w := w) (base := base) T
  obtain ⟨fd__law_right, F__law_right, G__law_right, B__law_right⟩ := q__law_right (P := P) (w := w) (base := base) T tb
  obtain ⟨fd_Ward_read, F_Ward_read, G_Ward_read, B_Ward_read⟩ := q_Ward_read (P := P) (w := w) (base := base) T
  obtain ⟨fd_Ward_eq, F_Ward_eq, G_Ward_eq, B_Ward_eq⟩ := q_Ward_eq (P := P) (w := w) (base := base) T
  obtain ⟨fd_Ward_str, F_Ward_str, G_Ward_str, B_Ward_str⟩ := q_Ward_str (P := P) (w := w) (base := base) T
  obtain ⟨fd__law_bent, F__law_bent, G__law_bent, B__law_bent⟩ := q__law_bent (P := P) (w := w) (base := base) T
  obtain ⟨fd__law_pick, F__law_pick, G__law_pick, B__law_pick⟩ := q__law_pick (P := P) (w := w) (base := base) T
  obtain ⟨fd__law_heard, F__law_heard⟩ := f__law_heard T
  have B__law_heard := F__law_heard.bindsN (ps := ["_law_ask"]) fun _ _ _ _ _ _ us hl => match us, hl with | [_], _ => rfl
  refine ⟨fd, F, FnG.bodyT (p := ("law", none)) rfl F sc_law (fun vs H Q E h => ?_) (fun A outer s H vs Q E hr gu h => ?_)⟩
  · obtain ⟨a, ns, rfl, _⟩ := h
    rfl
  · obtain ⟨a, ns, rfl, hs, hl, tbs, k⟩ := h
    refine ⟨_, pss_cons (ps_set (i := 1) sc_law.nd rfl (Or.inl rfl) (pe_call (E := E) GE (hr.mono (by decide)) rfl (g__law_pen T) FE.kp BE .nil pass0 (pa_cons (pv 0) pa_nil))) (pss_any (K := K) (ts := (tsK K)) (E := E) fun W hK ht => (ds_cons (ds_for (passes_of rfl) rfl (di_range1 (by rfl) (n_range T) dx_int) (dg_name (i := 2) sc_law.nd rfl (Or.inl rfl)) (ds_cons (ds_set (i := 3) sc_law.nd rfl (Or.inl rfl) (dx_call' (hK.symm) ht G__law_corners (hr.mono (by decide)) (by rfl) (g__law_corners T) F__law_corners.kp B__law_corners .nil (fun _ _ _ => .nil) (passes_call (takes_of rfl rfl rfl rfl) (fun _ _ _ _ h => h)) (da_cons (dx_var 1 (pv 1)) da_nil)))
      (ds_cons (ds_par (ps_par (i := 4) (j := 5) (by rfl) sc_law.nd rfl rfl (by decide) rfl rfl (da_cons (dx_call' (hK.symm) ht G__law_ward (hr.mono (by decide)) (by rfl) (g__law_ward T) F__law_ward.kp B__law_ward .nil (fun _ _ _ => .nil) (passes_call (takes_of rfl rfl rfl rfl) (fun _ _ _ _ h => h)) (da_cons (dx_var 3 (pv 3)) da_nil)) (da_cons (dx_bm PySem.F.slot_str_join PySem.F.type_str_join (bm_join (hK.symm)) dx_str (da_cons (dx_var 3 (pv 3)) da_nil)) da_nil)) (by rfl)))
      (ds_cons (ds_if (PW.pt (dw_or (dt_cmp (od_ne (hK.symm) (hu64 hr)) (dx_cty1 (cn_str (k := 2) (hK.symm) ht (tbl_cons ⟨_, _, _, m_Ward_str T, rfl, G_Ward_str.mono (by decide), B_Ward_str, trivial⟩ tbl_nil) (hr.mono (by decide)) (passes_call (takes_of rfl rfl rfl rfl) (fun _ _ _ _ h => h)) (cn_list cd_str)) (by rfl) (n_str T) (by decide +kernel) (dx_var 4 (pv 4))) (dx_var 5 (pv 5)) (nomark _)) (dw_or (dt_cmpN (on_ne (k := 2) (cs := ["Ward"]) (hK.symm) ht (tbl_cons ⟨_, _, _, m_Ward_eq T, rfl, G_Ward_eq.mono (by decide), B_Ward_eq, ⟨ri_Ward T, (ci_Ward T).ne, (ci_Ward T).cm⟩⟩ tbl_nil) (hr.mono (by decide)) (passes_call (takes_of rfl rfl rfl rfl) (fun _ _ _ _ h => h)) (on_pure (od_ne (hK.symm) (hu64 hr)))) (dx_cm (k := 8) (m := 1) (ks := []) (hK.symm) ht (tbl_cons ⟨_, _, _, cr_Ward T, cm_Ward_read T, (ans_fn G_Ward_read B_Ward_read .nil (fun _ _ _ => .nil) 2)⟩ tbl_nil) (dx_cls (by rfl) (by rw [hK]; exact g_Ward T)) (hr.mono (by decide)) (passes_call (takes_of rfl rfl rfl rfl) (fun _ _ _ _ h => h)) (ev_pos 1 (da_cons (dx_var 5 (pv 5)) da_nil))) (dx_var 4 (pv 4)) (nomark _)) (dw_or1 (dt_not (dt_tru (hK.symm) (dx_callG' (hK.symm) ht gu G__law_right (hr.mono (by decide)) (by rfl) (g__law_right T) F__law_right.kp B__law_right .nil (fun _ _ _ => .nil) (passes_call (takes_of rfl rfl rfl rfl) (fun _ _ _ _ h => h)) (da_cons (dx_var 5 (pv 5)) da_nil)))))))) (ds_one (ds_ret dx_bl)) ds_nil)
      (ds_cons (ds_for (passes_of rfl) rfl (di_range1 (by rfl) (n_range T) dx_int) (dg_name (i := 6) sc_law.nd rfl (Or.inl rfl)) (ds_cons (ds_set (i := 7) sc_law.nd rfl (Or.inl rfl) (dx_call' (hK.symm) ht G__law_bent (hr.mono (by decide)) (by rfl) (g__law_bent T) F__law_bent.kp B__law_bent .nil (fun _ _ _ => .nil) (passes_call (takes_of rfl rfl rfl rfl) (fun _ _ _ _ h => h)) (da_cons (dx_var 1 (pv 1)) (da_cons (dx_var 5 (pv 5)) da_nil))))
      (ds_one (ds_if (PW.pt (dw_or (dt_not (dt_tru (hK.symm) (dx_callG' (hK.symm) ht gu G__law_right (hr.mono (by decide)) (by rfl) (g__law_right T) F__law_right.kp B__law_right .nil (fun _ _ _ => .nil) (passes_call (takes_of rfl rfl rfl rfl) (fun _ _ _ _ h => h)) (da_cons (dx_var 7 (pv 7)) da_nil)))) (dw_or1 (dt_not (dt_tru (hK.symm) (dx_callG' (hK.symm) ht gu G__law_right (hr.mono (by decide)) (by rfl) (g__law_right T) F__law_right.kp B__law_right .nil (fun _ _ _ => .nil) (passes_call (takes_of rfl rfl rfl rfl) (fun _ _ _ _ h => h)) (da_cons (dx_call' (hK.symm) ht G__law_bent (hr.mono (by decide)) (by rfl) (g__law_bent T) F__law_bent.kp B__law_bent .nil (fun _ _ _ => .nil) (passes_call (takes_of rfl rfl rfl rfl) (fun _ _ _ _ h => h)) (da_cons (dx_var 1 (pv 1)) (da_cons (dx_var 7 (pv 7)) da_nil))) da_nil))))))) (ds_one (ds_ret dx_bl)) ds_nil))))
      (ds_cons (ds_set (i := 8) sc_law.nd rfl (Or.inr rfl) (dx_call' (hK.symm) ht G__law_pick (hr.mono (by decide)) (by rfl) (g__law_pick T) F__law_pick.kp B__law_pick .nil (fun _ _ _ => .nil) (passes_call (takes_of rfl rfl rfl rfl) (fun _ _ _ _ h => h)) (da_cons (dx_var 1 (pv 1)) (da_cons (dx_lst (da_cons dx_non (da_cons dx_bl (da_cons dx_int (da_cons (dx_var 3 (pv 3)) (da_cons (dx_cty (cd_tuple (hK.symm)) (by rfl) (n_tuple T) (by decide +kernel) (da_cons (dx_var 3 (pv 3)) da_nil)) (da_cons dx_dnew (da_cons (dx_var 4 (pv 4)) (da_cons (dx_tup da_nil) da_nil))))))))) da_nil))))
      (ds_one (ds_if (dt_cmpN (on_ne (k := 2) (cs := ["Ward"]) (hK.symm) ht (tbl_cons ⟨_, _, _, m_Ward_eq T, rfl, G_Ward_eq.mono (by decide), B_Ward_eq, ⟨ri_Ward T, (ci_Ward T).ne, (ci_Ward T).cm⟩⟩ tbl_nil) (hr.mono (by decide)) (passes_call (takes_of rfl rfl rfl rfl) (fun _ _ _ _ h => h)) (on_pure (od_ne (hK.symm) (hu64 hr)))) (dx_heard (k := 8) (te := (dCm [("Ward", (fillD 2 [] φ_Ward_read))] (dC (.cl "Ward")) (dArg0 1 (dCons (dVar 8) dNil)))) (hK.symm) ht (by rfl) (g__law_heard T) F__law_heard B__law_heard sc__law_heard rfl (.inl rfl) (fun cdg => gv__law_heard T gu (hr.mono (by decide)) cdg) (tb _ (List.mem_of_getElem? (i := 1) rfl)) rfl (List.mem_of_getElem? (i := 1) rfl) (fun p hp h => hu_law T p hp h) (hr.mono (by decide)) (lamS_by (sc := defScope s_law) (by decide +kernel)) rfl (fun _ _ _ _ _ => rfl) (fun _ _ _ _ _ _ _ W1 k1 t1 hr1 => (dx_cm (k := 8) (m := 1) (ks := []) (k1.symm) t1 (tbl_cons ⟨_, _, _, cr_Ward T, cm_Ward_read T, (ans_fn G_Ward_read B_Ward_read .nil (fun _ _ _ => .nil) 2)⟩ tbl_nil) (dx_cls (by rfl) (by rw [k1]; exact g_Ward T)) (hr1.mono (by decide)) (passes_call (takes_of rfl rfl rfl rfl) (fun _ _ _ _ h => h)) (ev_pos 1 (da_cons (dx_var 8 (pv 8)) da_nil))))) (dx_tup (da_cons dx_str (da_cons dx_int (da_cons dx_int da_nil)))) (nomark _)) (ds_one (ds_ret dx_bl)) ds_nil))))))))
      (ds_cons (ds_set (i := 3) sc_law.nd rfl (Or.inl rfl) (dx_lst (da_cons dx_str (da_cons dx_str (da_cons dx_str (da_cons dx_str (da_cons dx_str (da_cons dx_str (da_cons dx_str da_nil)))))))))
      (ds_one (ds_ret (dx_cmp (od_eq (hK.symm) (hu64 hr)) (dx_lc (hK.symm) (by rfl) sc_law.nd (di_ob (tbl := [("Ward", "_corners")]) (k := 1) (hK.symm) (fun c f h => it_tbl T h) (hr.mono (by decide)) (dx_var 3 (pv 3))) (blkOk_by (own := [("_law_page", 5)]) (N := ["_law_script", "_law_pen_here", "_law_turn", "_law_some", "_law_ward_here", "_law_page", "_law_again", "_law_bent_here", "_law_odd"]) (sc := defScope s_law) (by decide +kernel)) (fun _ _ _ _ _ => pg_name (i := 5) sc_law.nd rfl (Or.inl rfl)) (fun W1 k1 t1 _ _ _ _ _ => (dts_one (dt_not (dt_tru ((k1.trans hK).symm) (dx_callG' ((k1.trans hK).symm) (t1.trans ht) gu G__law_right (hr.mono (by decide)) (by rfl) (g__law_right T) F__law_right.kp B__law_right .nil (fun _ _ _ => .nil) passF (da_cons (dx_var 5 (pv 5)) da_nil)))))) (fun W1 k1 t1 _ _ _ _ _ => (dx_var 5 (pv 5)))) (dx_lst da_nil) (nomark _))))))), ?_⟩
    exact ⟨_, rfl, a, ns, rfl, hs, hl, fun H1 p q s1 np p1 => law_read (N := ["_law_script", "_law_pen_here", "_law_turn", "_law_some", "_law_ward_here", "_law_page", "_law_again", "_law_bent_here", "_law_odd"]) (by decide) p1 (tbs.ext s1) k math⟩

end
end K15
/-! mathematics of names, texts, wards, for all laws -/
namespace DL
open PySem PySem.Spec PyProof.Rows L2 Gx KX LamX
theorem ofS_inj (a b : String) : (Str.ofString a = Str.ofString b) = (a = b) := by
  refine propext ⟨fun h => ?_, fun h => by rw [h]⟩
  rw [Str.ofString_eq_toList, Str.ofString_eq_toList] at h
  have h1 : a.toList.map Char.toNat = b.toList.map Char.toNat := by
    have := congrArg (fun x : Str => x.cps.toList) h
    simpa using this
  have h2 : a.toList = b.toList := List.map_inj_right (fun x y e => Char.toNat_inj.mp e) |>.mp h1
  exact String.toList_inj.mp h2
theorem ofS_beq (a b : String) : (Str.ofString a == Str.ofString b) = (a == b) := by
  rw [Bool.eq_iff_iff, beq_iff_eq, beq_iff_eq, ofS_inj]
abbrev AZ : Str := "abcdefghijklmnopqrstuvwxyz"
/-- one to eight letters -/
def nameB (x : Str) : Bool := decide (1 ≤ (x.length : Int)) && (decide ((x.length : Int) ≤ 8) && x.cps.toList.all fun c => decide (c ∈ AZ.cps.toList))
def isNameD : D → Bool
  | .str x => nameB x
  | _ => false
/-- a short plain text -/
def okS (x : Str) : Prop := x.length ≤ 100 ∧ ∀ c ∈ x.cps.toList, c < 128
theorem AZ_lt : ∀ c ∈ AZ.cps.toList, c < 128 := by decide +kernel
theorem nameB_ok {x : Str} (h : nameB x = true) : okS x ∧ 1 ≤ x.length ∧ x.length ≤ 8 := by
  unfold nameB at h
  simp only [Bool.and_eq_true, decide_eq_true_eq, List.all_eq_true] at h
  obtain ⟨h1, h2, h3⟩ := h
  exact ⟨⟨by omega, fun c hc => AZ_lt c (h3 c hc)⟩, by omega, by omega⟩
theorem okS_line {x : Str} (h : okS x) : x.length ≤ sizeLine := by rw [sizeLine_eq]; have := h.1; omega
theorem okS_strOk {x : Str} (h : okS x) : PyData.strOk x = true := by
  unfold PyData.strOk
  rw [← Array.all_toList, List.all_eq_true]
  intro c hc
  have := h.2 c hc
  simp
  omega
theorem okS_sign {x : Str} (h : okS x) {c : Nat} (hc : c ∈ x.cps.toList) : okS ⟨#[c]⟩ := ⟨by simp [Str.length], fun d hd => by
  simp at hd
  subst hd
  exact h.2 _ hc⟩
/-! data that is easily shown -/
mutual
def shS : D → Bool
  | .non => true | .bl _ => true | .int i => decide (i.natAbs < 10 ^ 60) | .str x => decide (x.length ≤ 100) && x.cps.toList.all fun c => decide (c < 128)
  | .tup ds => shSL ds | .lst ds => shSL ds | .dct ks => shSK ks
  | _ => false
def shSL : List D → Bool
  | [] => true
  | d :: ds => shS d && shSL ds
def shSK : List (Key × D) → Bool
  | [] => true
  | (.inr x, d) :: ds => (decide (x.length ≤ 100) && x.cps.toList.all fun c => decide (c < 128)) && shS d && shSK ds
  | _ => false
end
mutual
def wtS : D → Nat
  | .int _ => 201 | .str x => x.length | .tup ds => wtSL ds | .lst ds => wtSL ds | .dct ks => wtSK ks
  | _ => 0
def wtSL : List D → Nat
  | [] => 0
  | d :: ds => wtS d + 1 + wtSL ds
def wtSK : List (Key × D) → Nat
  | [] => 0
  | (.inr x, d) :: ds => x.length + wtS d + 2 + wtSK ds
  | (_, d) :: ds => wtS d + 2 + wtSK ds
end
theorem log_small {i : Int} (h : i.natAbs < 10 ^ 60) : i.natAbs.log2 < 200 := by
  have e10 : (10 : Nat) ^ 60 < 2 ^ 200 := by decide
  by_cases z : i.natAbs = 0
  · rw [z]; decide
  · exact (Nat.log2_lt z).mpr (Nat.lt_trans h e10)
theorem shownInt_len {i : Int} (h : i.natAbs < 10 ^ 60) : (PyData.shown (.int i)).length ≤ 100 := by
  have e : PyData.shown (.int i) = Str.ofString (toString i) := by first | rfl | simp [PyData.shown]
  rw [e, PyProof.Rows.ofString_length]
  have d1 : (Nat.toDigits 10 i.natAbs).length ≤ 60 := digits10_le (by decide) h
  cases i with
  | ofNat j =>
    show (Nat.repr j).toList.length ≤ 100
    simp [Nat.repr] at d1 ⊢
    omega
  | negSucc j =>
    show ("-" ++ Nat.repr (j + 1)).toList.length ≤ 100
    have : (Int.negSucc j).natAbs = j + 1 := rfl
    rw [this] at d1
    simp [Nat.repr] at d1 ⊢
    omega
mutual
theorem sh_py0 : ∀ d : D, shS d = true → d.isPy0 = true
  | .non, _ | .bl _, _ | .int _, _ | .str _, _ => by rw [D.isPy0]
  | .tup ds, h => by rw [shS] at h; rw [D.isPy0]; exact sh_py0L ds h
  | .lst ds, h => by rw [shS] at h; rw [D.isPy0]; exact sh_py0L ds h
  | .dct ks, h => by rw [shS] at h; rw [D.isPy0]; exact sh_py0K ks h
  | .ob _ _, h | .cl _, h | .pen, h | .er _ _, h | .fn _, h => by simp [shS] at h
theorem sh_py0L : ∀ ds : List D, shSL ds = true → isPy0L ds = true
  | [], _ => by rw [isPy0L]
  | d :: ds, h => by
    rw [shSL, Bool.and_eq_true] at h
    rw [isPy0L, sh_py0 d h.1, sh_py0L ds h.2]
    rfl
theorem sh_py0K : ∀ ds : List (Key × D), shSK ds = true → isPy0K ds = true
  | [], _ => by rw [isPy0K]
  | (.inr x, d) :: ds, h => by
    rw [shSK, Bool.and_eq_true, Bool.and_eq_true] at h
    rw [isPy0K, sh_py0 d h.1.2, sh_py0K ds h.2]
    rfl
  | (.inl _, d) :: ds, h => by simp [shSK] at h
end
theorem strShort {x : Str} (h : ∀ c ∈ x.cps.toList, c < 128) : PyData.leavesShort 100 (.str x) = true := by
  rw [PyData.leavesShort, List.all_eq_true]
  intro c hc
  have := h c hc
  have e : (128 : Nat) < 16 ^ 8 := by decide
  simp only [decide_eq_true_eq]
  omega
mutual
theorem sh_fine : ∀ d : D, shS d = true → d.py.showable = true ∧ d.py.leavesShort 100 = true ∧ d.py.weight ≤ wtS d
  | .non, _ => by simp [D.py, PyData.showable, PyData.leavesShort, PyData.weight]
  | .bl _, _ => by simp [D.py, PyData.showable, PyData.leavesShort, PyData.weight]
  | .int i, h => by
    rw [shS, decide_eq_true_eq] at h
    have h1 := log_small h
    rw [D.py, PyData.showable, PyData.leavesShort, PyData.weight, wtS]
    refine ⟨by rw [decide_eq_true_eq]; omega, by rw [decide_eq_true_eq]; exact shownInt_len h, ?_⟩
    split <;> omega
  | .str x, h => by
    rw [shS, Bool.and_eq_true, List.all_eq_true] at h
    rw [D.py, PyData.weight, wtS]
    exact ⟨by rw [PyData.showable], strShort fun c hc => by simpa using h.2 c hc, Nat.le_refl _⟩
  | .tup ds, h => by
    rw [shS] at h
    rw [D.py, PyData.showable, PyData.leavesShort, PyData.weight, wtS]
    exact sh_fineL ds h
  | .lst ds, h => by
    rw [shS] at h
    rw [D.py, PyData.showable, PyData.leavesShort, PyData.weight, wtS]
    exact sh_fineL ds h
  | .dct ks, h => by
    rw [shS] at h
    rw [D.py, PyData.showable, PyData.leavesShort, PyData.weight, wtS]
    exact sh_fineK ks h
  | .ob _ _, h | .cl _, h | .pen, h | .er _ _, h | .fn _, h => by simp [shS] at h
theorem sh_fineL : ∀ ds : List D, shSL ds = true → PyData.showableAll (pyL ds) = true ∧ PyData.leavesShortAll 100 (pyL ds) = true ∧ PyData.weightAll (pyL ds) ≤ wtSL ds
  | [], _ => by simp [pyL, PyData.showableAll, PyData.leavesShortAll, PyData.weightAll]
  | d :: ds, h => by
    rw [shSL, Bool.and_eq_true] at h
    obtain ⟨a1, a2, a3⟩ := sh_fine d h.1
    obtain ⟨b1, b2, b3⟩ := sh_fineL ds h.2
    rw [pyL, PyData.showableAll, PyData.leavesShortAll, PyData.weightAll, wtSL, a1, a2, b1, b2]
    exact ⟨rfl, rfl, by omega⟩
theorem sh_fineK : ∀ ds : List (Key × D), shSK ds = true → PyData.showableKv (pyK ds) = true ∧ PyData.leavesShortKv 100 (pyK ds) = true ∧ PyData.weightKv (pyK ds) ≤ wtSK ds
  | [], _ => by simp [pyK, PyData.showableKv, PyData.leavesShortKv, PyData.weightKv]
  | (.inr x, d) :: ds, h => by
    rw [shSK, Bool.and_eq_true, Bool.and_eq_true, Bool.and_eq_true, List.all_eq_true] at h
    obtain ⟨a1, a2, a3⟩ := sh_fine d h.1.2
    obtain ⟨b1, b2, b3⟩ := sh_fineK ds h.2
    have s1 : PyData.leavesShort 100 (kPy (.inr x)) = true := strShort fun c hc => by simpa using h.1.1.2 c hc
    have s2 : PyData.showable (kPy (.inr x)) = true := by rw [kPy, PyData.showable]
    have s3 : PyData.weight (kPy (.inr x)) = x.length := by rw [kPy, PyData.weight]; rfl
    rw [pyK, PyData.showableKv, PyData.leavesShortKv, PyData.weightKv, wtSK, a1, a2, b1, b2, s1, s2, s3]
    exact ⟨rfl, rfl, by omega⟩
  | (.inl _, d) :: ds, h => by simp [shSK] at h
end
theorem fine_of {d : D} (h : shS d = true) (hd : d.dep ≤ 60) (hw : wtS d ≤ 100000) : fineD d = true := by
  obtain ⟨h1, h2, h3⟩ := sh_fine d h
  have h4 := dep_py d (sh_py0 d h)
  unfold fineD fine
  rw [sh_py0 d h, h1, h2, Bool.true_and, Bool.true_and, Bool.true_and, Bool.and_eq_true, decide_eq_true_eq, decide_eq_true_eq]
  omega
theorem sh_strs : ∀ {ss : List Str}, (∀ s ∈ ss, okS s) → shSL (ss.map D.str) = true
  | [], _ => by simp [shSL]
  | s :: ss, h => by
    have h1 := h s List.mem_cons_self
    rw [List.map_cons, shSL, sh_strs fun t ht => h t (List.mem_cons_of_mem _ ht), shS, Bool.and_true, Bool.and_eq_true, List.all_eq_true]
    exact ⟨by simpa using h1.1, fun c hc => by simpa using h1.2 c hc⟩
theorem wt_strs : ∀ {ss : List Str}, (∀ s ∈ ss, okS s) → wtSL (ss.map D.str) ≤ ss.length * 101
  | [], _ => by simp [wtSL]
  | s :: ss, h => by
    have h1 := (h s List.mem_cons_self).1
    have := wt_strs fun t ht => h t (List.mem_cons_of_mem _ ht)
    rw [List.map_cons, wtSL, wtS, List.length_cons]
    omega
theorem dep_strs : ∀ {ss : List Str}, depL (ss.map D.str) = 0
  | [] => by simp [depL]
  | s :: ss => by rw [List.map_cons, depL, dep_strs]; simp [D.dep]
theorem py_strs : ∀ {ss : List Str}, (∀ s ∈ ss, okS s) → isPyL (ss.map D.str) = true
  | [], _ => by simp [isPyL]
  | s :: ss, h => by
    rw [List.map_cons, isPyL, py_strs fun t ht => h t (List.mem_cons_of_mem _ ht), D.isPy, okS_strOk (h s List.mem_cons_self)]
    rfl
theorem fine_tup {ss : List Str} (h : ∀ s ∈ ss, okS s) (hl : ss.length ≤ 900) : fineD (.tup (ss.map D.str)) = true := fine_of (by rw [shS]; exact sh_strs h) (by rw [D.dep, dep_strs]; omega) (by rw [wtS]; have := wt_strs h; omega)
theorem fine_lst {ss : List Str} (h : ∀ s ∈ ss, okS s) (hl : ss.length ≤ 900) : fineD (.lst (ss.map D.str)) = true := fine_of (by rw [shS]; exact sh_strs h) (by rw [D.dep, dep_strs]; omega) (by rw [wtS]; have := wt_strs h; omega)
theorem eqbL_strs : ∀ {a b : List Str}, eqbL (a.map D.str) (b.map D.str) = decide (a = b)
  | [], [] => by simp [eqbL]
  | [], _ :: _ => by simp [eqbL]
  | _ :: _, [] => by simp [eqbL]
  | x :: a, y :: b => by
    rw [List.map_cons, List.map_cons, eqbL, eqbL_strs, D.eqb, Bool.eq_iff_iff, Bool.and_eq_true, beq_iff_eq, decide_eq_true_eq, decide_eq_true_eq, List.cons.injEq]
theorem anyEq_strs {x : Str} : ∀ {ss : List Str}, anyEq (.str x) (ss.map D.str) = decide (x ∈ ss)
  | [] => by simp [anyEq]
  | y :: ss => by
    rw [List.map_cons, anyEq, anyEq_strs, D.eqb, Bool.eq_iff_iff, Bool.or_eq_true, beq_iff_eq, decide_eq_true_eq, decide_eq_true_eq, List.mem_cons]
    exact ⟨fun h => h.imp Eq.symm id, fun h => h.imp Eq.symm id⟩
theorem anyEq_no {d : D} (h : ∀ x, d ≠ .str x) : ∀ {ss : List Str}, anyEq d (ss.map D.str) = false
  | [] => by simp [anyEq]
  | y :: ss => by
    rw [List.map_cons, anyEq, anyEq_no h]
    cases d <;> first | rfl | exact absurd rfl (h _)
theorem inOk_strs {d : D} (hp : d.isPy = true) (hd : d.dep ≤ 60) : ∀ {ss : List Str}, (∀ s ∈ ss, okS s) → inOk d (ss.map D.str)
  | [], _ => trivial
  | y :: ss, h => ⟨.inl ⟨by rw [D.isPy]; exact okS_strOk (h y List.mem_cons_self), hp, by simp [D.dep], hd⟩, inOk_strs hp hd fun t ht => h t (List.mem_cons_of_mem _ ht)⟩
theorem inOk_dct {ks : List (Key × D)} : ∀ {ss : List Str}, inOk (.dct ks) (ss.map D.str)
  | [] => trivial
  | y :: ss => ⟨.inr ⟨y, ks, rfl, rfl⟩, inOk_dct⟩
/-! == and != by kinds -/
theorem eqb_non_non : D.eqb .non .non = true := by first | rfl | simp [D.eqb]
theorem eqb_non_bl (b : Bool) : D.eqb .non (.bl b) = false := by first | rfl | simp [D.eqb]
theorem eqb_non_int (b : Int) : D.eqb .non (.int b) = false := by first | rfl | simp [D.eqb]
theorem eqb_non_str (b : Str) : D.eqb .non (.str b) = false := by first | rfl | simp [D.eqb]
theorem eqb_non_tup (b : List D) : D.eqb .non (.tup b) = false := by first | rfl | simp [D.eqb]
theorem eqb_non_lst (b : List D) : D.eqb .non (.lst b) = false := by first | rfl | simp [D.eqb]
theorem eqb_non_dct (b : List (Key × D)) : D.eqb .non (.dct b) = false := by first | rfl | simp [D.eqb]
theorem eqb_bl_non (a : Bool) : D.eqb (.bl a) .non = false := by first | rfl | simp [D.eqb]
theorem eqb_bl_bl (a : Bool) (b : Bool) : D.eqb (.bl a) (.bl b) = (a == b) := by first | rfl | simp [D.eqb]
theorem eqb_bl_int (a : Bool) (b : Int) : D.eqb (.bl a) (.int b) = ((if a = true then 1 else 0) == b) := by first | rfl | simp [D.eqb]
theorem eqb_bl_str (a : Bool) (b : Str) : D.eqb (.bl a) (.str b) = false := by first | rfl | simp [D.eqb]
theorem eqb_bl_tup (a : Bool) (b : List D) : D.eqb (.bl a) (.tup b) = false := by first | rfl | simp [D.eqb]
theorem eqb_bl_lst (a : Bool) (b : List D) : D.eqb (.bl a) (.lst b) = false := by first | rfl | simp [D.eqb]
theorem eqb_bl_dct (a : Bool) (b : List (Key × D)) : D.eqb (.bl a) (.dct b) = false := by first | rfl | simp [D.eqb]
theorem eqb_int_non (a : Int) : D.eqb (.int a) .non = false := by first | rfl | simp [D.eqb]
theorem eqb_int_bl (a : Int) (b : Bool) : D.eqb (.int a) (.bl b) = (a == if b = true then 1 else 0) := by first | rfl | simp [D.eqb]
theorem eqb_int_int (a : Int) (b : Int) : D.eqb (.int a) (.int b) = (a == b) := by first | rfl | simp [D.eqb]
theorem eqb_int_str (a : Int) (b : Str) : D.eqb (.int a) (.str b) = false := by first | rfl | simp [D.eqb]
theorem eqb_int_tup (a : Int) (b : List D) : D.eqb (.int a) (.tup b) = false := by first | rfl | simp [D.eqb]
theorem eqb_int_lst (a : Int) (b : List D) : D.eqb (.int a) (.lst b) = false := by first | rfl | simp [D.eqb]
theorem eqb_int_dct (a : Int) (b : List (Key × D)) : D.eqb (.int a) (.dct b) = false := by first | rfl | simp [D.eqb]
theorem eqb_str_non (a : Str) : D.eqb (.str a) .non = false := by first | rfl | simp [D.eqb]
theorem eqb_str_bl (a : Str) (b : Bool) : D.eqb (.str a) (.bl b) = false := by first | rfl | simp [D.eqb]
theorem eqb_str_int (a : Str) (b : Int) : D.eqb (.str a) (.int b) = false := by first | rfl | simp [D.eqb]
theorem eqb_str_str (a : Str) (b : Str) : D.eqb (.str a) (.str b) = (a == b) := by first | rfl | simp [D.eqb]
theorem eqb_str_tup (a : Str) (b : List D) : D.eqb (.str a) (.tup b) = false := by first | rfl | simp [D.eqb]
theorem eqb_str_lst (a : Str) (b : List D) : D.eqb (.str a) (.lst b) = false := by first | rfl | simp [D.eqb]
theorem eqb_str_dct (a : Str) (b : List (Key × D)) : D.eqb (.str a) (.dct b) = false := by first | rfl | simp [D.eqb]
theorem eqb_tup_non (a : List D) : D.eqb (.tup a) .non = false := by first | rfl | simp [D.eqb]
theorem eqb_tup_bl (a : List D) (b : Bool) : D.eqb (.tup a) (.bl b) = false := by first | rfl | simp [D.eqb]
theorem eqb_tup_int (a : List D) (b : Int) : D.eqb (.tup a) (.int b) = false := by first | rfl | simp [D.eqb]
theorem eqb_tup_str (a : List D) (b : Str) : D.eqb (.tup a) (.str b) = false := by first | rfl | simp [D.eqb]
theorem eqb_tup_tup (a : List D) (b : List D) : D.eqb (.tup a) (.tup b) = eqbL a b := by first | rfl | simp [D.eqb]
theorem eqb_tup_lst (a : List D) (b : List D) : D.eqb (.tup a) (.lst b) = false := by first | rfl | simp [D.eqb]
theorem eqb_tup_dct (a : List D) (b : List (Key × D)) : D.eqb (.tup a) (.dct b) = false := by first | rfl | simp [D.eqb]
theorem eqb_lst_non (a : List D) : D.eqb (.lst a) .non = false := by first | rfl | simp [D.eqb]
theorem eqb_lst_bl (a : List D) (b : Bool) : D.eqb (.lst a) (.bl b) = false := by first | rfl | simp [D.eqb]
theorem eqb_lst_int (a : List D) (b : Int) : D.eqb (.lst a) (.int b) = false := by first | rfl | simp [D.eqb]
theorem eqb_lst_str (a : List D) (b : Str) : D.eqb (.lst a) (.str b) = false := by first | rfl | simp [D.eqb]
theorem eqb_lst_tup (a : List D) (b : List D) : D.eqb (.lst a) (.tup b) = false := by first | rfl | simp [D.eqb]
theorem eqb_lst_lst (a : List D) (b : List D) : D.eqb (.lst a) (.lst b) = eqbL a b := by first | rfl | simp [D.eqb]
theorem eqb_lst_dct (a : List D) (b : List (Key × D)) : D.eqb (.lst a) (.dct b) = false := by first | rfl | simp [D.eqb]
theorem eqb_dct_non (a : List (Key × D)) : D.eqb (.dct a) .non = false := by first | rfl | simp [D.eqb]
theorem eqb_dct_bl (a : List (Key × D)) (b : Bool) : D.eqb (.dct a) (.bl b) = false := by first | rfl | simp [D.eqb]
theorem eqb_dct_int (a : List (Key × D)) (b : Int) : D.eqb (.dct a) (.int b) = false := by first | rfl | simp [D.eqb]
theorem eqb_dct_str (a : List (Key × D)) (b : Str) : D.eqb (.dct a) (.str b) = false := by first | rfl | simp [D.eqb]
theorem eqb_dct_tup (a : List (Key × D)) (b : List D) : D.eqb (.dct a) (.tup b) = false := by first | rfl | simp [D.eqb]
theorem eqb_dct_lst (a : List (Key × D)) (b : List D) : D.eqb (.dct a) (.lst b) = false := by first | rfl | simp [D.eqb]
theorem eqb_dct_dct (a : List (Key × D)) (b : List (Key × D)) : D.eqb (.dct a) (.dct b) = false := by first | rfl | simp [D.eqb]
theorem eqbL_00 : eqbL [] [] = true := by simp [eqbL]
theorem eqbL_0c (y : D) (ys : List D) : eqbL [] (y :: ys) = false := by simp [eqbL]
theorem eqbL_c0 (y : D) (ys : List D) : eqbL (y :: ys) [] = false := by simp [eqbL]
theorem eqbL_cc (x y : D) (xs ys : List D) : eqbL (x :: xs) (y :: ys) = (D.eqb x y && eqbL xs ys) := by simp [eqbL]
theorem eqD_non  (y : D) (k : D → Prop) : eqD (.non) y k = (D.isPy (.non) = true ∧ D.isPy y = true ∧ D.dep (.non) ≤ 60 ∧ D.dep y ≤ 60 ∧ k (.bl (D.eqb (.non) y))) := by cases y <;> rfl
theorem eqD_bl (a : Bool) (y : D) (k : D → Prop) : eqD (.bl a) y k = (D.isPy (.bl a) = true ∧ D.isPy y = true ∧ D.dep (.bl a) ≤ 60 ∧ D.dep y ≤ 60 ∧ k (.bl (D.eqb (.bl a) y))) := by cases y <;> rfl
theorem eqD_int (a : Int) (y : D) (k : D → Prop) : eqD (.int a) y k = (D.isPy (.int a) = true ∧ D.isPy y = true ∧ D.dep (.int a) ≤ 60 ∧ D.dep y ≤ 60 ∧ k (.bl (D.eqb (.int a) y))) := by cases y <;> rfl
theorem eqD_tup (a : List D) (y : D) (k : D → Prop) : eqD (.tup a) y k = (D.isPy (.tup a) = true ∧ D.isPy y = true ∧ D.dep (.tup a) ≤ 60 ∧ D.dep y ≤ 60 ∧ k (.bl (D.eqb (.tup a) y))) := by cases y <;> rfl
theorem eqD_dct (a : List (Key × D)) (y : D) (k : D → Prop) : eqD (.dct a) y k = (D.isPy (.dct a) = true ∧ D.isPy y = true ∧ D.dep (.dct a) ≤ 60 ∧ D.dep y ≤ 60 ∧ k (.bl (D.eqb (.dct a) y))) := by cases y <;> rfl
theorem eqD_ss (a b : Str) (k : D → Prop) : eqD (.str a) (.str b) k = k (.bl (a == b)) := rfl
theorem eqD_snon (a : Str)  (k : D → Prop) : eqD (.str a) (.non) k = (D.isPy (.str a) = true ∧ D.isPy (.non) = true ∧ D.dep (.str a) ≤ 60 ∧ D.dep (.non) ≤ 60 ∧ k (.bl (D.eqb (.str a) (.non)))) := rfl
theorem eqD_sbl (a : Str) (b : Bool) (k : D → Prop) : eqD (.str a) (.bl b) k = (D.isPy (.str a) = true ∧ D.isPy (.bl b) = true ∧ D.dep (.str a) ≤ 60 ∧ D.dep (.bl b) ≤ 60 ∧ k (.bl (D.eqb (.str a) (.bl b)))) := rfl
theorem eqD_sint (a : Str) (b : Int) (k : D → Prop) : eqD (.str a) (.int b) k = (D.isPy (.str a) = true ∧ D.isPy (.int b) = true ∧ D.dep (.str a) ≤ 60 ∧ D.dep (.int b) ≤ 60 ∧ k (.bl (D.eqb (.str a) (.int b)))) := rfl
theorem eqD_stup (a : Str) (b : List D) (k : D → Prop) : eqD (.str a) (.tup b) k = (D.isPy (.str a) = true ∧ D.isPy (.tup b) = true ∧ D.dep (.str a) ≤ 60 ∧ D.dep (.tup b) ≤ 60 ∧ k (.bl (D.eqb (.str a) (.tup b)))) := rfl
theorem eqD_slst (a : Str) (b : List D) (k : D → Prop) : eqD (.str a) (.lst b) k = (D.isPy (.str a) = true ∧ D.isPy (.lst b) = true ∧ D.dep (.str a) ≤ 60 ∧ D.dep (.lst b) ≤ 60 ∧ k (.bl (D.eqb (.str a) (.lst b)))) := rfl
theorem eqD_sdct (a : Str) (b : List (Key × D)) (k : D → Prop) : eqD (.str a) (.dct b) k = (D.isPy (.str a) = true ∧ D.isPy (.dct b) = true ∧ D.dep (.str a) ≤ 60 ∧ D.dep (.dct b) ≤ 60 ∧ k (.bl (D.eqb (.str a) (.dct b)))) := rfl
theorem eqD_l0 (a : List D) (k : D → Prop) : eqD (.lst a) (.lst []) k = k (.bl (a.isEmpty)) := rfl
theorem eqD_lc (a : List D) (b : D) (bs : List D) (k : D → Prop) : eqD (.lst a) (.lst (b :: bs)) k = (D.isPy (.lst a) = true ∧ D.isPy (.lst (b :: bs)) = true ∧ D.dep (.lst a) ≤ 60 ∧ D.dep (.lst (b :: bs)) ≤ 60 ∧ k (.bl (D.eqb (.lst a) (.lst (b :: bs))))) := rfl
theorem eqD_lnon (a : List D)  (k : D → Prop) : eqD (.lst a) (.non) k = (D.isPy (.lst a) = true ∧ D.isPy (.non) = true ∧ D.dep (.lst a) ≤ 60 ∧ D.dep (.non) ≤ 60 ∧ k (.bl (D.eqb (.lst a) (.non)))) := rfl
theorem eqD_lbl (a : List D) (b : Bool) (k : D → Prop) : eqD (.lst a) (.bl b) k = (D.isPy (.lst a) = true ∧ D.isPy (.bl b) = true ∧ D.dep (.lst a) ≤ 60 ∧ D.dep (.bl b) ≤ 60 ∧ k (.bl (D.eqb (.lst a) (.bl b)))) := rfl
theorem eqD_lint (a : List D) (b : Int) (k : D → Prop) : eqD (.lst a) (.int b) k = (D.isPy (.lst a) = true ∧ D.isPy (.int b) = true ∧ D.dep (.lst a) ≤ 60 ∧ D.dep (.int b) ≤ 60 ∧ k (.bl (D.eqb (.lst a) (.int b)))) := rfl
theorem eqD_ltup (a : List D) (b : List D) (k : D → Prop) : eqD (.lst a) (.tup b) k = (D.isPy (.lst a) = true ∧ D.isPy (.tup b) = true ∧ D.dep (.lst a) ≤ 60 ∧ D.dep (.tup b) ≤ 60 ∧ k (.bl (D.eqb (.lst a) (.tup b)))) := rfl
theorem eqD_lstr (a : List D) (b : Str) (k : D → Prop) : eqD (.lst a) (.str b) k = (D.isPy (.lst a) = true ∧ D.isPy (.str b) = true ∧ D.dep (.lst a) ≤ 60 ∧ D.dep (.str b) ≤ 60 ∧ k (.bl (D.eqb (.lst a) (.str b)))) := rfl
theorem eqD_ldct (a : List D) (b : List (Key × D)) (k : D → Prop) : eqD (.lst a) (.dct b) k = (D.isPy (.lst a) = true ∧ D.isPy (.dct b) = true ∧ D.dep (.lst a) ≤ 60 ∧ D.dep (.dct b) ≤ 60 ∧ k (.bl (D.eqb (.lst a) (.dct b)))) := rfl
theorem eqD_lst {a b : List D} {k : D → Prop} (h1 : isPyL a = true) (h2 : isPyL b = true) (h3 : depL a ≤ 59) (h4 : depL b ≤ 59) (h : k (.bl (eqbL a b))) : eqD (.lst a) (.lst b) k := by
  cases b with
  | nil =>
    rw [eqD_l0]
    have e : eqbL a [] = a.isEmpty := by cases a <;> simp [eqbL]
    rw [← e]
    exact h
  | cons b bs =>
    rw [eqD_lc, D.isPy, D.isPy, D.dep, D.dep, D.eqb]
    exact ⟨h1, h2, by omega, by omega, h⟩
theorem eqD_strs {a b : List Str} {k : D → Prop} (ha : ∀ s ∈ a, okS s) (hb : ∀ s ∈ b, okS s) (h : k (.bl (decide (a = b)))) : eqD (.lst (a.map D.str)) (.lst (b.map D.str)) k :=
  eqD_lst (py_strs ha) (py_strs hb) (by rw [dep_strs]; omega) (by rw [dep_strs]; omega) (by rw [eqbL_strs]; exact h)
theorem neD_non  (y : D) (k : D → Prop) : neD (.non) y k = (D.isPy (.non) = true ∧ D.isPy y = true ∧ D.dep (.non) ≤ 60 ∧ D.dep y ≤ 60 ∧ k (.bl (!D.eqb (.non) y))) := by cases y <;> rfl
theorem neD_bl (a : Bool) (y : D) (k : D → Prop) : neD (.bl a) y k = (D.isPy (.bl a) = true ∧ D.isPy y = true ∧ D.dep (.bl a) ≤ 60 ∧ D.dep y ≤ 60 ∧ k (.bl (!D.eqb (.bl a) y))) := by cases y <;> rfl
theorem neD_int (a : Int) (y : D) (k : D → Prop) : neD (.int a) y k = (D.isPy (.int a) = true ∧ D.isPy y = true ∧ D.dep (.int a) ≤ 60 ∧ D.dep y ≤ 60 ∧ k (.bl (!D.eqb (.int a) y))) := by cases y <;> rfl
theorem neD_tup (a : List D) (y : D) (k : D → Prop) : neD (.tup a) y k = (D.isPy (.tup a) = true ∧ D.isPy y = true ∧ D.dep (.tup a) ≤ 60 ∧ D.dep y ≤ 60 ∧ k (.bl (!D.eqb (.tup a) y))) := by cases y <;> rfl
theorem neD_dct (a : List (Key × D)) (y : D) (k : D → Prop) : neD (.dct a) y k = (D.isPy (.dct a) = true ∧ D.isPy y = true ∧ D.dep (.dct a) ≤ 60 ∧ D.dep y ≤ 60 ∧ k (.bl (!D.eqb (.dct a) y))) := by cases y <;> rfl
theorem neD_ss (a b : Str) (k : D → Prop) : neD (.str a) (.str b) k = k (.bl (!(a == b))) := rfl
theorem neD_snon (a : Str)  (k : D → Prop) : neD (.str a) (.non) k = (D.isPy (.str a) = true ∧ D.isPy (.non) = true ∧ D.dep (.str a) ≤ 60 ∧ D.dep (.non) ≤ 60 ∧ k (.bl (!D.eqb (.str a) (.non)))) := rfl
theorem neD_sbl (a : Str) (b : Bool) (k : D → Prop) : neD (.str a) (.bl b) k = (D.isPy (.str a) = true ∧ D.isPy (.bl b) = true ∧ D.dep (.str a) ≤ 60 ∧ D.dep (.bl b) ≤ 60 ∧ k (.bl (!D.eqb (.str a) (.bl b)))) := rfl
theorem neD_sint (a : Str) (b : Int) (k : D → Prop) : neD (.str a) (.int b) k = (D.isPy (.str a) = true ∧ D.isPy (.int b) = true ∧ D.dep (.str a) ≤ 60 ∧ D.dep (.int b) ≤ 60 ∧ k (.bl (!D.eqb (.str a) (.int b)))) := rfl
theorem neD_stup (a : Str) (b : List D) (k : D → Prop) : neD (.str a) (.tup b) k = (D.isPy (.str a) = true ∧ D.isPy (.tup b) = true ∧ D.dep (.str a) ≤ 60 ∧ D.dep (.tup b) ≤ 60 ∧ k (.bl (!D.eqb (.str a) (.tup b)))) := rfl
theorem neD_slst (a : Str) (b : List D) (k : D → Prop) : neD (.str a) (.lst b) k = (D.isPy (.str a) = true ∧ D.isPy (.lst b) = true ∧ D.dep (.str a) ≤ 60 ∧ D.dep (.lst b) ≤ 60 ∧ k (.bl (!D.eqb (.str a) (.lst b)))) := rfl
theorem neD_sdct (a : Str) (b : List (Key × D)) (k : D → Prop) : neD (.str a) (.dct b) k = (D.isPy (.str a) = true ∧ D.isPy (.dct b) = true ∧ D.dep (.str a) ≤ 60 ∧ D.dep (.dct b) ≤ 60 ∧ k (.bl (!D.eqb (.str a) (.dct b)))) := rfl
theorem neD_l0 (a : List D) (k : D → Prop) : neD (.lst a) (.lst []) k = k (.bl (!a.isEmpty)) := rfl
theorem neD_lc (a : List D) (b : D) (bs : List D) (k : D → Prop) : neD (.lst a) (.lst (b :: bs)) k = (D.isPy (.lst a) = true ∧ D.isPy (.lst (b :: bs)) = true ∧ D.dep (.lst a) ≤ 60 ∧ D.dep (.lst (b :: bs)) ≤ 60 ∧ k (.bl (!D.eqb (.lst a) (.lst (b :: bs))))) := rfl
theorem neD_lnon (a : List D)  (k : D → Prop) : neD (.lst a) (.non) k = (D.isPy (.lst a) = true ∧ D.isPy (.non) = true ∧ D.dep (.lst a) ≤ 60 ∧ D.dep (.non) ≤ 60 ∧ k (.bl (!D.eqb (.lst a) (.non)))) := rfl
theorem neD_lbl (a : List D) (b : Bool) (k : D → Prop) : neD (.lst a) (.bl b) k = (D.isPy (.lst a) = true ∧ D.isPy (.bl b) = true ∧ D.dep (.lst a) ≤ 60 ∧ D.dep (.bl b) ≤ 60 ∧ k (.bl (!D.eqb (.lst a) (.bl b)))) := rfl
theorem neD_lint (a : List D) (b : Int) (k : D → Prop) : neD (.lst a) (.int b) k = (D.isPy (.lst a) = true ∧ D.isPy (.int b) = true ∧ D.dep (.lst a) ≤ 60 ∧ D.dep (.int b) ≤ 60 ∧ k (.bl (!D.eqb (.lst a) (.int b)))) := rfl
theorem neD_ltup (a : List D) (b : List D) (k : D → Prop) : neD (.lst a) (.tup b) k = (D.isPy (.lst a) = true ∧ D.isPy (.tup b) = true ∧ D.dep (.lst a) ≤ 60 ∧ D.dep (.tup b) ≤ 60 ∧ k (.bl (!D.eqb (.lst a) (.tup b)))) := rfl
theorem neD_lstr (a : List D) (b : Str) (k : D → Prop) : neD (.lst a) (.str b) k = (D.isPy (.lst a) = true ∧ D.isPy (.str b) = true ∧ D.dep (.lst a) ≤ 60 ∧ D.dep (.str b) ≤ 60 ∧ k (.bl (!D.eqb (.lst a) (.str b)))) := rfl
theorem neD_ldct (a : List D) (b : List (Key × D)) (k : D → Prop) : neD (.lst a) (.dct b) k = (D.isPy (.lst a) = true ∧ D.isPy (.dct b) = true ∧ D.dep (.lst a) ≤ 60 ∧ D.dep (.dct b) ≤ 60 ∧ k (.bl (!D.eqb (.lst a) (.dct b)))) := rfl
theorem neD_lst {a b : List D} {k : D → Prop} (h1 : isPyL a = true) (h2 : isPyL b = true) (h3 : depL a ≤ 59) (h4 : depL b ≤ 59) (h : k (.bl (!eqbL a b))) : neD (.lst a) (.lst b) k := by
  cases b with
  | nil =>
    rw [neD_l0]
    have e : eqbL a [] = a.isEmpty := by cases a <;> simp [eqbL]
    rw [← e]
    exact h
  | cons b bs =>
    rw [neD_lc, D.isPy, D.isPy, D.dep, D.dep, D.eqb]
    exact ⟨h1, h2, by omega, by omega, h⟩
theorem neD_strs {a b : List Str} {k : D → Prop} (ha : ∀ s ∈ a, okS s) (hb : ∀ s ∈ b, okS s) (h : k (.bl (!decide (a = b)))) : neD (.lst (a.map D.str)) (.lst (b.map D.str)) k :=
  neD_lst (py_strs ha) (py_strs hb) (by rw [dep_strs]; omega) (by rw [dep_strs]; omega) (by rw [eqbL_strs]; exact h)
theorem atI_c0 {α : Type} (x : α) (xs : List α) : atI (x :: xs) 0 = some x := atI_nat (j := 0) rfl
theorem reprD_1 (d : D) (k : D → Prop) : reprD [d] k = (fineD d = true ∧ k (.str d.py.shown)) := rfl
/-- x in texts -/
def inB (ss : List Str) : D → Bool
  | .str x => decide (x ∈ ss)
  | _ => false
/-- what may be asked for among texts -/
def askB : D → Prop
  | .dct _ => True
  | d => d.isPy = true ∧ d.dep ≤ 60
theorem ask_in {d : D} {ss : List Str} (ho : ∀ s ∈ ss, okS s) (h : askB d) : inOk d (ss.map D.str) ∧ anyEq d (ss.map D.str) = inB ss d := by
  cases d with
  | dct ks => exact ⟨inOk_dct, anyEq_no (by intro x z; cases z)⟩
  | str x => exact ⟨inOk_strs h.1 h.2 ho, anyEq_strs⟩
  | _ => exact ⟨inOk_strs h.1 h.2 ho, anyEq_no (by intro x z; cases z)⟩
theorem ask_str {s : Str} (h : okS s) : askB (.str s) := ⟨by rw [D.isPy]; exact okS_strOk h, by simp [D.dep]⟩
theorem ask_lst {ss : List Str} (h : ∀ s ∈ ss, okS s) : askB (.lst (ss.map D.str)) := ⟨by rw [D.isPy]; exact py_strs h, by rw [D.dep, dep_strs]; omega⟩
theorem ask_tup {ss : List Str} (h : ∀ s ∈ ss, okS s) : askB (.tup (ss.map D.str)) := ⟨by rw [D.isPy]; exact py_strs h, by rw [D.dep, dep_strs]; omega⟩
theorem fine_int {i : Int} (h : i.natAbs < 10 ^ 60) : fineD (.int i) = true := fine_of (by rw [shS, decide_eq_true_eq]; exact h) (by simp [D.dep]) (by simp [wtS])
theorem fine_bls {bs : List Bool} (h : bs.length ≤ 900) : fineD (.lst (bs.map D.bl)) = true := by
  have h1 : ∀ bs : List Bool, shSL (bs.map D.bl) = true ∧ depL (bs.map D.bl) = 0 ∧ wtSL (bs.map D.bl) = bs.length := fun bs => by
    induction bs with
    | nil => simp [shSL, depL, wtSL]
    | cons b bs ih =>
      obtain ⟨i1, i2, i3⟩ := ih
      rw [List.map_cons, shSL, depL, wtSL, i1, i2, i3]
      simp [shS, D.dep, wtS]
      omega
  obtain ⟨i1, i2, i3⟩ := h1 bs
  exact fine_of (by rw [shS]; exact i1) (by rw [D.dep, i2]; omega) (by rw [wtS, i3]; omega)
theorem strs_bls {α : Type} {xs : List α} {b : Bool} (f : α → Bool) (h : ∀ x ∈ xs, f x = b) : xs.map (fun x => D.bl (f x)) = List.replicate xs.length (.bl b) := by
  induction xs with
  | nil => rfl
  | cons x xs ih =>
    rw [List.map_cons, List.length_cons, List.replicate_succ, h x List.mem_cons_self, ih fun y hy => h y (List.mem_cons_of_mem _ hy)]
theorem rep_one {α : Type} (a : α) : ∀ n : Nat, (List.replicate n [a]).flatten = List.replicate n a
  | 0 => rfl
  | n + 1 => by rw [List.replicate_succ, List.replicate_succ, List.flatten_cons, rep_one]; rfl
theorem rep_bl (b : Bool) (n : Nat) : List.replicate n (D.bl b) = (List.replicate n b).map D.bl := by rw [List.map_replicate]
/-! ascending texts -/
theorem ascS_of {xs : List Str} (h : xs.Pairwise ltS) : ascS xs = xs := asc_eq (ascS_asc xs) h fun k => ascS_mem k xs
theorem ascS_congr {xs ys : List Str} (h : ∀ k, k ∈ xs ↔ k ∈ ys) : ascS xs = ascS ys := asc_eq (ascS_asc xs) (ascS_asc ys) fun k => by rw [ascS_mem, ascS_mem]; exact h k
theorem ascS_idem {xs : List Str} : ascS (ascS xs) = ascS xs := ascS_of (ascS_asc xs)
theorem ascS_rev {xs : List Str} : ascS xs.reverse = ascS xs := ascS_congr fun k => List.mem_reverse
theorem ascS_nil {xs : List Str} : ascS xs = [] ↔ xs = [] := by
  constructor
  · intro h
    cases xs with
    | nil => rfl
    | cons x xs =>
      have := (ascS_mem x (x :: xs)).mpr List.mem_cons_self
      rw [h] at this
      cases this
  · intro h
    subst h
    rfl
theorem ascS_nodup (xs : List Str) : (ascS xs).Nodup := (ascS_asc xs).imp fun h e => by
  subst e
  exact List.lt_irrefl _ h
/-! data as texts -/
def strsOf : List D → List Str
  | [] => []
  | .str x :: ds => x :: strsOf ds
  | _ :: ds => strsOf ds
theorem strsOf_map : ∀ ss : List Str, strsOf (ss.map D.str) = ss
  | [] => rfl
  | s :: ss => by rw [List.map_cons, strsOf, strsOf_map]
theorem strs_all : ∀ {ds : List D}, ds.all isNameD = true → ds = (strsOf ds).map D.str ∧ ∀ s ∈ strsOf ds, nameB s = true
  | [], _ => ⟨rfl, fun s h => by cases h⟩
  | d :: ds, h => by
    rw [List.all_cons, Bool.and_eq_true] at h
    obtain ⟨h1, h2⟩ := strs_all h.2
    cases d <;> first | (cases h.1; done) | skip
    rename_i x
    refine ⟨by rw [strsOf, List.map_cons, ← h1], fun s hs => ?_⟩
    rw [strsOf] at hs
    rcases List.mem_cons.mp hs with rfl | hs
    · exact h.1
    · exact h2 s hs
theorem all_names {ss : List Str} (h : ∀ s ∈ ss, nameB s = true) : (ss.map D.str).all isNameD = true := by
  rw [List.all_eq_true]
  intro d hd
  obtain ⟨s, hs, rfl⟩ := List.mem_map.mp hd
  exact h s hs
theorem comp_id {j : Nat} {te : TD} {ρ : Rho} {Φ : List D → Nat → Prop} (g : D → D) {xs : List D} {n : Nat} (h : ∀ x ∈ xs, ∀ n (Φ' : KD), Φ' (g x) n → te (ρ.set j (.d x)) n Φ' (fun _ _ => False))
    (hl : xs.length ≤ sizeLine) (hΦ : Φ (xs.map g) n) : compD (gNm j) dTrue te ρ Φ xs [] n := by
  have k := comp_map (α := D) (xs := xs) (acc := []) (n := n) (Φ := Φ) (j := j) (te := te) (ρ := ρ) id g h (by simpa using hl) (by simpa using hΦ)
  rwa [List.map_id] at k
theorem comp_fid {j : Nat} {tt : TTD} {te : TD} {ρ : Rho} {Φ : List D → Nat → Prop} (p : D → Bool) (g : D → D) {xs : List D} {n : Nat} (ht : ∀ x ∈ xs, ∀ n (Φ' : Bool → Nat → Prop), Φ' (p x) n → tt (ρ.set j (.d x)) n Φ' (fun _ _ => False))
    (h : ∀ x ∈ xs, p x = true → ∀ n (Φ' : KD), Φ' (g x) n → te (ρ.set j (.d x)) n Φ' (fun _ _ => False)) (hl : xs.length ≤ sizeLine) (hΦ : Φ ((xs.filter p).map g) n) : compD (gNm j) tt te ρ Φ xs [] n := by
  have k := comp_filter (α := D) (xs := xs) (acc := []) (n := n) (Φ := Φ) (j := j) (tt := tt) (te := te) (ρ := ρ) id p g ht h (by simpa using hl) (by simpa using hΦ)
  rwa [List.map_id] at k
theorem none_left {α β : Type} (p : α → Bool) (g : α → β) : ∀ xs : List α, ((xs.filter fun x => !p x).map g).isEmpty = xs.all p
  | [] => rfl
  | x :: xs => by
    rw [List.filter_cons, List.all_cons]
    cases h : p x <;> simp [none_left p g xs]
theorem ex_cons {α β : Type} {a : α} {l : β} {P : α → β → Prop} : (∃ d es, (a = d ∧ l = es) ∧ P d es) ↔ P a l := ⟨fun ⟨_, _, ⟨e1, e2⟩, h⟩ => by subst e1 e2; exact h, fun h => ⟨_, _, ⟨rfl, rfl⟩, h⟩⟩
/-- one statement at a time -/
theorem seq_ok {t u : TSD} {En : EnD} {ρ : Rho} {n : Nat} (h : ∀ k, k = u En → t { En with nx := k } ρ n) : sSeq t u En ρ n := h _ rfl
theorem atI_last {α : Type} {xs : List α} (h : 0 < xs.length) : atI xs (-1) = xs[xs.length - 1]? := by
  unfold atI L2.ixN
  rw [if_neg (by decide), if_pos (by omega)]
  show xs[_]? = _
  congr 1
  omega
theorem cut_init {α : Type} {l : List α} : DL.cutD l none (some (-1)) = l.take (l.length - 1) := by
  unfold DL.cutD
  have e : HT.sIx l.length l.length (some (-1)) = l.length - 1 := by
    show (if (-1 : Int) < 0 then ((-1 : Int) + (l.length : Int)).toNat else min (-1 : Int).toNat l.length) = _
    rw [if_pos (by decide)]
    omega
  rw [show HT.sIx l.length 0 none = 0 from rfl, e, List.drop_zero, Nat.sub_zero]
theorem cut_to {α : Type} {l : List α} {k : Nat} : DL.cutD l none (some (k : Int)) = l.take k := by
  unfold DL.cutD
  rw [show HT.sIx l.length 0 none = 0 from rfl, HT.sIx_nat, List.drop_zero, Nat.sub_zero]
  rcases Nat.le_total k l.length with h | h
  · rw [Nat.min_eq_left h]
  · rw [Nat.min_eq_right h, List.take_length, List.take_of_length_le h]
theorem cut_from {α : Type} {l : List α} {k : Nat} : DL.cutD l (some (k : Int)) none = l.drop k := by
  unfold DL.cutD
  rw [show HT.sIx l.length l.length none = l.length from rfl, HT.sIx_nat]
  rcases Nat.le_total k l.length with h | h
  · rw [Nat.min_eq_left h, List.take_of_length_le (by simp)]
  · rw [Nat.min_eq_right h, Nat.sub_self, List.take_zero, List.drop_of_length_le h]
/-- a text's signs, as texts -/
def sgS (z : Str) : List Str := z.cps.toList.map fun c => ⟨#[c]⟩
theorem ch_sg (z : Str) : chS z = (sgS z).map D.str := by unfold chS sgS; rw [List.map_map]; rfl
/-- a ward of these corners -/
def wardO (ss : List Str) : D := .ob "Ward" [("_corners", .tup (ss.map D.str))]
theorem bls_map {α : Type} (f : α → Bool) (xs : List α) : (xs.map fun x => D.bl (f x)) = (xs.map f).map D.bl := by rw [List.map_map]; rfl
end DL
namespace K15
open PySem PySem.Spec PyProof.Rows L2 Hx Gx KX LamX DL
local macro_rules | `(tactic| walk_at "dw") => `(tactic| simp only [DL.dVar, DL.dC, DL.dOp2, DL.dUn, DL.dCB, DL.dNil, DL.dCons, DL.dStar, DL.dTup, DL.dLst, DL.dTru, DL.dTest, DL.dAnd, DL.dOr, DL.dNot, DL.dIf, DL.dAndV, DL.dOrV, DL.dNotV, DL.sNext, DL.sSeq, DL.sDrop, DL.sRet, DL.sRetN, DL.sRaise, List.zip_cons_cons, List.zip_nil_right,  DL.sIf, DL.sSet, DL.sAsg, DL.sPar, DL.sFor, DL.dCall, DL.dMake, DL.dR, DL.dSt, DL.dKw0, DL.dMet, DL.dOpN, DL.dUnN, DL.pureN, DL.pure1, DL.selN, DL.selR, DL.inX, DL.sel1, DL.selNe, DL.selLen, DL.selStr, DL.list1, DL.attD, DL.isiD, DL.isB, DL.isC, DL.D.tn, DL.kitT, DL.truD, DL.lenD, DL.absD, DL.intD, DL.strD, DL.listD, DL.tupleD, DL.allD, DL.inD, DL.ixD, DL.slD, DL.dSl, DL.dRevL, DL.atI_c0, DL.dNoPart, DL.dPart, DL.iSeq, DL.iOb, DL.walkI, DL.walkD, DL.iRg1, DL.iRg2, DL.addD, DL.subD, DL.mulD, DL.modD, DL.fdivD, DL.powD, DL.ltD, DL.leD, DL.gtD, DL.geD, DL.ordD, DL.reprD_1, DL.eqD_non, DL.eqD_bl, DL.eqD_int, DL.eqD_tup, DL.eqD_dct, DL.eqD_ss, DL.eqD_snon, DL.eqD_sbl, DL.eqD_sint, DL.eqD_stup, DL.eqD_slst, DL.eqD_sdct, DL.eqD_l0, DL.eqD_lc, DL.eqD_lnon, DL.eqD_lbl, DL.eqD_lint, DL.eqD_ltup, DL.eqD_lstr, DL.eqD_ldct, DL.neD_non, DL.neD_bl, DL.neD_int, DL.neD_tup, DL.neD_dct, DL.neD_ss, DL.neD_snon, DL.neD_sbl, DL.neD_sint, DL.neD_stup, DL.neD_slst, DL.neD_sdct, DL.neD_l0, DL.neD_lc, DL.neD_lnon, DL.neD_lbl, DL.neD_lint, DL.neD_ltup, DL.neD_lstr, DL.neD_ldct, DL.isNone, DL.isBD, DL.negD, DL.dChain, DL.inRgD, DL.gNm, DL.gTu, DL.gTuL, DL.gEnd, DL.gMore, DL.ascL, DL.sTry, DL.sTryC, DL.sApp, DL.sOwn, DL.fLst, DL.fDct, DL.fList, DL.fCat, DL.fSl, DL.dTr, DL.dTrT, DL.sFz, DL.sAug, DL.dAsk, DL.fnD, DL.startD, DL.restD, DL.inD', DL.startI, DL.sFldD, DL.putD, DL.EnD.noNx, DL.caughtR, DL.hideR, DL.hideS, DL.noOwnB, DL.Sl.isOwn, DL.Ow.toD, DL.D.flat, DL.dLc, DL.dTrue, DL.dBm, DL.splitD, DL.sortedD, DL.joinD, DL.dPop, DL.sRetP, DL.sSetP, DL.sAppP, DL.sPDF, DL.sPFD, DL.sPFF, DL.dSV, DL.kwD, DL.fillD, DL.dArg0, DL.dCm, DL.rmpD, DL.okR, DL.dDisp, DL.pairsD, DL.keyD, DL.lawEn, DL.lawRho, List.map_cons, List.map_nil, List.replicate_succ, List.replicate_zero, List.cons_append, List.nil_append, List.append_nil, List.set_cons_zero, List.set_cons_succ, List.getElem?_cons_zero, List.getElem?_cons_succ, List.length_cons, List.length_nil, List.length_append, List.take_zero, List.drop_zero, List.take_succ_cons, List.drop_succ_cons, List.lookup_cons, List.lookup_nil, List.contains_cons, List.contains_nil, List.all_cons, List.all_nil, Option.some.injEq, DL.Sl.d.injEq, DL.Sl.own.injEq, DL.D.int.injEq, DL.D.str.injEq, DL.D.bl.injEq, DL.D.lst.injEq, DL.D.tup.injEq, DL.D.ob.injEq, DL.Ow.lst.injEq, DL.Ow.dct.injEq, DL.Ow.ins.injEq, List.cons.injEq, DL.ex_cons, DL.ofS_beq, DL.ofS_inj, String.reduceBEq, String.reduceEq, exists_eq_left', exists_eq_left, exists_false, exists_eq_right, exists_eq_right', exists_and_left, exists_and_right, exists_eq', exists_eq, true_and, and_true, and_self, if_true, if_false, ite_true, ite_false, Bool.false_eq_true, Bool.true_eq_false, Bool.not_true, Bool.not_false, Bool.or_true, Bool.or_false, Bool.true_or, Bool.false_or, Bool.and_true, Bool.true_and, Bool.and_false, Bool.false_and, Bool.true_xor, Bool.false_xor, Option.map_some, Option.map_none, reduceCtorEq, not_false_eq_true, not_true_eq_false, ne_eq, implies_true, decide_true, decide_false, and_false, false_and, or_false, false_or, beq_self_eq_true, List.isEmpty_nil, List.isEmpty_cons, List.reverse_nil, List.reverse_cons, DL.D.isPy, DL.isPyL, DL.D.dep, DL.depL, DL.eqb_non_non, DL.eqb_non_bl, DL.eqb_non_int, DL.eqb_non_str, DL.eqb_non_tup, DL.eqb_non_lst, DL.eqb_non_dct, DL.eqb_bl_non, DL.eqb_bl_bl, DL.eqb_bl_int, DL.eqb_bl_str, DL.eqb_bl_tup, DL.eqb_bl_lst, DL.eqb_bl_dct, DL.eqb_int_non, DL.eqb_int_bl, DL.eqb_int_int, DL.eqb_int_str, DL.eqb_int_tup, DL.eqb_int_lst, DL.eqb_int_dct, DL.eqb_str_non, DL.eqb_str_bl, DL.eqb_str_int, DL.eqb_str_str, DL.eqb_str_tup, DL.eqb_str_lst, DL.eqb_str_dct, DL.eqb_tup_non, DL.eqb_tup_bl, DL.eqb_tup_int, DL.eqb_tup_str, DL.eqb_tup_tup, DL.eqb_tup_lst, DL.eqb_tup_dct, DL.eqb_lst_non, DL.eqb_lst_bl, DL.eqb_lst_int, DL.eqb_lst_str, DL.eqb_lst_tup, DL.eqb_lst_lst, DL.eqb_lst_dct, DL.eqb_dct_non, DL.eqb_dct_bl, DL.eqb_dct_int, DL.eqb_dct_str, DL.eqb_dct_tup, DL.eqb_dct_lst, DL.eqb_dct_dct, DL.eqbL_00, DL.eqbL_0c, DL.eqbL_c0, DL.eqbL_cc, Nat.zero_le, Nat.le_refl, Nat.max_self, Nat.max_zero, Nat.zero_max, Nat.zero_add, beq_iff_eq, decide_eq_true_eq])
local macro_rules | `(tactic| walk_at "dq") => `(tactic| simp only [DL.dVar, DL.dC, DL.dOp2, DL.dUn, DL.dCB, DL.dNil, DL.dCons, DL.dStar, DL.dTup, DL.dLst, DL.dTru, DL.dTest, DL.dAnd, DL.dOr, DL.dNot, DL.dIf, DL.dAndV, DL.dOrV, DL.dNotV, DL.sNext, DL.sDrop, DL.sRet, DL.sRetN, DL.sRaise, List.zip_cons_cons, List.zip_nil_right,  DL.sIf, DL.sSet, DL.sAsg, DL.sPar, DL.sFor, DL.dCall, DL.dMake, DL.dR, DL.dSt, DL.dKw0, DL.dMet, DL.dOpN, DL.dUnN, DL.pureN, DL.pure1, DL.selN, DL.selR, DL.inX, DL.sel1, DL.selNe, DL.selLen, DL.selStr, DL.list1, DL.attD, DL.isiD, DL.isB, DL.isC, DL.D.tn, DL.kitT, DL.truD, DL.lenD, DL.absD, DL.intD, DL.strD, DL.listD, DL.tupleD, DL.allD, DL.inD, DL.ixD, DL.slD, DL.dSl, DL.dRevL, DL.atI_c0, DL.dNoPart, DL.dPart, DL.iSeq, DL.iOb, DL.walkI, DL.walkD, DL.iRg1, DL.iRg2, DL.addD, DL.subD, DL.mulD, DL.modD, DL.fdivD, DL.powD, DL.ltD, DL.leD, DL.gtD, DL.geD, DL.ordD, DL.reprD_1, DL.eqD_non, DL.eqD_bl, DL.eqD_int, DL.eqD_tup, DL.eqD_dct, DL.eqD_ss, DL.eqD_snon, DL.eqD_sbl, DL.eqD_sint, DL.eqD_stup, DL.eqD_slst, DL.eqD_sdct, DL.eqD_l0, DL.eqD_lc, DL.eqD_lnon, DL.eqD_lbl, DL.eqD_lint, DL.eqD_ltup, DL.eqD_lstr, DL.eqD_ldct, DL.neD_non, DL.neD_bl, DL.neD_int, DL.neD_tup, DL.neD_dct, DL.neD_ss, DL.neD_snon, DL.neD_sbl, DL.neD_sint, DL.neD_stup, DL.neD_slst, DL.neD_sdct, DL.neD_l0, DL.neD_lc, DL.neD_lnon, DL.neD_lbl, DL.neD_lint, DL.neD_ltup, DL.neD_lstr, DL.neD_ldct, DL.isNone, DL.isBD, DL.negD, DL.dChain, DL.inRgD, DL.gNm, DL.gTu, DL.gTuL, DL.gEnd, DL.gMore, DL.ascL, DL.sTry, DL.sTryC, DL.sApp, DL.sOwn, DL.fLst, DL.fDct, DL.fList, DL.fCat, DL.fSl, DL.dTr, DL.dTrT, DL.sFz, DL.sAug, DL.dAsk, DL.fnD, DL.startD, DL.restD, DL.inD', DL.startI, DL.sFldD, DL.putD, DL.EnD.noNx, DL.caughtR, DL.hideR, DL.hideS, DL.noOwnB, DL.Sl.isOwn, DL.Ow.toD, DL.D.flat, DL.dLc, DL.dTrue, DL.dBm, DL.splitD, DL.sortedD, DL.joinD, DL.dPop, DL.sRetP, DL.sSetP, DL.sAppP, DL.sPDF, DL.sPFD, DL.sPFF, DL.dSV, DL.kwD, DL.fillD, DL.dArg0, DL.dCm, DL.rmpD, DL.okR, DL.dDisp, DL.pairsD, DL.keyD, DL.lawEn, DL.lawRho, List.map_cons, List.map_nil, List.replicate_succ, List.replicate_zero, List.cons_append, List.nil_append, List.append_nil, List.set_cons_zero, List.set_cons_succ, List.getElem?_cons_zero, List.getElem?_cons_succ, List.length_cons, List.length_nil, List.length_append, List.take_zero, List.drop_zero, List.take_succ_cons, List.drop_succ_cons, List.lookup_cons, List.lookup_nil, List.contains_cons, List.contains_nil, List.all_cons, List.all_nil, Option.some.injEq, DL.Sl.d.injEq, DL.Sl.own.injEq, DL.D.int.injEq, DL.D.str.injEq, DL.D.bl.injEq, DL.D.lst.injEq, DL.D.tup.injEq, DL.D.ob.injEq, DL.Ow.lst.injEq, DL.Ow.dct.injEq, DL.Ow.ins.injEq, List.cons.injEq, DL.ex_cons, DL.ofS_beq, DL.ofS_inj, String.reduceBEq, String.reduceEq, exists_eq_left', exists_eq_left, exists_false, exists_eq_right, exists_eq_right', exists_and_left, exists_and_right, exists_eq', exists_eq, true_and, and_true, and_self, if_true, if_false, ite_true, ite_false, Bool.false_eq_true, Bool.true_eq_false, Bool.not_true, Bool.not_false, Bool.or_true, Bool.or_false, Bool.true_or, Bool.false_or, Bool.and_true, Bool.true_and, Bool.and_false, Bool.false_and, Bool.true_xor, Bool.false_xor, Option.map_some, Option.map_none, reduceCtorEq, not_false_eq_true, not_true_eq_false, ne_eq, implies_true, decide_true, decide_false, and_false, false_and, or_false, false_or, beq_self_eq_true, List.isEmpty_nil, List.isEmpty_cons, List.reverse_nil, List.reverse_cons, DL.D.isPy, DL.isPyL, DL.D.dep, DL.depL, DL.eqb_non_non, DL.eqb_non_bl, DL.eqb_non_int, DL.eqb_non_str, DL.eqb_non_tup, DL.eqb_non_lst, DL.eqb_non_dct, DL.eqb_bl_non, DL.eqb_bl_bl, DL.eqb_bl_int, DL.eqb_bl_str, DL.eqb_bl_tup, DL.eqb_bl_lst, DL.eqb_bl_dct, DL.eqb_int_non, DL.eqb_int_bl, DL.eqb_int_int, DL.eqb_int_str, DL.eqb_int_tup, DL.eqb_int_lst, DL.eqb_int_dct, DL.eqb_str_non, DL.eqb_str_bl, DL.eqb_str_int, DL.eqb_str_str, DL.eqb_str_tup, DL.eqb_str_lst, DL.eqb_str_dct, DL.eqb_tup_non, DL.eqb_tup_bl, DL.eqb_tup_int, DL.eqb_tup_str, DL.eqb_tup_tup, DL.eqb_tup_lst, DL.eqb_tup_dct, DL.eqb_lst_non, DL.eqb_lst_bl, DL.eqb_lst_int, DL.eqb_lst_str, DL.eqb_lst_tup, DL.eqb_lst_lst, DL.eqb_lst_dct, DL.eqb_dct_non, DL.eqb_dct_bl, DL.eqb_dct_int, DL.eqb_dct_str, DL.eqb_dct_tup, DL.eqb_dct_lst, DL.eqb_dct_dct, DL.eqbL_00, DL.eqbL_0c, DL.eqbL_c0, DL.eqbL_cc, Nat.zero_le, Nat.le_refl, Nat.max_self, Nat.max_zero, Nat.zero_max, Nat.zero_add, beq_iff_eq, decide_eq_true_eq])
/-- values of all kinds -/
def pl : D → Bool
  | .ob c _ => c == "Ward"
  | .cl _ => false | .pen => false | .er _ _ => false | .fn _ => false
  | _ => true
def good (d : D) : Prop := pl d = true ∧ ∀ x, d = .str x → okS x
theorem signs_ok {x : Str} {d : D} (h : okS x) (hd : d ∈ x.cps.toList.map fun c => D.str ⟨#[c]⟩) : ∃ c ∈ x.cps.toList, d = .str ⟨#[c]⟩ := by
  obtain ⟨c, hc, rfl⟩ := List.mem_map.mp hd
  exact ⟨c, hc, rfl⟩
theorem is_name_ok {d : D} (h : good d) {n : Nat} {Φ : KD} {Ψ : XD} (hΦ : Φ (.bl (isNameD d)) n) : φ_is_name [d] n Φ Ψ := by
  obtain ⟨h, hs⟩ := h
  unfold φ_is_name w_is_name
  cases d <;> first | (cases h; done) | skip
  case str x =>
    have hl := okS_line (hs x rfl)
    walk_at "dw"
    refine ⟨hl, ?_⟩
    have hΦ' : Φ (.bl (nameB x)) n := hΦ
    unfold nameB at hΦ'
    by_cases h1 : (1 : Int) ≤ x.length
    · rw [decide_eq_true h1] at hΦ'
      rw [if_pos h1]
      by_cases h2 : (x.length : Int) ≤ 8
      · rw [decide_eq_true h2] at hΦ' ⊢
        walk_at "dw"
        refine comp_map (fun c => .str ⟨#[c]⟩) (fun c => .bl (decide (c ∈ AZ.cps.toList))) (fun c hc n Φ' h => ?_) ?_ ?_
        · walk_at "dw"
          exact ⟨c, rfl, h⟩
        · simpa [Str.length] using hl
        · refine ⟨x.cps.toList.map fun c => decide (c ∈ AZ.cps.toList), by simp, ?_⟩
          rw [List.all_map]
          simpa using hΦ'
      · rw [decide_eq_false h2] at hΦ' ⊢
        walk_at "dw"
        simpa using hΦ'
    · rw [decide_eq_false h1] at hΦ'
      rw [if_neg h1]
      simpa using hΦ'
  case ob c fs =>
    have : c = "Ward" := by simpa [pl] using h
    subst this
    walk_at "dw"
    exact hΦ
  all_goals (walk_at "dw"; exact hΦ)
/-- making a ward -/
theorem ward_init_ok {ds : List D} (hg : ∀ d ∈ ds, good d) (hl : ds.length < 60) {n : Nat} {Φ : KD} {Ψ : XD}
    (h1 : ds.all isNameD = false → Ψ ⟨"BadWard", [("part", .str "corner")]⟩ n) (h2 : ds = [] → Ψ ⟨"BadWard", [("part", .str "none")]⟩ n)
    (h3 : ds.all isNameD = true → 7 < (ascS (strsOf ds)).length → Ψ ⟨"TooMany", [("most", .int 7), ("what", .str "corners")]⟩ n)
    (h4 : ds.all isNameD = true → ds ≠ [] → (ascS (strsOf ds)).length ≤ 7 → Φ (wardO (ascS (strsOf ds))) n) : φ_Ward_init ds n Φ Ψ := by
  have sz : ds.length ≤ sizeLine := by rw [sizeLine_eq]; omega
  unfold φ_Ward_init w_Ward_init
  walk_at "dw"
  refine ⟨sz, ?_⟩
  refine comp_id (fun d => .bl (isNameD d)) (fun d hd n Φ' h => ?_) ?_ ?_
  · walk_at "dw"
    exact is_name_ok (hg d hd) h
  · simpa using sz
  · refine ⟨ds.map isNameD, by simp, ?_⟩
    simp only [List.all_map]
    cases ha : ds.all isNameD with
    | false =>
      have : (ds.all (id ∘ isNameD)) = false := ha
      simp only [this]
      walk_at "dw"
      exact h1 ha
    | true =>
      have : (ds.all (id ∘ isNameD)) = true := ha
      simp only [this]
      walk_at "dw"
      by_cases he : ds = []
      · subst he
        walk_at "dw"
        exact h2 rfl
      · have e0 : ds.isEmpty = false := by cases ds <;> simp_all
        simp only [e0]
        walk_at "dw"
        obtain ⟨es, en⟩ := strs_all ha
        unfold φ_ascending w_ascending
        walk_at "dw"
        have e1 : (strsOf ds).length = ds.length := by rw [es, strsOf_map, List.length_map]
        refine ⟨strsOf ds, es, by omega, ?_⟩
        rw [List.length_map]
        by_cases h7 : 7 < (ascS (strsOf ds)).length
        · rw [if_pos (by omega)]
          exact h3 ha h7
        · rw [if_neg (by omega)]
          exact ⟨by decide, h4 ha he (by omega)⟩
theorem eq_ward {a b : List Str} (ha : ∀ s ∈ a, okS s) (hb : ∀ s ∈ b, okS s) {n : Nat} {Φ : KD} {Ψ : XD} (h : Φ (.bl (decide (a = b))) n) : φ_Ward_eq [wardO a, wardO b] n Φ Ψ := by
  unfold φ_Ward_eq w_Ward_eq wardO
  walk_at "dw"
  rw [dep_strs, dep_strs]
  exact ⟨py_strs ha, py_strs hb, by omega, by omega, by rw [eqbL_strs]; exact h⟩
theorem eq_other {a : List Str} {d : D} (hd : pl d = true) (h0 : ∀ c fs, d ≠ .ob c fs) {n : Nat} {Φ : KD} {Ψ : XD} (h : Φ (.bl false) n) : φ_Ward_eq [wardO a, d] n Φ Ψ := by
  unfold φ_Ward_eq w_Ward_eq wardO
  cases d <;> first | (cases hd; done) | exact absurd rfl (h0 _ _) | (walk_at "dw"; exact h)
theorem contains_ok {ss : List Str} {d : D} (ho : ∀ s ∈ ss, okS s) (ha : askB d) (h0 : ∀ c fs, d ≠ .ob c fs) {n : Nat} {Φ : KD} {Ψ : XD} (h : Φ (.bl (inB ss d)) n) : φ_Ward_contains [wardO ss, d] n Φ Ψ := by
  obtain ⟨h1, h2⟩ := ask_in ho ha
  unfold φ_Ward_contains w_Ward_contains wardO
  cases d <;> first | exact absurd rfl (h0 _ _) | (walk_at "dw"; exact ⟨h1, by rw [h2]; simpa using h⟩)
theorem contains_ward {ss a : List Str} (ho : ∀ s ∈ ss, okS s) {n : Nat} {Φ : KD} {Ψ : XD} (h : Φ (.bl false) n) : φ_Ward_contains [wardO ss, wardO a] n Φ Ψ := by
  unfold φ_Ward_contains w_Ward_contains
  have e : wardO ss = .ob "Ward" [("_corners", .tup (ss.map D.str))] := rfl
  have e2 : wardO a = .ob "Ward" [("_corners", .tup (a.map D.str))] := rfl
  rw [e, e2]
  walk_at "dw"
  exact ⟨ss, rfl, fun z hz n' Φ' q => eq_other (a := a) rfl (by intro c fs z; cases z) q, h⟩
theorem good_str {s : Str} (h : nameB s = true) : good (.str s) := ⟨rfl, fun x e => by cases e; exact (nameB_ok h).1⟩
theorem pick_law {ds : List D} {n : Nat} {Φ : KD} {Ψ : XD} (h0 : 0 < ds.length) (h1 : ds.length ≤ 1000) (hn : n ≤ 100000) (h : ∀ d ∈ ds, Φ d (n + 1)) : φ__law_pick [.pen, .lst ds] n Φ Ψ := by
  unfold φ__law_pick w__law_pick
  walk_at "dw"
  refine draw_ok hn (by omega) (by rw [pow60]; omega) fun k k0 k1 => ?_
  obtain ⟨d, e, m⟩ := at_in k0 k1
  exact ⟨d, e, h d m⟩
end K15
/-! mathematics of texts: parting at a sign and joining -/
namespace DL
open PySem PySem.Spec PyProof.Rows L2 Gx KX LamX
abbrev C1 (c : Nat) : Str := ⟨#[c]⟩
def freeS (c : Nat) (ss : List Str) : Prop := ∀ s ∈ ss, c ∉ s.cps.toList
theorem app_inj {c : Nat} : ∀ {p q X Y : List Nat}, c ∉ p → c ∉ q → p ++ c :: X = q ++ c :: Y → p = q ∧ X = Y
  | [], [], _, _, _, _, e => ⟨rfl, (List.cons.inj e).2⟩
  | [], b :: q, _, _, _, hq, e => absurd ((List.cons.inj e).1 ▸ List.mem_cons_self) hq
  | a :: p, [], _, _, hp, _, e => absurd ((List.cons.inj e).1 ▸ List.mem_cons_self) hp
  | a :: p, b :: q, X, Y, hp, hq, e => by
    obtain ⟨h1, h2⟩ := List.cons.inj e
    obtain ⟨h3, h4⟩ := app_inj (fun z => hp (List.mem_cons_of_mem _ z)) (fun z => hq (List.mem_cons_of_mem _ z)) h2
    exact ⟨by rw [h1, h3], h4⟩
theorem join_two {sep p q : Str} {r : List Str} : (Str.join sep (p :: q :: r)).cps.toList = p.cps.toList ++ sep.cps.toList ++ (Str.join sep (q :: r)).cps.toList := by
  show (p ++ sep ++ Str.join sep (q :: r)).cps.toList = _
  rw [Str.cps_append, Str.cps_append, Array.toList_append, Array.toList_append]
theorem str_eq {a b : Str} (h : a.cps.toList = b.cps.toList) : a = b := Str.ext' (Array.toList_inj.mp h)
theorem join_inj {c : Nat} : ∀ {ps qs : List Str}, ps ≠ [] → qs ≠ [] → freeS c ps → freeS c qs → Str.join (C1 c) ps = Str.join (C1 c) qs → ps = qs
  | [], _, h, _, _, _, _ => absurd rfl h
  | _ :: _, [], _, h, _, _, _ => absurd rfl h
  | [p], [q], _, _, _, _, e => by rw [show p = q from e]
  | [p], q :: q2 :: r, _, _, fp, _, e => by
    have e1 := congrArg (fun s : Str => s.cps.toList) e
    rw [join_two] at e1
    have e2 : p.cps.toList = (Str.join (C1 c) [p]).cps.toList := rfl
    refine absurd ?_ (fp p List.mem_cons_self)
    rw [e2, e1]
    simp
  | p :: p2 :: r, [q], _, _, _, fq, e => by
    have e1 := congrArg (fun s : Str => s.cps.toList) e
    rw [join_two] at e1
    have e2 : q.cps.toList = (Str.join (C1 c) [q]).cps.toList := rfl
    refine absurd ?_ (fq q List.mem_cons_self)
    rw [e2, ← e1]
    simp
  | p :: p2 :: r, q :: q2 :: t, _, _, fp, fq, e => by
    have e1 := congrArg (fun s : Str => s.cps.toList) e
    rw [join_two, join_two, List.append_assoc, List.append_assoc] at e1
    obtain ⟨h1, h2⟩ := app_inj (fp p List.mem_cons_self) (fq q List.mem_cons_self) e1
    have h3 := join_inj (ps := p2 :: r) (qs := q2 :: t) (by simp) (by simp) (fun s hs => fp s (List.mem_cons_of_mem _ hs)) (fun s hs => fq s (List.mem_cons_of_mem _ hs)) (str_eq h2)
    rw [str_eq h1, h3]
theorem txt_join (sep : Str) (ss : List Str) : Txt.join sep ss = Str.join sep ss := StrLaws.glued_eq_join sep ss
theorem split_ne (x : Str) (c : Nat) : Txt.split x (C1 c) ≠ [] := fun e => by
  have := split_pos x (C1 c)
  rw [e] at this
  exact absurd this (by decide)
theorem split_of_join {c : Nat} {ss : List Str} (f : freeS c ss) (h : ss ≠ []) : Txt.split (Txt.join (C1 c) ss) (C1 c) = ss := by
  refine join_inj (split_ne _ _) h (StrLaws.split_free _ c) f ?_
  rw [StrLaws.join_split, txt_join]
theorem mem_join {sep : Str} {d : Nat} : ∀ {ss : List Str} {s : Str}, s ∈ ss → d ∈ s.cps.toList → d ∈ (Str.join sep ss).cps.toList
  | [p], s, h, hd => by rw [List.mem_singleton.mp h] at hd; exact hd
  | p :: q :: r, s, h, hd => by
    rw [join_two, List.mem_append, List.mem_append]
    rcases List.mem_cons.mp h with rfl | h
    · exact .inl (.inl hd)
    · exact .inr (mem_join h hd)
theorem of_join {sep : Str} {d : Nat} : ∀ {ss : List Str}, d ∈ (Str.join sep ss).cps.toList → d ∈ sep.cps.toList ∨ ∃ s ∈ ss, d ∈ s.cps.toList
  | [], h => by simp [Str.join, Str.empty] at h
  | [p], h => .inr ⟨p, List.mem_cons_self, h⟩
  | p :: q :: r, h => by
    rw [join_two, List.mem_append, List.mem_append] at h
    rcases h with (h | h) | h
    · exact .inr ⟨p, List.mem_cons_self, h⟩
    · exact .inl h
    · rcases of_join h with h | ⟨s, hs, h⟩
      · exact .inl h
      · exact .inr ⟨s, List.mem_cons_of_mem _ hs, h⟩
theorem split_chars {x : Str} {c d : Nat} {s : Str} (h : s ∈ Txt.split x (C1 c)) (hd : d ∈ s.cps.toList) : d ∈ x.cps.toList := by
  have e := StrLaws.join_split x (C1 c)
  rw [← e]
  exact mem_join h hd
theorem count_join {c : Nat} : ∀ {ss : List Str}, ss ≠ [] → freeS c ss → (Str.join (C1 c) ss).cps.toList.count c + 1 = ss.length
  | [], h, _ => absurd rfl h
  | [p], _, f => by
    show p.cps.toList.count c + 1 = 1
    rw [List.count_eq_zero.mpr (f p List.mem_cons_self)]
  | p :: q :: r, _, f => by
    have ih := count_join (ss := q :: r) (by simp) (fun s hs => f s (List.mem_cons_of_mem _ hs))
    rw [join_two, List.count_append, List.count_append, List.count_eq_zero.mpr (f p List.mem_cons_self), List.length_cons, ← ih]
    have : (C1 c).cps.toList.count c = 1 := by simp
    rw [this]
    omega
theorem split_count (x : Str) (c : Nat) : (Txt.split x (C1 c)).length = x.cps.toList.count c + 1 := by
  have h := count_join (split_ne x c) (StrLaws.split_free x c)
  rw [StrLaws.join_split] at h
  exact h.symm
/-- length and number of the parts together -/
def wS (ss : List Str) : Nat := (ss.map (·.length)).sum + ss.length
theorem wS_app (a b : List Str) : wS (a ++ b) = wS a + wS b := by
  unfold wS
  rw [List.map_append, List.sum_append, List.length_append]
  omega
theorem wS_one (a : Str) : wS [a] = a.length + 1 := by simp [wS]
theorem wS_mem : ∀ {ss : List Str} {s : Str}, s ∈ ss → s.length + 1 ≤ wS ss
  | p :: r, s, h => by
    have e : wS (p :: r) = p.length + 1 + wS r := by
      show wS ([p] ++ r) = _
      rw [wS_app, wS_one]
    rw [e]
    rcases List.mem_cons.mp h with rfl | h
    · omega
    · have := wS_mem h
      omega
theorem wS_split (x : Str) (c : Nat) : wS (Txt.split x (C1 c)) ≤ x.length + 1 := split_weight x (C1 c) (Nat.le_refl 1)
theorem wS_join (c : Nat) (ss : List Str) : (Txt.join (C1 c) ss).length ≤ wS ss := by
  rw [txt_join]
  have := StrLaws.join_length_le (C1 c) ss
  have e : (C1 c).length = 1 := rfl
  rw [e] at this
  unfold wS
  omega
theorem wS_perm {a b : List Str} (h : a.Perm b) : wS a = wS b := by
  unfold wS
  rw [h.length_eq, (h.map _).sum_nat]
/-- signs below 128, so long at most, so often the sign c at most -/
structure okT (c k m : Nat) (x : Str) : Prop where
  l : x.length ≤ k
  a : ∀ d ∈ x.cps.toList, d < 128
  n : x.cps.toList.count c ≤ m
theorem okT.split_len {c k m : Nat} {x : Str} (h : okT c k m x) : (Txt.split x (C1 c)).length ≤ m + 1 := by
  rw [split_count]
  have := h.n
  omega
theorem okT.part {c k m : Nat} {x : Str} (h : okT c k m x) : ∀ s ∈ Txt.split x (C1 c), s.length ≤ k ∧ ∀ d ∈ s.cps.toList, d < 128 := fun s hs =>
  ⟨Nat.le_trans (part_short hs) h.l, fun d hd => h.a d (split_chars hs hd)⟩
theorem okT.of_join {c k : Nat} {ss : List Str} (hc : c < 128) (f : freeS c ss) (ha : ∀ s ∈ ss, ∀ d ∈ s.cps.toList, d < 128) (hw : wS ss ≤ k) : okT c k ss.length (Txt.join (C1 c) ss) := by
  refine ⟨Nat.le_trans (wS_join c ss) hw, fun d hd => ?_, ?_⟩
  · rw [txt_join] at hd
    rcases DL.of_join hd with h | ⟨s, hs, h⟩
    · have : d = c := by simpa using h
      omega
    · exact ha s hs d h
  · rw [txt_join]
    cases ss with
    | nil => simp [Str.join, Str.empty]
    | cons p r =>
      have := count_join (c := c) (ss := p :: r) (by simp) f
      omega
theorem okT.mono {c k m k' m' : Nat} {x : Str} (h : okT c k m x) (h1 : k ≤ k') (h2 : m ≤ m') : okT c k' m' x := ⟨Nat.le_trans h.l h1, h.a, Nat.le_trans h.n h2⟩
theorem okT.app {c k m k' m' : Nat} {x y : Str} (h : okT c k m x) (g : okT c k' m' y) : okT c (k + k') (m + m') (x ++ y) := by
  refine ⟨by rw [Str.length_append]; have := h.l; have := g.l; omega, fun d hd => ?_, ?_⟩
  · rw [Str.cps_append, Array.toList_append, List.mem_append] at hd
    exact hd.elim (h.a d) (g.a d)
  · rw [Str.cps_append, Array.toList_append, List.count_append]
    have := h.n
    have := g.n
    omega
theorem okT.cut {c k m : Nat} {x : Str} (h : okT c k m x) (lo hi : Option Int) : okT c k m (cutS x lo hi) := by
  have e : ∃ a b, (cutS x lo hi).cps.toList = List.take a (List.drop b x.cps.toList) := ⟨_, _, by simp [cutS]; rfl⟩
  obtain ⟨a, b, e⟩ := e
  have sb : ((cutS x lo hi).cps.toList).Sublist x.cps.toList := by
    rw [e]; exact (List.take_sublist _ _).trans (List.drop_sublist _ _)
  exact ⟨Nat.le_trans (cutS_length x lo hi) h.l, fun d hd => h.a d (sb.subset hd), Nat.le_trans (sb.count_le c) h.n⟩
/-- parts that can be joined -/
def PS (c : Nat) (ss : List Str) : Prop := ∀ s ∈ ss, c ∉ s.cps.toList ∧ ∀ d ∈ s.cps.toList, d < 128
theorem PS.app {c : Nat} {a b : List Str} (h : PS c a) (g : PS c b) : PS c (a ++ b) := fun s hs => (List.mem_append.mp hs).elim (h s) (g s)
theorem PS.take {c : Nat} {a : List Str} (h : PS c a) (n : Nat) : PS c (a.take n) := fun s hs => h s (List.mem_of_mem_take hs)
theorem PS.drop {c : Nat} {a : List Str} (h : PS c a) (n : Nat) : PS c (a.drop n) := fun s hs => h s (List.mem_of_mem_drop hs)
theorem PS.one {c : Nat} {x : Str} (h : c ∉ x.cps.toList) (g : ∀ d ∈ x.cps.toList, d < 128) : PS c [x] := fun s hs => by rw [List.mem_singleton.mp hs]; exact ⟨h, g⟩
theorem okT.parts {c k m : Nat} {x : Str} (h : okT c k m x) : PS c (Txt.split x (C1 c)) := fun s hs => ⟨StrLaws.split_free x c s hs, (h.part s hs).2⟩
theorem wS_take (a : List Str) (n : Nat) : wS (a.take n) ≤ wS a := by
  have := wS_app (a.take n) (a.drop n)
  rw [List.take_append_drop] at this
  omega
theorem wS_drop (a : List Str) (n : Nat) : wS (a.drop n) ≤ wS a := by
  have := wS_app (a.take n) (a.drop n)
  rw [List.take_append_drop] at this
  omega
theorem join_end {c k m n : Nat} {ss : List Str} {Φ : D → Nat → Prop} (hc : c < 128) (p : PS c ss) (hw : wS ss ≤ k) (hk : k ≤ 100000) (hm : ss.length ≤ m) (h : ∀ y, okT c k m y → Φ (.str y) n) :
    ∃ zs : List Str, ss.map D.str = zs.map D.str ∧ (zs.map (·.length)).sum + zs.length * (C1 c).length ≤ 16777216 ∧ Φ (.str (Txt.join (C1 c) zs)) n := by
  refine ⟨ss, rfl, ?_, h _ ((okT.of_join hc (fun s hs => (p s hs).1) (fun s hs => (p s hs).2) hw).mono (Nat.le_refl _) hm)⟩
  have e : (C1 c).length = 1 := rfl
  rw [e]
  unfold wS at hw
  omega
theorem ofS_comma : Str.ofString "," = C1 44 := by decide +kernel
theorem ofS_space : Str.ofString " " = C1 32 := by decide +kernel
/-- rising from each to the next is rising at all -/
theorem rising {ss : List Str} : ss.Pairwise ltS ↔ ∀ k, (h : k + 1 < ss.length) → ltS ss[k] ss[k + 1] := by
  rw [List.pairwise_iff_getElem]
  constructor
  · intro h k hk
    exact h k (k + 1) (by omega) hk (by omega)
  · intro h i j hi hj hij
    obtain ⟨m, rfl⟩ : ∃ m, j = i + 1 + m := ⟨j - i - 1, by omega⟩
    induction m with
    | zero => exact h i hj
    | succ m ih =>
      have h1 := ih (by omega) (by omega)
      have h2 := h (i + 1 + m) (by omega)
      exact List.lt_trans h1 h2
end DL
namespace K15
open PySem PySem.Spec PyProof.Rows L2 Hx Gx KX LamX DL
local macro_rules | `(tactic| walk_at "dw") => `(tactic| simp only [DL.dVar, DL.dC, DL.dOp2, DL.dUn, DL.dCB, DL.dNil, DL.dCons, DL.dStar, DL.dTup, DL.dLst, DL.dTru, DL.dTest, DL.dAnd, DL.dOr, DL.dNot, DL.dIf, DL.dAndV, DL.dOrV, DL.dNotV, DL.sNext, DL.sSeq, DL.sDrop, DL.sRet, DL.sRetN, DL.sRaise, List.zip_cons_cons, List.zip_nil_right,  DL.sIf, DL.sSet, DL.sAsg, DL.sPar, DL.sFor, DL.dCall, DL.dMake, DL.dR, DL.dSt, DL.dKw0, DL.dMet, DL.dOpN, DL.dUnN, DL.pureN, DL.pure1, DL.selN, DL.selR, DL.inX, DL.sel1, DL.selNe, DL.selLen, DL.selStr, DL.list1, DL.attD, DL.isiD, DL.isB, DL.isC, DL.D.tn, DL.kitT, DL.truD, DL.lenD, DL.absD, DL.intD, DL.strD, DL.listD, DL.tupleD, DL.allD, DL.inD, DL.ixD, DL.slD, DL.dSl, DL.dRevL, DL.atI_c0, DL.dNoPart, DL.dPart, DL.iSeq, DL.iOb, DL.walkI, DL.walkD, DL.iRg1, DL.iRg2, DL.addD, DL.subD, DL.mulD, DL.modD, DL.fdivD, DL.powD, DL.ltD, DL.leD, DL.gtD, DL.geD, DL.ordD, DL.reprD_1, DL.eqD_non, DL.eqD_bl, DL.eqD_int, DL.eqD_tup, DL.eqD_dct, DL.eqD_ss, DL.eqD_snon, DL.eqD_sbl, DL.eqD_sint, DL.eqD_stup, DL.eqD_slst, DL.eqD_sdct, DL.eqD_l0, DL.eqD_lc, DL.eqD_lnon, DL.eqD_lbl, DL.eqD_lint, DL.eqD_ltup, DL.eqD_lstr, DL.eqD_ldct, DL.neD_non, DL.neD_bl, DL.neD_int, DL.neD_tup, DL.neD_dct, DL.neD_ss, DL.neD_snon, DL.neD_sbl, DL.neD_sint, DL.neD_stup, DL.neD_slst, DL.neD_sdct, DL.neD_l0, DL.neD_lc, DL.neD_lnon, DL.neD_lbl, DL.neD_lint, DL.neD_ltup, DL.neD_lstr, DL.neD_ldct, DL.isNone, DL.isBD, DL.negD, DL.dChain, DL.inRgD, DL.gNm, DL.gTu, DL.gTuL, DL.gEnd, DL.gMore, DL.ascL, DL.sTry, DL.sTryC, DL.sApp, DL.sOwn, DL.fLst, DL.fDct, DL.fList, DL.fCat, DL.fSl, DL.dTr, DL.dTrT, DL.sFz, DL.sAug, DL.dAsk, DL.fnD, DL.startD, DL.restD, DL.inD', DL.startI, DL.sFldD, DL.putD, DL.EnD.noNx, DL.caughtR, DL.hideR, DL.hideS, DL.noOwnB, DL.Sl.isOwn, DL.Ow.toD, DL.D.flat, DL.dLc, DL.dTrue, DL.dBm, DL.splitD, DL.sortedD, DL.joinD, DL.dPop, DL.sRetP, DL.sSetP, DL.sAppP, DL.sPDF, DL.sPFD, DL.sPFF, DL.dSV, DL.kwD, DL.fillD, DL.dArg0, DL.dCm, DL.rmpD, DL.okR, DL.dDisp, DL.pairsD, DL.keyD, DL.lawEn, DL.lawRho, List.map_cons, List.map_nil, List.replicate_succ, List.replicate_zero, List.cons_append, List.nil_append, List.append_nil, List.set_cons_zero, List.set_cons_succ, List.getElem?_cons_zero, List.getElem?_cons_succ, List.length_cons, List.length_nil, List.length_append, List.take_zero, List.drop_zero, List.take_succ_cons, List.drop_succ_cons, List.lookup_cons, List.lookup_nil, List.contains_cons, List.contains_nil, List.all_cons, List.all_nil, Option.some.injEq, DL.Sl.d.injEq, DL.Sl.own.injEq, DL.D.int.injEq, DL.D.str.injEq, DL.D.bl.injEq, DL.D.lst.injEq, DL.D.tup.injEq, DL.D.ob.injEq, DL.Ow.lst.injEq, DL.Ow.dct.injEq, DL.Ow.ins.injEq, List.cons.injEq, DL.ex_cons, DL.ofS_beq, DL.ofS_inj, String.reduceBEq, String.reduceEq, exists_eq_left', exists_eq_left, exists_false, exists_eq_right, exists_eq_right', exists_and_left, exists_and_right, exists_eq', exists_eq, true_and, and_true, and_self, if_true, if_false, ite_true, ite_false, Bool.false_eq_true, Bool.true_eq_false, Bool.not_true, Bool.not_false, Bool.or_true, Bool.or_false, Bool.true_or, Bool.false_or, Bool.and_true, Bool.true_and, Bool.and_false, Bool.false_and, Bool.true_xor, Bool.false_xor, Option.map_some, Option.map_none, reduceCtorEq, not_false_eq_true, not_true_eq_false, ne_eq, implies_true, decide_true, decide_false, and_false, false_and, or_false, false_or, beq_self_eq_true, List.isEmpty_nil, List.isEmpty_cons, List.reverse_nil, List.reverse_cons, DL.D.isPy, DL.isPyL, DL.D.dep, DL.depL, DL.eqb_non_non, DL.eqb_non_bl, DL.eqb_non_int, DL.eqb_non_str, DL.eqb_non_tup, DL.eqb_non_lst, DL.eqb_non_dct, DL.eqb_bl_non, DL.eqb_bl_bl, DL.eqb_bl_int, DL.eqb_bl_str, DL.eqb_bl_tup, DL.eqb_bl_lst, DL.eqb_bl_dct, DL.eqb_int_non, DL.eqb_int_bl, DL.eqb_int_int, DL.eqb_int_str, DL.eqb_int_tup, DL.eqb_int_lst, DL.eqb_int_dct, DL.eqb_str_non, DL.eqb_str_bl, DL.eqb_str_int, DL.eqb_str_str, DL.eqb_str_tup, DL.eqb_str_lst, DL.eqb_str_dct, DL.eqb_tup_non, DL.eqb_tup_bl, DL.eqb_tup_int, DL.eqb_tup_str, DL.eqb_tup_tup, DL.eqb_tup_lst, DL.eqb_tup_dct, DL.eqb_lst_non, DL.eqb_lst_bl, DL.eqb_lst_int, DL.eqb_lst_str, DL.eqb_lst_tup, DL.eqb_lst_lst, DL.eqb_lst_dct, DL.eqb_dct_non, DL.eqb_dct_bl, DL.eqb_dct_int, DL.eqb_dct_str, DL.eqb_dct_tup, DL.eqb_dct_lst, DL.eqb_dct_dct, DL.eqbL_00, DL.eqbL_0c, DL.eqbL_c0, DL.eqbL_cc, Nat.zero_le, Nat.le_refl, Nat.max_self, Nat.max_zero, Nat.zero_max, Nat.zero_add, beq_iff_eq, decide_eq_true_eq])
local macro_rules | `(tactic| walk_at "dq") => `(tactic| simp only [DL.dVar, DL.dC, DL.dOp2, DL.dUn, DL.dCB, DL.dNil, DL.dCons, DL.dStar, DL.dTup, DL.dLst, DL.dTru, DL.dTest, DL.dAnd, DL.dOr, DL.dNot, DL.dIf, DL.dAndV, DL.dOrV, DL.dNotV, DL.sNext, DL.sDrop, DL.sRet, DL.sRetN, DL.sRaise, List.zip_cons_cons, List.zip_nil_right,  DL.sIf, DL.sSet, DL.sAsg, DL.sPar, DL.sFor, DL.dCall, DL.dMake, DL.dR, DL.dSt, DL.dKw0, DL.dMet, DL.dOpN, DL.dUnN, DL.pureN, DL.pure1, DL.selN, DL.selR, DL.inX, DL.sel1, DL.selNe, DL.selLen, DL.selStr, DL.list1, DL.attD, DL.isiD, DL.isB, DL.isC, DL.D.tn, DL.kitT, DL.truD, DL.lenD, DL.absD, DL.intD, DL.strD, DL.listD, DL.tupleD, DL.allD, DL.inD, DL.ixD, DL.slD, DL.dSl, DL.dRevL, DL.atI_c0, DL.dNoPart, DL.dPart, DL.iSeq, DL.iOb, DL.walkI, DL.walkD, DL.iRg1, DL.iRg2, DL.addD, DL.subD, DL.mulD, DL.modD, DL.fdivD, DL.powD, DL.ltD, DL.leD, DL.gtD, DL.geD, DL.ordD, DL.reprD_1, DL.eqD_non, DL.eqD_bl, DL.eqD_int, DL.eqD_tup, DL.eqD_dct, DL.eqD_ss, DL.eqD_snon, DL.eqD_sbl, DL.eqD_sint, DL.eqD_stup, DL.eqD_slst, DL.eqD_sdct, DL.eqD_l0, DL.eqD_lc, DL.eqD_lnon, DL.eqD_lbl, DL.eqD_lint, DL.eqD_ltup, DL.eqD_lstr, DL.eqD_ldct, DL.neD_non, DL.neD_bl, DL.neD_int, DL.neD_tup, DL.neD_dct, DL.neD_ss, DL.neD_snon, DL.neD_sbl, DL.neD_sint, DL.neD_stup, DL.neD_slst, DL.neD_sdct, DL.neD_l0, DL.neD_lc, DL.neD_lnon, DL.neD_lbl, DL.neD_lint, DL.neD_ltup, DL.neD_lstr, DL.neD_ldct, DL.isNone, DL.isBD, DL.negD, DL.dChain, DL.inRgD, DL.gNm, DL.gTu, DL.gTuL, DL.gEnd, DL.gMore, DL.ascL, DL.sTry, DL.sTryC, DL.sApp, DL.sOwn, DL.fLst, DL.fDct, DL.fList, DL.fCat, DL.fSl, DL.dTr, DL.dTrT, DL.sFz, DL.sAug, DL.dAsk, DL.fnD, DL.startD, DL.restD, DL.inD', DL.startI, DL.sFldD, DL.putD, DL.EnD.noNx, DL.caughtR, DL.hideR, DL.hideS, DL.noOwnB, DL.Sl.isOwn, DL.Ow.toD, DL.D.flat, DL.dLc, DL.dTrue, DL.dBm, DL.splitD, DL.sortedD, DL.joinD, DL.dPop, DL.sRetP, DL.sSetP, DL.sAppP, DL.sPDF, DL.sPFD, DL.sPFF, DL.dSV, DL.kwD, DL.fillD, DL.dArg0, DL.dCm, DL.rmpD, DL.okR, DL.dDisp, DL.pairsD, DL.keyD, DL.lawEn, DL.lawRho, List.map_cons, List.map_nil, List.replicate_succ, List.replicate_zero, List.cons_append, List.nil_append, List.append_nil, List.set_cons_zero, List.set_cons_succ, List.getElem?_cons_zero, List.getElem?_cons_succ, List.length_cons, List.length_nil, List.length_append, List.take_zero, List.drop_zero, List.take_succ_cons, List.drop_succ_cons, List.lookup_cons, List.lookup_nil, List.contains_cons, List.contains_nil, List.all_cons, List.all_nil, Option.some.injEq, DL.Sl.d.injEq, DL.Sl.own.injEq, DL.D.int.injEq, DL.D.str.injEq, DL.D.bl.injEq, DL.D.lst.injEq, DL.D.tup.injEq, DL.D.ob.injEq, DL.Ow.lst.injEq, DL.Ow.dct.injEq, DL.Ow.ins.injEq, List.cons.injEq, DL.ex_cons, DL.ofS_beq, DL.ofS_inj, String.reduceBEq, String.reduceEq, exists_eq_left', exists_eq_left, exists_false, exists_eq_right, exists_eq_right', exists_and_left, exists_and_right, exists_eq', exists_eq, true_and, and_true, and_self, if_true, if_false, ite_true, ite_false, Bool.false_eq_true, Bool.true_eq_false, Bool.not_true, Bool.not_false, Bool.or_true, Bool.or_false, Bool.true_or, Bool.false_or, Bool.and_true, Bool.true_and, Bool.and_false, Bool.false_and, Bool.true_xor, Bool.false_xor, Option.map_some, Option.map_none, reduceCtorEq, not_false_eq_true, not_true_eq_false, ne_eq, implies_true, decide_true, decide_false, and_false, false_and, or_false, false_or, beq_self_eq_true, List.isEmpty_nil, List.isEmpty_cons, List.reverse_nil, List.reverse_cons, DL.D.isPy, DL.isPyL, DL.D.dep, DL.depL, DL.eqb_non_non, DL.eqb_non_bl, DL.eqb_non_int, DL.eqb_non_str, DL.eqb_non_tup, DL.eqb_non_lst, DL.eqb_non_dct, DL.eqb_bl_non, DL.eqb_bl_bl, DL.eqb_bl_int, DL.eqb_bl_str, DL.eqb_bl_tup, DL.eqb_bl_lst, DL.eqb_bl_dct, DL.eqb_int_non, DL.eqb_int_bl, DL.eqb_int_int, DL.eqb_int_str, DL.eqb_int_tup, DL.eqb_int_lst, DL.eqb_int_dct, DL.eqb_str_non, DL.eqb_str_bl, DL.eqb_str_int, DL.eqb_str_str, DL.eqb_str_tup, DL.eqb_str_lst, DL.eqb_str_dct, DL.eqb_tup_non, DL.eqb_tup_bl, DL.eqb_tup_int, DL.eqb_tup_str, DL.eqb_tup_tup, DL.eqb_tup_lst, DL.eqb_tup_dct, DL.eqb_lst_non, DL.eqb_lst_bl, DL.eqb_lst_int, DL.eqb_lst_str, DL.eqb_lst_tup, DL.eqb_lst_lst, DL.eqb_lst_dct, DL.eqb_dct_non, DL.eqb_dct_bl, DL.eqb_dct_int, DL.eqb_dct_str, DL.eqb_dct_tup, DL.eqb_dct_lst, DL.eqb_dct_dct, DL.eqbL_00, DL.eqbL_0c, DL.eqbL_c0, DL.eqbL_cc, Nat.zero_le, Nat.le_refl, Nat.max_self, Nat.max_zero, Nat.zero_max, Nat.zero_add, beq_iff_eq, decide_eq_true_eq])
def resK (r : List Str) (k : D → Prop) (e : Er → Prop) : Prop := if r = [] then e ⟨"BadWard", [("part", .str "none")]⟩ else if 7 < r.length then e ⟨"TooMany", [("most", .int 7), ("what", .str "corners")]⟩ else k (wardO r)
theorem good_strs {ss : List Str} (h : ∀ s ∈ ss, nameB s = true) : ∀ d ∈ ss.map D.str, good d := fun d hd => by
  obtain ⟨s, hs, rfl⟩ := List.mem_map.mp hd
  exact good_str (h s hs)
theorem init_names {ss : List Str} (hn : ∀ s ∈ ss, nameB s = true) (hl : ss.length ≤ 50) {n : Nat} {Φ : KD} {Ψ : XD} (h : resK (ascS ss) (fun d => Φ d n) (fun e => Ψ e n)) : φ_Ward_init (ss.map D.str) n Φ Ψ := by
  have ha : (ss.map D.str).all isNameD = true := all_names hn
  unfold resK at h
  refine ward_init_ok (good_strs hn) (by rw [List.length_map]; omega) (fun e => ?_) (fun e => ?_) (fun _ e => ?_) (fun _ e1 e2 => ?_)
  · rw [ha] at e; cases e
  · have e0 : ss = [] := List.map_eq_nil_iff.mp e
    rw [e0] at h
    exact h
  · rw [strsOf_map] at e
    rw [if_neg (fun z => by rw [z] at e; simp at e), if_pos e] at h
    exact h
  · rw [strsOf_map] at e2 ⊢
    rw [if_neg (fun z => e1 (by rw [ascS_nil.mp z]; rfl)), if_neg (by omega)] at h
    exact h
theorem check_ok {a : List Str} {n : Nat} {Φ : KD} {Ψ : XD} (h : Φ .non n) : φ_check_ward [wardO a] n Φ Ψ := by
  unfold φ_check_ward w_check_ward wardO
  walk_at "dw"
  exact h
theorem or_ok {a b : List Str} (ha : ∀ s ∈ a, nameB s = true) (hb : ∀ s ∈ b, nameB s = true) (hl : a.length + b.length ≤ 50) {n : Nat} {Φ : KD} {Ψ : XD} (h : resK (ascS (a ++ b)) (fun d => Φ d n) (fun e => Ψ e n)) : φ_Ward_or [wardO a, wardO b] n Φ Ψ := by
  have big : 1000 ≤ sizeLine := by decide
  unfold φ_Ward_or w_Ward_or
  have e1 : wardO a = .ob "Ward" [("_corners", .tup (a.map D.str))] := rfl
  have e2 : wardO b = .ob "Ward" [("_corners", .tup (b.map D.str))] := rfl
  rw [e1, e2]
  walk_at "dw"
  refine check_ok ?_
  rw [List.length_map, List.length_map, ← List.map_append]
  exact ⟨by omega, init_names (fun s hs => (List.mem_append.mp hs).elim (ha s) (hb s)) (by rw [List.length_append]; omega) h⟩
theorem corners_prop {a : List Str} {n : Nat} {Φ : KD} {Ψ : XD} (h : Φ (.tup (a.map D.str)) n) : φ_Ward_corners [wardO a] n Φ Ψ := by
  unfold φ_Ward_corners w_Ward_corners wardO
  walk_at "dw"
  exact h
theorem one_ward {s : Str} (h : nameB s = true) {n : Nat} {Φ : KD} {Ψ : XD} (hΦ : Φ (wardO [s]) n) : φ_Ward_init [.str s] n Φ Ψ := by
  have e : ascS [s] = [s] := rfl
  refine init_names (ss := [s]) (fun t ht => by rw [List.mem_singleton.mp ht]; exact h) (by simp) ?_
  rw [e]
  exact hΦ
structure Nm (a : List Str) : Prop where
  n : ∀ s ∈ a, nameB s = true
  s : a.Pairwise ltS
  z : a ≠ []
  l : a.length ≤ 7
theorem Nm.ok {a : List Str} (x : Nm a) : ∀ s ∈ a, okS s := fun s hs => (nameB_ok (x.n s hs)).1
theorem law_ward_ok {a : List Str} (x : Nm a) {n : Nat} {Φ : KD} {Ψ : XD} (h : Φ (wardO a) n) : φ__law_ward [.lst (a.map D.str)] n Φ Ψ := by
  have lp : 0 < a.length := List.length_pos_iff.mpr x.z
  have xl := x.l
  obtain ⟨sl, hl⟩ : ∃ sl, a[a.length - 1]? = some sl := ⟨a[a.length - 1], List.getElem?_eq_getElem (by omega)⟩
  have ml : sl ∈ a := List.mem_of_getElem? hl
  have at0 : atI (a.map D.str) (-1) = some (.str sl) := by
    rw [atI_last (by rw [List.length_map]; exact lp), List.length_map, List.getElem?_map, hl]
    rfl
  have ct : DL.cutD (a.map D.str) none (some (-1)) = (a.take (a.length - 1)).map D.str := by
    rw [cut_init, List.length_map, List.map_take]
  unfold φ__law_ward w__law_ward
  walk_at "dw"
  refine ⟨_, at0, one_ward (x.n sl ml) ?_⟩
  rw [ct]
  have tl : (a.take (a.length - 1)).length = a.length - 1 := by rw [List.length_take]; omega
  refine for_ok (fun j ρ n' => n' = n ∧ ∃ s, ρ = [.d (.lst (a.map D.str)), .d (wardO (ascS (sl :: a.take j))), s]) ⟨rfl, _, rfl⟩ (fun j d ρ n' nx hd ⟨hn', s, hρ⟩ hnx => ?_) fun ρ n' ⟨hn', s, hρ⟩ => ?_
  · subst hρ
    subst hn'
    rw [List.getElem?_map] at hd
    obtain ⟨y, hy, rfl⟩ := Option.map_eq_some_iff.mp hd
    have jl := (List.getElem?_eq_some_iff.mp hy).1
    have my : y ∈ a := List.mem_of_mem_take (List.mem_of_getElem? hy)
    have hy2 : a[j]? = some y := by
      rw [List.getElem?_take] at hy
      split at hy
      · exact hy
      · cases hy
    walk_at "dw"
    have e1 : wardO (ascS (sl :: a.take j)) = .ob "Ward" [("_corners", .tup ((ascS (sl :: a.take j)).map D.str))] := rfl
    have e2 : wardO [y] = .ob "Ward" [("_corners", .tup ([y].map D.str))] := rfl
    refine one_ward (x.n y my) ?_
    rw [e1, e2]
    walk_at "dw"
    have nm : ∀ s ∈ ascS (sl :: a.take j), nameB s = true := fun s hs => by
      rw [ascS_mem] at hs
      rcases List.mem_cons.mp hs with rfl | hs
      · exact x.n _ ml
      · exact x.n s (List.mem_of_mem_take hs)
    have l1 := ascS_len (sl :: a.take j)
    have l2 := ascS_len (sl :: a.take (j + 1))
    rw [List.length_cons, List.length_take] at l1 l2
    refine or_ok (b := [y]) nm (fun s hs => by rw [List.mem_singleton.mp hs]; exact x.n y my) (by rw [List.length_singleton]; omega) ?_
    have ea : ascS (ascS (sl :: a.take j) ++ [y]) = ascS (sl :: a.take (j + 1)) := ascS_congr fun k => by
      rw [List.mem_append, ascS_mem, List.mem_singleton, List.mem_cons, List.mem_cons, List.take_succ, hy2, List.mem_append, or_assoc]
      simp
    rw [ea]
    unfold resK
    rw [if_neg (fun z => by rw [ascS_nil] at z; cases z), if_neg (by omega)]
    walk_at "dw"
    exact hnx _ _ ⟨rfl, _, rfl⟩
  · subst hρ
    subst hn'
    have e : ascS (sl :: a.take (((a.take (a.length - 1)).map D.str).length)) = a := by
      rw [List.length_map, tl]
      refine (ascS_congr fun k => ?_).trans (ascS_of x.s)
      rw [List.mem_cons]
      constructor
      · rintro (rfl | hk)
        · exact ml
        · exact List.mem_of_mem_take hk
      · intro hk
        obtain ⟨i, hi, e⟩ := List.mem_iff_getElem.mp hk
        by_cases hi2 : i = a.length - 1
        · left
          subst hi2
          rw [List.getElem?_eq_getElem hi] at hl
          cases hl
          exact e.symm
        · right
          exact List.mem_iff_getElem.mpr ⟨i, by rw [List.length_take]; omega, by rw [List.getElem_take]; exact e⟩
    rw [e]
    walk_at "dw"
    exact h
end K15
namespace K15
open PySem PySem.Spec PyProof.Rows L2 Hx Gx KX LamX DL
local macro_rules | `(tactic| walk_at "dw") => `(tactic| simp only [DL.dVar, DL.dC, DL.dOp2, DL.dUn, DL.dCB, DL.dNil, DL.dCons, DL.dStar, DL.dTup, DL.dLst, DL.dTru, DL.dTest, DL.dAnd, DL.dOr, DL.dNot, DL.dIf, DL.dAndV, DL.dOrV, DL.dNotV, DL.sNext, DL.sSeq, DL.sDrop, DL.sRet, DL.sRetN, DL.sRaise, List.zip_cons_cons, List.zip_nil_right,  DL.sIf, DL.sSet, DL.sAsg, DL.sPar, DL.sFor, DL.dCall, DL.dMake, DL.dR, DL.dSt, DL.dKw0, DL.dMet, DL.dOpN, DL.dUnN, DL.pureN, DL.pure1, DL.selN, DL.selR, DL.inX, DL.sel1, DL.selNe, DL.selLen, DL.selStr, DL.list1, DL.attD, DL.isiD, DL.isB, DL.isC, DL.D.tn, DL.kitT, DL.truD, DL.lenD, DL.absD, DL.intD, DL.strD, DL.listD, DL.tupleD, DL.allD, DL.inD, DL.ixD, DL.slD, DL.dSl, DL.dRevL, DL.atI_c0, DL.dNoPart, DL.dPart, DL.iSeq, DL.iOb, DL.walkI, DL.walkD, DL.iRg1, DL.iRg2, DL.addD, DL.subD, DL.mulD, DL.modD, DL.fdivD, DL.powD, DL.ltD, DL.leD, DL.gtD, DL.geD, DL.ordD, DL.reprD_1, DL.eqD_non, DL.eqD_bl, DL.eqD_int, DL.eqD_tup, DL.eqD_dct, DL.eqD_ss, DL.eqD_snon, DL.eqD_sbl, DL.eqD_sint, DL.eqD_stup, DL.eqD_slst, DL.eqD_sdct, DL.eqD_l0, DL.eqD_lc, DL.eqD_lnon, DL.eqD_lbl, DL.eqD_lint, DL.eqD_ltup, DL.eqD_lstr, DL.eqD_ldct, DL.neD_non, DL.neD_bl, DL.neD_int, DL.neD_tup, DL.neD_dct, DL.neD_ss, DL.neD_snon, DL.neD_sbl, DL.neD_sint, DL.neD_stup, DL.neD_slst, DL.neD_sdct, DL.neD_l0, DL.neD_lc, DL.neD_lnon, DL.neD_lbl, DL.neD_lint, DL.neD_ltup, DL.neD_lstr, DL.neD_ldct, DL.isNone, DL.isBD, DL.negD, DL.dChain, DL.inRgD, DL.gNm, DL.gTu, DL.gTuL, DL.gEnd, DL.gMore, DL.ascL, DL.sTry, DL.sTryC, DL.sApp, DL.sOwn, DL.fLst, DL.fDct, DL.fList, DL.fCat, DL.fSl, DL.dTr, DL.dTrT, DL.sFz, DL.sAug, DL.dAsk, DL.fnD, DL.startD, DL.restD, DL.inD', DL.startI, DL.sFldD, DL.putD, DL.EnD.noNx, DL.caughtR, DL.hideR, DL.hideS, DL.noOwnB, DL.Sl.isOwn, DL.Ow.toD, DL.D.flat, DL.dLc, DL.dTrue, DL.dBm, DL.splitD, DL.sortedD, DL.joinD, DL.dPop, DL.sRetP, DL.sSetP, DL.sAppP, DL.sPDF, DL.sPFD, DL.sPFF, DL.dSV, DL.kwD, DL.fillD, DL.dArg0, DL.dCm, DL.rmpD, DL.okR, DL.dDisp, DL.pairsD, DL.keyD, DL.lawEn, DL.lawRho, List.map_cons, List.map_nil, List.replicate_succ, List.replicate_zero, List.cons_append, List.nil_append, List.append_nil, List.set_cons_zero, List.set_cons_succ, List.getElem?_cons_zero, List.getElem?_cons_succ, List.length_cons, List.length_nil, List.length_append, List.take_zero, List.drop_zero, List.take_succ_cons, List.drop_succ_cons, List.lookup_cons, List.lookup_nil, List.contains_cons, List.contains_nil, List.all_cons, List.all_nil, Option.some.injEq, DL.Sl.d.injEq, DL.Sl.own.injEq, DL.D.int.injEq, DL.D.str.injEq, DL.D.bl.injEq, DL.D.lst.injEq, DL.D.tup.injEq, DL.D.ob.injEq, DL.Ow.lst.injEq, DL.Ow.dct.injEq, DL.Ow.ins.injEq, List.cons.injEq, DL.ex_cons, DL.ofS_beq, DL.ofS_inj, String.reduceBEq, String.reduceEq, exists_eq_left', exists_eq_left, exists_false, exists_eq_right, exists_eq_right', exists_and_left, exists_and_right, exists_eq', exists_eq, true_and, and_true, and_self, if_true, if_false, ite_true, ite_false, Bool.false_eq_true, Bool.true_eq_false, Bool.not_true, Bool.not_false, Bool.or_true, Bool.or_false, Bool.true_or, Bool.false_or, Bool.and_true, Bool.true_and, Bool.and_false, Bool.false_and, Bool.true_xor, Bool.false_xor, Option.map_some, Option.map_none, reduceCtorEq, not_false_eq_true, not_true_eq_false, ne_eq, implies_true, decide_true, decide_false, and_false, false_and, or_false, false_or, beq_self_eq_true, List.isEmpty_nil, List.isEmpty_cons, List.reverse_nil, List.reverse_cons, DL.D.isPy, DL.isPyL, DL.D.dep, DL.depL, DL.eqb_non_non, DL.eqb_non_bl, DL.eqb_non_int, DL.eqb_non_str, DL.eqb_non_tup, DL.eqb_non_lst, DL.eqb_non_dct, DL.eqb_bl_non, DL.eqb_bl_bl, DL.eqb_bl_int, DL.eqb_bl_str, DL.eqb_bl_tup, DL.eqb_bl_lst, DL.eqb_bl_dct, DL.eqb_int_non, DL.eqb_int_bl, DL.eqb_int_int, DL.eqb_int_str, DL.eqb_int_tup, DL.eqb_int_lst, DL.eqb_int_dct, DL.eqb_str_non, DL.eqb_str_bl, DL.eqb_str_int, DL.eqb_str_str, DL.eqb_str_tup, DL.eqb_str_lst, DL.eqb_str_dct, DL.eqb_tup_non, DL.eqb_tup_bl, DL.eqb_tup_int, DL.eqb_tup_str, DL.eqb_tup_tup, DL.eqb_tup_lst, DL.eqb_tup_dct, DL.eqb_lst_non, DL.eqb_lst_bl, DL.eqb_lst_int, DL.eqb_lst_str, DL.eqb_lst_tup, DL.eqb_lst_lst, DL.eqb_lst_dct, DL.eqb_dct_non, DL.eqb_dct_bl, DL.eqb_dct_int, DL.eqb_dct_str, DL.eqb_dct_tup, DL.eqb_dct_lst, DL.eqb_dct_dct, DL.eqbL_00, DL.eqbL_0c, DL.eqbL_c0, DL.eqbL_cc, Nat.zero_le, Nat.le_refl, Nat.max_self, Nat.max_zero, Nat.zero_max, Nat.zero_add, beq_iff_eq, decide_eq_true_eq])
local macro_rules | `(tactic| walk_at "dq") => `(tactic| simp only [DL.dVar, DL.dC, DL.dOp2, DL.dUn, DL.dCB, DL.dNil, DL.dCons, DL.dStar, DL.dTup, DL.dLst, DL.dTru, DL.dTest, DL.dAnd, DL.dOr, DL.dNot, DL.dIf, DL.dAndV, DL.dOrV, DL.dNotV, DL.sNext, DL.sDrop, DL.sRet, DL.sRetN, DL.sRaise, List.zip_cons_cons, List.zip_nil_right,  DL.sIf, DL.sSet, DL.sAsg, DL.sPar, DL.sFor, DL.dCall, DL.dMake, DL.dR, DL.dSt, DL.dKw0, DL.dMet, DL.dOpN, DL.dUnN, DL.pureN, DL.pure1, DL.selN, DL.selR, DL.inX, DL.sel1, DL.selNe, DL.selLen, DL.selStr, DL.list1, DL.attD, DL.isiD, DL.isB, DL.isC, DL.D.tn, DL.kitT, DL.truD, DL.lenD, DL.absD, DL.intD, DL.strD, DL.listD, DL.tupleD, DL.allD, DL.inD, DL.ixD, DL.slD, DL.dSl, DL.dRevL, DL.atI_c0, DL.dNoPart, DL.dPart, DL.iSeq, DL.iOb, DL.walkI, DL.walkD, DL.iRg1, DL.iRg2, DL.addD, DL.subD, DL.mulD, DL.modD, DL.fdivD, DL.powD, DL.ltD, DL.leD, DL.gtD, DL.geD, DL.ordD, DL.reprD_1, DL.eqD_non, DL.eqD_bl, DL.eqD_int, DL.eqD_tup, DL.eqD_dct, DL.eqD_ss, DL.eqD_snon, DL.eqD_sbl, DL.eqD_sint, DL.eqD_stup, DL.eqD_slst, DL.eqD_sdct, DL.eqD_l0, DL.eqD_lc, DL.eqD_lnon, DL.eqD_lbl, DL.eqD_lint, DL.eqD_ltup, DL.eqD_lstr, DL.eqD_ldct, DL.neD_non, DL.neD_bl, DL.neD_int, DL.neD_tup, DL.neD_dct, DL.neD_ss, DL.neD_snon, DL.neD_sbl, DL.neD_sint, DL.neD_stup, DL.neD_slst, DL.neD_sdct, DL.neD_l0, DL.neD_lc, DL.neD_lnon, DL.neD_lbl, DL.neD_lint, DL.neD_ltup, DL.neD_lstr, DL.neD_ldct, DL.isNone, DL.isBD, DL.negD, DL.dChain, DL.inRgD, DL.gNm, DL.gTu, DL.gTuL, DL.gEnd, DL.gMore, DL.ascL, DL.sTry, DL.sTryC, DL.sApp, DL.sOwn, DL.fLst, DL.fDct, DL.fList, DL.fCat, DL.fSl, DL.dTr, DL.dTrT, DL.sFz, DL.sAug, DL.dAsk, DL.fnD, DL.startD, DL.restD, DL.inD', DL.startI, DL.sFldD, DL.putD, DL.EnD.noNx, DL.caughtR, DL.hideR, DL.hideS, DL.noOwnB, DL.Sl.isOwn, DL.Ow.toD, DL.D.flat, DL.dLc, DL.dTrue, DL.dBm, DL.splitD, DL.sortedD, DL.joinD, DL.dPop, DL.sRetP, DL.sSetP, DL.sAppP, DL.sPDF, DL.sPFD, DL.sPFF, DL.dSV, DL.kwD, DL.fillD, DL.dArg0, DL.dCm, DL.rmpD, DL.okR, DL.dDisp, DL.pairsD, DL.keyD, DL.lawEn, DL.lawRho, List.map_cons, List.map_nil, List.replicate_succ, List.replicate_zero, List.cons_append, List.nil_append, List.append_nil, List.set_cons_zero, List.set_cons_succ, List.getElem?_cons_zero, List.getElem?_cons_succ, List.length_cons, List.length_nil, List.length_append, List.take_zero, List.drop_zero, List.take_succ_cons, List.drop_succ_cons, List.lookup_cons, List.lookup_nil, List.contains_cons, List.contains_nil, List.all_cons, List.all_nil, Option.some.injEq, DL.Sl.d.injEq, DL.Sl.own.injEq, DL.D.int.injEq, DL.D.str.injEq, DL.D.bl.injEq, DL.D.lst.injEq, DL.D.tup.injEq, DL.D.ob.injEq, DL.Ow.lst.injEq, DL.Ow.dct.injEq, DL.Ow.ins.injEq, List.cons.injEq, DL.ex_cons, DL.ofS_beq, DL.ofS_inj, String.reduceBEq, String.reduceEq, exists_eq_left', exists_eq_left, exists_false, exists_eq_right, exists_eq_right', exists_and_left, exists_and_right, exists_eq', exists_eq, true_and, and_true, and_self, if_true, if_false, ite_true, ite_false, Bool.false_eq_true, Bool.true_eq_false, Bool.not_true, Bool.not_false, Bool.or_true, Bool.or_false, Bool.true_or, Bool.false_or, Bool.and_true, Bool.true_and, Bool.and_false, Bool.false_and, Bool.true_xor, Bool.false_xor, Option.map_some, Option.map_none, reduceCtorEq, not_false_eq_true, not_true_eq_false, ne_eq, implies_true, decide_true, decide_false, and_false, false_and, or_false, false_or, beq_self_eq_true, List.isEmpty_nil, List.isEmpty_cons, List.reverse_nil, List.reverse_cons, DL.D.isPy, DL.isPyL, DL.D.dep, DL.depL, DL.eqb_non_non, DL.eqb_non_bl, DL.eqb_non_int, DL.eqb_non_str, DL.eqb_non_tup, DL.eqb_non_lst, DL.eqb_non_dct, DL.eqb_bl_non, DL.eqb_bl_bl, DL.eqb_bl_int, DL.eqb_bl_str, DL.eqb_bl_tup, DL.eqb_bl_lst, DL.eqb_bl_dct, DL.eqb_int_non, DL.eqb_int_bl, DL.eqb_int_int, DL.eqb_int_str, DL.eqb_int_tup, DL.eqb_int_lst, DL.eqb_int_dct, DL.eqb_str_non, DL.eqb_str_bl, DL.eqb_str_int, DL.eqb_str_str, DL.eqb_str_tup, DL.eqb_str_lst, DL.eqb_str_dct, DL.eqb_tup_non, DL.eqb_tup_bl, DL.eqb_tup_int, DL.eqb_tup_str, DL.eqb_tup_tup, DL.eqb_tup_lst, DL.eqb_tup_dct, DL.eqb_lst_non, DL.eqb_lst_bl, DL.eqb_lst_int, DL.eqb_lst_str, DL.eqb_lst_tup, DL.eqb_lst_lst, DL.eqb_lst_dct, DL.eqb_dct_non, DL.eqb_dct_bl, DL.eqb_dct_int, DL.eqb_dct_str, DL.eqb_dct_tup, DL.eqb_dct_lst, DL.eqb_dct_dct, DL.eqbL_00, DL.eqbL_0c, DL.eqbL_c0, DL.eqbL_cc, Nat.zero_le, Nat.le_refl, Nat.max_self, Nat.max_zero, Nat.zero_max, Nat.zero_add, beq_iff_eq, decide_eq_true_eq])
/-- a text that tells a ward -/
def goodP (ws : List Str) : Bool := decide (ws.length ≤ 7) && (ws.all nameB && decide (ws.Pairwise ltS))
theorem name_str {x : Str} (hl : x.length ≤ sizeLine) {n : Nat} {Φ : KD} {Ψ : XD} (hΦ' : Φ (.bl (nameB x)) n) : φ_is_name [.str x] n Φ Ψ := by
  unfold φ_is_name w_is_name
  walk_at "dw"
  refine ⟨hl, ?_⟩
  unfold nameB at hΦ'
  by_cases h1 : (1 : Int) ≤ x.length
  · rw [decide_eq_true h1] at hΦ'
    rw [if_pos h1]
    by_cases h2 : (x.length : Int) ≤ 8
    · rw [decide_eq_true h2] at hΦ' ⊢
      walk_at "dw"
      refine DL.comp_map (fun c => .str ⟨#[c]⟩) (fun c => .bl (decide (c ∈ AZ.cps.toList))) (fun c hc n Φ' h => ?_) ?_ ?_
      · walk_at "dw"
        exact ⟨c, rfl, h⟩
      · simpa [Str.length] using hl
      · refine ⟨x.cps.toList.map fun c => decide (c ∈ AZ.cps.toList), by simp, ?_⟩
        rw [List.all_map]
        simpa using hΦ'
    · rw [decide_eq_false h2] at hΦ' ⊢
      walk_at "dw"
      simpa using hΦ'
  · rw [decide_eq_false h1] at hΦ'
    rw [if_neg h1]
    simpa using hΦ'
theorem lname_str {x : Str} (hl : x.length ≤ sizeLine) {n : Nat} {Φ : KD} {Ψ : XD} (hΦ' : Φ (.bl (nameB x)) n) : φ__law_is_name [.str x] n Φ Ψ := by
  unfold φ__law_is_name w__law_is_name
  walk_at "dw"
  refine ⟨hl, ?_⟩
  unfold nameB at hΦ'
  by_cases h1 : (1 : Int) ≤ x.length
  · rw [decide_eq_true h1] at hΦ'
    rw [if_pos h1]
    by_cases h2 : (x.length : Int) ≤ 8
    · rw [decide_eq_true h2] at hΦ' ⊢
      walk_at "dw"
      refine DL.comp_filter (fun c => .str ⟨#[c]⟩) (fun c => !decide (c ∈ AZ.cps.toList)) (fun c => .str ⟨#[c]⟩) (fun c hc n Φ' h => ?_) (fun c hc hp n Φ' h => ?_) ?_ ?_
      · walk_at "dw"
        exact ⟨c, rfl, by simpa using h⟩
      · walk_at "dw"
        exact h
      · simpa [Str.length] using hl
      · simp only [List.nil_append]
        rw [none_left (fun c => decide (c ∈ AZ.cps.toList))]
        simpa using hΦ'
    · rw [decide_eq_false h2] at hΦ' ⊢
      walk_at "dw"
      simpa using hΦ'
  · rw [decide_eq_false h1] at hΦ'
    rw [if_neg h1]
    simpa using hΦ'
theorem big_ok {c k m : Nat} {x : Str} (h : okT c k m x) (hk : k ≤ 900) : x.length + 2 ≤ sizeLine := by
  have big : 1000 ≤ sizeLine := by decide
  have := h.l
  omega
theorem names_ok {ws : List Str} (h : ws.all nameB = true) : ∀ s ∈ ws, nameB s = true := List.all_eq_true.mp h
theorem asc_words {ws : List Str} : decide (ascS ws = ws) = decide (ws.Pairwise ltS) := by
  by_cases h : ws.Pairwise ltS
  · rw [ascS_of h]; simp [h]
  · rw [decide_eq_false h]
    refine decide_eq_false fun e => h ?_
    rw [← e]
    exact ascS_asc ws
theorem ward_text_ok {k m : Nat} {x : Str} (h : okT 44 k m x) (hk : k ≤ 900) (hm : m ≤ 62) {n : Nat} {Φ : KD} {Ψ : XD} (hΦ : Φ (.bl (goodP (Txt.split x (C1 44)))) n) : φ_is_ward_text [.str x] n Φ Ψ := by
  have big : 1000 ≤ sizeLine := by decide
  have l1 := h.split_len
  have pt := h.part
  unfold φ_is_ward_text w_is_ward_text
  walk_at "dw"
  rw [ofS_comma]
  obtain ⟨ws, ew⟩ : ∃ ws, ws = Txt.split x (C1 44) := ⟨_, rfl⟩
  rw [← ew] at hΦ l1 pt ⊢
  unfold goodP at hΦ
  refine ⟨by decide, big_ok h hk, ?_⟩
  rw [List.length_map]
  by_cases h7 : (7 : Int) < ws.length
  · rw [if_pos h7]
    rw [decide_eq_false (by omega)] at hΦ
    simpa using hΦ
  · rw [if_neg h7]
    rw [decide_eq_true (by omega)] at hΦ
    refine DL.comp_map D.str (fun s => .bl (nameB s)) (fun s hs n Φ' h => ?_) (by simp; omega) ?_
    · walk_at "dw"
      exact name_str (by have := (pt s hs).1; omega) h
    · rw [List.nil_append]
      refine ⟨ws.map nameB, by rw [bls_map], ?_⟩
      rw [List.all_map]
      have e : (ws.all (id ∘ nameB)) = ws.all nameB := rfl
      rw [e]
      cases ha : ws.all nameB with
      | false =>
        rw [ha] at hΦ
        walk_at "dw"
        simpa using hΦ
      | true =>
        rw [ha] at hΦ
        walk_at "dw"
        have nm := names_ok ha
        have ok : ∀ s ∈ ws, okS s := fun s hs => (nameB_ok (nm s hs)).1
        have oka : ∀ s ∈ ascS ws, okS s := fun s hs => ok s ((ascS_mem s ws).mp hs)
        unfold φ_ascending w_ascending
        walk_at "dw"
        refine ⟨ws, rfl, by omega, ?_⟩
        rw [dep_strs, dep_strs]
        refine ⟨py_strs oka, py_strs ok, by omega, by omega, ?_⟩
        rw [eqbL_strs, asc_words]
        simpa using hΦ
theorem ward_text_odd {d : D} (hp : pl d = true) (h0 : ∀ x, d ≠ .str x) {n : Nat} {Φ : KD} {Ψ : XD} (hΦ : Φ (.bl false) n) : φ_is_ward_text [d] n Φ Ψ := by
  unfold φ_is_ward_text w_is_ward_text
  cases d <;> first | (cases hp; done) | exact absurd rfl (h0 _) | skip
  case ob c fs =>
    have : c = "Ward" := by simpa [pl] using hp
    subst this
    walk_at "dw"
    exact hΦ
  all_goals (walk_at "dw"; exact hΦ)
theorem read_ok {k m : Nat} {x : Str} (h : okT 44 k m x) (hk : k ≤ 900) (hm : m ≤ 62) {n : Nat} {Φ : KD} {Ψ : XD} (h1 : goodP (Txt.split x (C1 44)) = true → Φ (wardO (Txt.split x (C1 44))) n)
    (h2 : goodP (Txt.split x (C1 44)) = false → Ψ ⟨"BadText", [("word", .int 0), ("line", .int 0)]⟩ n) : φ_Ward_read [.cl "Ward", .str x] n Φ Ψ := by
  unfold φ_Ward_read w_Ward_read
  walk_at "dw"
  refine ward_text_ok h hk hm ?_
  cases q : goodP (Txt.split x (C1 44)) with
  | false =>
    walk_at "dw"
    exact h2 q
  | true =>
    walk_at "dw"
    rw [ofS_comma]
    have q' := q
    unfold goodP at q'
    rw [Bool.and_eq_true, Bool.and_eq_true, decide_eq_true_eq, decide_eq_true_eq] at q'
    obtain ⟨q1, q2, q3⟩ := q'
    have nm := names_ok q2
    refine ⟨by decide, big_ok h hk, ?_⟩
    refine init_names nm (by omega) ?_
    rw [ascS_of q3]
    unfold resK
    rw [if_neg (split_ne _ _), if_neg (by omega)]
    exact h1 q
theorem read_odd {d : D} (hp : pl d = true) (h0 : ∀ x, d ≠ .str x) {n : Nat} {Φ : KD} {Ψ : XD} (h : Ψ ⟨"BadText", [("word", .int 0), ("line", .int 0)]⟩ n) : φ_Ward_read [.cl "Ward", d] n Φ Ψ := by
  unfold φ_Ward_read w_Ward_read
  walk_at "dw"
  refine ward_text_odd hp h0 ?_
  walk_at "dw"
  exact h
def riseB (ws : List Str) (i : Nat) : Bool := match ws[i]?, ws[i + 1]? with
  | some a, some b => decide (ltS a b)
  | _, _ => true
theorem rise_all (ws : List Str) : (List.range (ws.length - 1)).all (riseB ws) = decide (ws.Pairwise ltS) := by
  have e : ∀ i, (h : i + 1 < ws.length) → riseB ws i = decide (ltS ws[i] ws[i + 1]) := fun i h => by
    unfold riseB
    rw [List.getElem?_eq_getElem h, List.getElem?_eq_getElem (by omega : i < ws.length)]
  by_cases h : ws.Pairwise ltS
  · rw [decide_eq_true h, List.all_eq_true]
    intro i hi
    have hi' := List.mem_range.mp hi
    rw [e i (by omega)]
    exact decide_eq_true (rising.mp h i (by omega))
  · rw [decide_eq_false h]
    refine Bool.eq_false_iff.mpr fun a => h (rising.mpr fun i hi => ?_)
    have := List.all_eq_true.mp a i (List.mem_range.mpr (by omega))
    rw [e i hi] at this
    exact of_decide_eq_true this
/-- what is due -/
def dueD (ws : List Str) : D := if goodP ws = true then .lst (ws.map D.str) else .non
theorem due_ok {k m : Nat} {x : Str} (h : okT 44 k m x) (hk : k ≤ 900) (hm : m ≤ 62) {n : Nat} {Φ : KD} {Ψ : XD} (hΦ : Φ (dueD (Txt.split x (C1 44))) n) : φ__law_due [.str x] n Φ Ψ := by
  have big : 1000 ≤ sizeLine := by decide
  have l1 := h.split_len
  have pt := h.part
  have l0 := List.length_pos_iff.mpr (split_ne x 44)
  unfold φ__law_due w__law_due
  walk_at "dw"
  rw [ofS_comma]
  obtain ⟨ws, ew⟩ : ∃ ws, ws = Txt.split x (C1 44) := ⟨_, rfl⟩
  rw [← ew] at hΦ l1 pt l0 ⊢
  unfold dueD goodP at hΦ
  refine ⟨by decide, big_ok h hk, ?_⟩
  rw [List.length_map]
  by_cases h7 : (7 : Int) < ws.length
  · rw [if_pos h7]
    rw [decide_eq_false (by omega)] at hΦ
    simpa using hΦ
  · rw [if_neg h7]
    rw [decide_eq_true (by omega)] at hΦ
    refine DL.comp_filter D.str (fun s => !nameB s) D.str (fun s hs n Φ' h => ?_) (fun s hs _ n Φ' h => ?_) (by simp; omega) ?_
    · walk_at "dw"
      exact lname_str (by have := (pt s hs).1; omega) (by walk_at "dw"; exact h)
    · walk_at "dw"
      exact h
    · rw [List.nil_append, none_left nameB]
      cases ha : ws.all nameB with
      | false =>
        rw [ha] at hΦ
        walk_at "dw"
        simpa using hΦ
      | true =>
        rw [ha] at hΦ
        walk_at "dw"
        have e0 : rngD 1 (ws.length - 1) = (List.range (ws.length - 1)).map fun (i : Nat) => D.int (1 + (i : Int)) := rfl
        have t1 : ((ws.length : Int) - 1).toNat = ws.length - 1 := by omega
        rw [t1]
        refine ⟨⟨by omega, by omega, by omega, by omega⟩, ?_⟩
        rw [e0]
        refine DL.comp_filter (fun (i : Nat) => D.int (1 + (i : Int))) (fun i => !riseB ws i) (fun (i : Nat) => D.int (1 + (i : Int))) (fun i hi n Φ' h => ?_) (fun s hs _ n Φ' h => ?_) (by simp; omega) ?_
        · have hi' := List.mem_range.mp hi
          walk_at "dw"
          have g1 : ws[i]? = some ws[i] := List.getElem?_eq_getElem (by omega)
          have g2 : ws[i + 1]? = some ws[i + 1] := List.getElem?_eq_getElem (by omega)
          have a1 : atI (ws.map D.str) (1 + (i : Int) - 1) = some (.str ws[i]) := by
            rw [show (1 + (i : Int) - 1) = ((i : Nat) : Int) by omega]
            exact atI_nat (by rw [List.getElem?_map, g1]; rfl)
          have a2 : atI (ws.map D.str) (1 + (i : Int)) = some (.str ws[i + 1]) := by
            rw [show (1 + (i : Int)) = ((i + 1 : Nat) : Int) by omega]
            exact atI_nat (by rw [List.getElem?_map, g2]; rfl)
          refine ⟨_, a1, _, a2, ?_⟩
          unfold riseB at h
          rw [g1, g2] at h
          walk_at "dw"
          exact h
        · walk_at "dw"
          exact h
        · rw [List.nil_append]
          rw [none_left (riseB ws), rise_all]
          cases hp : decide (ws.Pairwise ltS) with
          | false =>
            rw [hp] at hΦ
            walk_at "dw"
            simpa using hΦ
          | true =>
            rw [hp] at hΦ
            walk_at "dw"
            simpa using hΦ
end K15
namespace K15
open PySem PySem.Spec PyProof.Rows L2 Hx Gx KX LamX DL
local macro_rules | `(tactic| walk_at "dw") => `(tactic| simp only [DL.dVar, DL.dC, DL.dOp2, DL.dUn, DL.dCB, DL.dNil, DL.dCons, DL.dStar, DL.dTup, DL.dLst, DL.dTru, DL.dTest, DL.dAnd, DL.dOr, DL.dNot, DL.dIf, DL.dAndV, DL.dOrV, DL.dNotV, DL.sNext, DL.sSeq, DL.sDrop, DL.sRet, DL.sRetN, DL.sRaise, List.zip_cons_cons, List.zip_nil_right,  DL.sIf, DL.sSet, DL.sAsg, DL.sPar, DL.sFor, DL.dCall, DL.dMake, DL.dR, DL.dSt, DL.dKw0, DL.dMet, DL.dOpN, DL.dUnN, DL.pureN, DL.pure1, DL.selN, DL.selR, DL.inX, DL.sel1, DL.selNe, DL.selLen, DL.selStr, DL.list1, DL.attD, DL.isiD, DL.isB, DL.isC, DL.D.tn, DL.kitT, DL.truD, DL.lenD, DL.absD, DL.intD, DL.strD, DL.listD, DL.tupleD, DL.allD, DL.inD, DL.ixD, DL.slD, DL.dSl, DL.dRevL, DL.atI_c0, DL.dNoPart, DL.dPart, DL.iSeq, DL.iOb, DL.walkI, DL.walkD, DL.iRg1, DL.iRg2, DL.addD, DL.subD, DL.mulD, DL.modD, DL.fdivD, DL.powD, DL.ltD, DL.leD, DL.gtD, DL.geD, DL.ordD, DL.reprD_1, DL.eqD_non, DL.eqD_bl, DL.eqD_int, DL.eqD_tup, DL.eqD_dct, DL.eqD_ss, DL.eqD_snon, DL.eqD_sbl, DL.eqD_sint, DL.eqD_stup, DL.eqD_slst, DL.eqD_sdct, DL.eqD_l0, DL.eqD_lc, DL.eqD_lnon, DL.eqD_lbl, DL.eqD_lint, DL.eqD_ltup, DL.eqD_lstr, DL.eqD_ldct, DL.neD_non, DL.neD_bl, DL.neD_int, DL.neD_tup, DL.neD_dct, DL.neD_ss, DL.neD_snon, DL.neD_sbl, DL.neD_sint, DL.neD_stup, DL.neD_slst, DL.neD_sdct, DL.neD_l0, DL.neD_lc, DL.neD_lnon, DL.neD_lbl, DL.neD_lint, DL.neD_ltup, DL.neD_lstr, DL.neD_ldct, DL.isNone, DL.isBD, DL.negD, DL.dChain, DL.inRgD, DL.gNm, DL.gTu, DL.gTuL, DL.gEnd, DL.gMore, DL.ascL, DL.sTry, DL.sTryC, DL.sApp, DL.sOwn, DL.fLst, DL.fDct, DL.fList, DL.fCat, DL.fSl, DL.dTr, DL.dTrT, DL.sFz, DL.sAug, DL.dAsk, DL.fnD, DL.startD, DL.restD, DL.inD', DL.startI, DL.sFldD, DL.putD, DL.EnD.noNx, DL.caughtR, DL.hideR, DL.hideS, DL.noOwnB, DL.Sl.isOwn, DL.Ow.toD, DL.D.flat, DL.dLc, DL.dTrue, DL.dBm, DL.splitD, DL.sortedD, DL.joinD, DL.dPop, DL.sRetP, DL.sSetP, DL.sAppP, DL.sPDF, DL.sPFD, DL.sPFF, DL.dSV, DL.kwD, DL.fillD, DL.dArg0, DL.dCm, DL.rmpD, DL.okR, DL.dDisp, DL.pairsD, DL.keyD, DL.lawEn, DL.lawRho, List.map_cons, List.map_nil, List.replicate_succ, List.replicate_zero, List.cons_append, List.nil_append, List.append_nil, List.set_cons_zero, List.set_cons_succ, List.getElem?_cons_zero, List.getElem?_cons_succ, List.length_cons, List.length_nil, List.length_append, List.take_zero, List.drop_zero, List.take_succ_cons, List.drop_succ_cons, List.lookup_cons, List.lookup_nil, List.contains_cons, List.contains_nil, List.all_cons, List.all_nil, Option.some.injEq, DL.Sl.d.injEq, DL.Sl.own.injEq, DL.D.int.injEq, DL.D.str.injEq, DL.D.bl.injEq, DL.D.lst.injEq, DL.D.tup.injEq, DL.D.ob.injEq, DL.Ow.lst.injEq, DL.Ow.dct.injEq, DL.Ow.ins.injEq, List.cons.injEq, DL.ex_cons, DL.ofS_beq, DL.ofS_inj, String.reduceBEq, String.reduceEq, exists_eq_left', exists_eq_left, exists_false, exists_eq_right, exists_eq_right', exists_and_left, exists_and_right, exists_eq', exists_eq, true_and, and_true, and_self, if_true, if_false, ite_true, ite_false, Bool.false_eq_true, Bool.true_eq_false, Bool.not_true, Bool.not_false, Bool.or_true, Bool.or_false, Bool.true_or, Bool.false_or, Bool.and_true, Bool.true_and, Bool.and_false, Bool.false_and, Bool.true_xor, Bool.false_xor, Option.map_some, Option.map_none, reduceCtorEq, not_false_eq_true, not_true_eq_false, ne_eq, implies_true, decide_true, decide_false, and_false, false_and, or_false, false_or, beq_self_eq_true, List.isEmpty_nil, List.isEmpty_cons, List.reverse_nil, List.reverse_cons, DL.D.isPy, DL.isPyL, DL.D.dep, DL.depL, DL.eqb_non_non, DL.eqb_non_bl, DL.eqb_non_int, DL.eqb_non_str, DL.eqb_non_tup, DL.eqb_non_lst, DL.eqb_non_dct, DL.eqb_bl_non, DL.eqb_bl_bl, DL.eqb_bl_int, DL.eqb_bl_str, DL.eqb_bl_tup, DL.eqb_bl_lst, DL.eqb_bl_dct, DL.eqb_int_non, DL.eqb_int_bl, DL.eqb_int_int, DL.eqb_int_str, DL.eqb_int_tup, DL.eqb_int_lst, DL.eqb_int_dct, DL.eqb_str_non, DL.eqb_str_bl, DL.eqb_str_int, DL.eqb_str_str, DL.eqb_str_tup, DL.eqb_str_lst, DL.eqb_str_dct, DL.eqb_tup_non, DL.eqb_tup_bl, DL.eqb_tup_int, DL.eqb_tup_str, DL.eqb_tup_tup, DL.eqb_tup_lst, DL.eqb_tup_dct, DL.eqb_lst_non, DL.eqb_lst_bl, DL.eqb_lst_int, DL.eqb_lst_str, DL.eqb_lst_tup, DL.eqb_lst_lst, DL.eqb_lst_dct, DL.eqb_dct_non, DL.eqb_dct_bl, DL.eqb_dct_int, DL.eqb_dct_str, DL.eqb_dct_tup, DL.eqb_dct_lst, DL.eqb_dct_dct, DL.eqbL_00, DL.eqbL_0c, DL.eqbL_c0, DL.eqbL_cc, Nat.zero_le, Nat.le_refl, Nat.max_self, Nat.max_zero, Nat.zero_max, Nat.zero_add, beq_iff_eq, decide_eq_true_eq])
local macro_rules | `(tactic| walk_at "dq") => `(tactic| simp only [DL.dVar, DL.dC, DL.dOp2, DL.dUn, DL.dCB, DL.dNil, DL.dCons, DL.dStar, DL.dTup, DL.dLst, DL.dTru, DL.dTest, DL.dAnd, DL.dOr, DL.dNot, DL.dIf, DL.dAndV, DL.dOrV, DL.dNotV, DL.sNext, DL.sDrop, DL.sRet, DL.sRetN, DL.sRaise, List.zip_cons_cons, List.zip_nil_right,  DL.sIf, DL.sSet, DL.sAsg, DL.sPar, DL.sFor, DL.dCall, DL.dMake, DL.dR, DL.dSt, DL.dKw0, DL.dMet, DL.dOpN, DL.dUnN, DL.pureN, DL.pure1, DL.selN, DL.selR, DL.inX, DL.sel1, DL.selNe, DL.selLen, DL.selStr, DL.list1, DL.attD, DL.isiD, DL.isB, DL.isC, DL.D.tn, DL.kitT, DL.truD, DL.lenD, DL.absD, DL.intD, DL.strD, DL.listD, DL.tupleD, DL.allD, DL.inD, DL.ixD, DL.slD, DL.dSl, DL.dRevL, DL.atI_c0, DL.dNoPart, DL.dPart, DL.iSeq, DL.iOb, DL.walkI, DL.walkD, DL.iRg1, DL.iRg2, DL.addD, DL.subD, DL.mulD, DL.modD, DL.fdivD, DL.powD, DL.ltD, DL.leD, DL.gtD, DL.geD, DL.ordD, DL.reprD_1, DL.eqD_non, DL.eqD_bl, DL.eqD_int, DL.eqD_tup, DL.eqD_dct, DL.eqD_ss, DL.eqD_snon, DL.eqD_sbl, DL.eqD_sint, DL.eqD_stup, DL.eqD_slst, DL.eqD_sdct, DL.eqD_l0, DL.eqD_lc, DL.eqD_lnon, DL.eqD_lbl, DL.eqD_lint, DL.eqD_ltup, DL.eqD_lstr, DL.eqD_ldct, DL.neD_non, DL.neD_bl, DL.neD_int, DL.neD_tup, DL.neD_dct, DL.neD_ss, DL.neD_snon, DL.neD_sbl, DL.neD_sint, DL.neD_stup, DL.neD_slst, DL.neD_sdct, DL.neD_l0, DL.neD_lc, DL.neD_lnon, DL.neD_lbl, DL.neD_lint, DL.neD_ltup, DL.neD_lstr, DL.neD_ldct, DL.isNone, DL.isBD, DL.negD, DL.dChain, DL.inRgD, DL.gNm, DL.gTu, DL.gTuL, DL.gEnd, DL.gMore, DL.ascL, DL.sTry, DL.sTryC, DL.sApp, DL.sOwn, DL.fLst, DL.fDct, DL.fList, DL.fCat, DL.fSl, DL.dTr, DL.dTrT, DL.sFz, DL.sAug, DL.dAsk, DL.fnD, DL.startD, DL.restD, DL.inD', DL.startI, DL.sFldD, DL.putD, DL.EnD.noNx, DL.caughtR, DL.hideR, DL.hideS, DL.noOwnB, DL.Sl.isOwn, DL.Ow.toD, DL.D.flat, DL.dLc, DL.dTrue, DL.dBm, DL.splitD, DL.sortedD, DL.joinD, DL.dPop, DL.sRetP, DL.sSetP, DL.sAppP, DL.sPDF, DL.sPFD, DL.sPFF, DL.dSV, DL.kwD, DL.fillD, DL.dArg0, DL.dCm, DL.rmpD, DL.okR, DL.dDisp, DL.pairsD, DL.keyD, DL.lawEn, DL.lawRho, List.map_cons, List.map_nil, List.replicate_succ, List.replicate_zero, List.cons_append, List.nil_append, List.append_nil, List.set_cons_zero, List.set_cons_succ, List.getElem?_cons_zero, List.getElem?_cons_succ, List.length_cons, List.length_nil, List.length_append, List.take_zero, List.drop_zero, List.take_succ_cons, List.drop_succ_cons, List.lookup_cons, List.lookup_nil, List.contains_cons, List.contains_nil, List.all_cons, List.all_nil, Option.some.injEq, DL.Sl.d.injEq, DL.Sl.own.injEq, DL.D.int.injEq, DL.D.str.injEq, DL.D.bl.injEq, DL.D.lst.injEq, DL.D.tup.injEq, DL.D.ob.injEq, DL.Ow.lst.injEq, DL.Ow.dct.injEq, DL.Ow.ins.injEq, List.cons.injEq, DL.ex_cons, DL.ofS_beq, DL.ofS_inj, String.reduceBEq, String.reduceEq, exists_eq_left', exists_eq_left, exists_false, exists_eq_right, exists_eq_right', exists_and_left, exists_and_right, exists_eq', exists_eq, true_and, and_true, and_self, if_true, if_false, ite_true, ite_false, Bool.false_eq_true, Bool.true_eq_false, Bool.not_true, Bool.not_false, Bool.or_true, Bool.or_false, Bool.true_or, Bool.false_or, Bool.and_true, Bool.true_and, Bool.and_false, Bool.false_and, Bool.true_xor, Bool.false_xor, Option.map_some, Option.map_none, reduceCtorEq, not_false_eq_true, not_true_eq_false, ne_eq, implies_true, decide_true, decide_false, and_false, false_and, or_false, false_or, beq_self_eq_true, List.isEmpty_nil, List.isEmpty_cons, List.reverse_nil, List.reverse_cons, DL.D.isPy, DL.isPyL, DL.D.dep, DL.depL, DL.eqb_non_non, DL.eqb_non_bl, DL.eqb_non_int, DL.eqb_non_str, DL.eqb_non_tup, DL.eqb_non_lst, DL.eqb_non_dct, DL.eqb_bl_non, DL.eqb_bl_bl, DL.eqb_bl_int, DL.eqb_bl_str, DL.eqb_bl_tup, DL.eqb_bl_lst, DL.eqb_bl_dct, DL.eqb_int_non, DL.eqb_int_bl, DL.eqb_int_int, DL.eqb_int_str, DL.eqb_int_tup, DL.eqb_int_lst, DL.eqb_int_dct, DL.eqb_str_non, DL.eqb_str_bl, DL.eqb_str_int, DL.eqb_str_str, DL.eqb_str_tup, DL.eqb_str_lst, DL.eqb_str_dct, DL.eqb_tup_non, DL.eqb_tup_bl, DL.eqb_tup_int, DL.eqb_tup_str, DL.eqb_tup_tup, DL.eqb_tup_lst, DL.eqb_tup_dct, DL.eqb_lst_non, DL.eqb_lst_bl, DL.eqb_lst_int, DL.eqb_lst_str, DL.eqb_lst_tup, DL.eqb_lst_lst, DL.eqb_lst_dct, DL.eqb_dct_non, DL.eqb_dct_bl, DL.eqb_dct_int, DL.eqb_dct_str, DL.eqb_dct_tup, DL.eqb_dct_lst, DL.eqb_dct_dct, DL.eqbL_00, DL.eqbL_0c, DL.eqbL_c0, DL.eqbL_cc, Nat.zero_le, Nat.le_refl, Nat.max_self, Nat.max_zero, Nat.zero_max, Nat.zero_add, beq_iff_eq, decide_eq_true_eq])
def nine : List Str := ["a", "b", "c", "d", "e", "ab", "ba", "zzzzzzzz", "m"]
theorem nine_nm : ∀ s ∈ nine, nameB s = true ∧ (44 : Nat) ∉ s.cps.toList := by decide +kernel
theorem nine_nd : nine.Nodup := by decide +kernel
theorem er_perm {α : Type} : ∀ {l : List α} {k : Nat} {y : α}, l[k]? = some y → (y :: l.eraseIdx k).Perm l
  | [], _, _, h => by simp at h
  | a :: l, 0, y, h => by
    simp only [List.getElem?_cons_zero, Option.some.injEq] at h
    subst h
    exact .refl _
  | a :: l, k + 1, y, h => by
    rw [List.getElem?_cons_succ] at h
    rw [List.eraseIdx_cons_succ]
    exact (List.Perm.swap a y _).trans (.cons a (er_perm h))
theorem map_er {α β : Type} (f : α → β) : ∀ (l : List α) (k : Nat), (l.map f).eraseIdx k = (l.eraseIdx k).map f
  | [], _ => rfl
  | _ :: _, 0 => rfl
  | a :: l, k + 1 => by
    rw [List.map_cons, List.eraseIdx_cons_succ, List.eraseIdx_cons_succ, List.map_cons, map_er f l k]
theorem six_nat {j : Int} {l : Nat} (h0 : 0 ≤ j) (h1 : j < l) : seqIndex? j l = some j.toNat := by
  unfold seqIndex?
  have : ¬ j < 0 := by omega
  simp [this, h0, h1]
/-- a name drawn one by one -/
theorem corners_ok {n : Nat} {Φ : KD} {Ψ : XD} (hn : n ≤ 90000) (h : ∀ a n', Nm a → (∀ s ∈ a, s ∈ nine) → n' ≤ n + 8 → Φ (.lst (a.map D.str)) n') : φ__law_corners [.pen] n Φ Ψ := by
  have big : 1000 ≤ sizeLine := by decide
  unfold φ__law_corners w__law_corners
  walk_at "dw"
  refine ⟨by decide, draw_ok (by omega) (by decide) (by decide) fun j j0 j1 => ?_⟩
  refine ⟨1 + j, rfl, by omega, by omega, ?_⟩
  have lr : (rngD 0 (1 + j).toNat).length = (1 + j).toNat := by simp [rngD]
  refine for_ok (fun i ρ n' => ∃ (L F : List Str) (s : Sl), ρ = [.d .pen, .own (.lst (L.map D.str)), .own (.lst (F.map D.str)), s, .un] ∧ (F ++ L).Perm nine ∧ F.length = i ∧ n' ≤ n + 1 + i) ⟨nine, [], .un, rfl, .refl _, rfl, by omega⟩ (fun i d ρ n' nx hd ⟨L, F, s, hρ, hp, hi, hn'⟩ hnx => ?_) fun ρ n' ⟨L, F, s, hρ, hp, hi, hn'⟩ => ?_
  · subst hρ
    have hi7 : i < 7 := by
      have := (List.getElem?_eq_some_iff.mp hd).1
      omega
    have hl := hp.length_eq
    rw [List.length_append] at hl
    have l9 : nine.length = 9 := rfl
    have hL : L.length = 9 - i := by omega
    walk_at "dw"
    rw [List.length_map]
    refine draw_ok (by omega) (by omega) (by rw [pow60]; omega) fun q q0 q1 => ?_
    have hq : q.toNat < L.length := by omega
    have gq : L[q.toNat]? = some L[q.toNat] := List.getElem?_eq_getElem hq
    refine ⟨rfl, q, rfl, by omega, by omega, q.toNat, six_nat q0 q1, .str L[q.toNat], by rw [List.getElem?_map, gq]; rfl, by rw [List.length_map]; omega, ?_⟩
    refine hnx _ _ ⟨L.eraseIdx q.toNat, F ++ [L[q.toNat]], _, by rw [map_er, List.map_append]; rfl, ?_, by rw [List.length_append, hi]; rfl, by omega⟩
    rw [List.append_assoc]
    exact (List.Perm.append_left F (er_perm gq)).trans hp
  · subst hρ
    have sub : ∀ s ∈ F, s ∈ nine := fun s hs => hp.subset (List.mem_append_left _ hs)
    have nd : F.Nodup := by
      have := (hp.nodup_iff).mpr nine_nd
      exact (List.nodup_append.mp this).1
    rw [lr] at hi hn'
    walk_at "dw"
    refine DL.comp_map D.str D.str (fun s hs n Φ' h => ?_) (by simp; omega) ?_
    · walk_at "dw"
      exact h
    · rw [List.nil_append]
      refine ⟨F, rfl, by omega, fun ys py so => ?_⟩
      refine h ys n' ⟨fun s hs => (nine_nm s (sub s (py.subset hs))).1, asc_of_sorted so ((py.nodup_iff).mpr nd), fun z => ?_, by rw [py.length_eq]; omega⟩ (fun s hs => sub s (py.subset hs)) (by omega)
      have := py.length_eq
      rw [z, List.length_nil] at this
      omega
end K15
namespace K15
open PySem PySem.Spec PyProof.Rows L2 Hx Gx KX LamX DL
local macro_rules | `(tactic| walk_at "dw") => `(tactic| simp only [DL.dVar, DL.dC, DL.dOp2, DL.dUn, DL.dCB, DL.dNil, DL.dCons, DL.dStar, DL.dTup, DL.dLst, DL.dTru, DL.dTest, DL.dAnd, DL.dOr, DL.dNot, DL.dIf, DL.dAndV, DL.dOrV, DL.dNotV, DL.sNext, DL.sSeq, DL.sDrop, DL.sRet, DL.sRetN, DL.sRaise, List.zip_cons_cons, List.zip_nil_right,  DL.sIf, DL.sSet, DL.sAsg, DL.sPar, DL.sFor, DL.dCall, DL.dMake, DL.dR, DL.dSt, DL.dKw0, DL.dMet, DL.dOpN, DL.dUnN, DL.pureN, DL.pure1, DL.selN, DL.selR, DL.inX, DL.sel1, DL.selNe, DL.selLen, DL.selStr, DL.list1, DL.attD, DL.isiD, DL.isB, DL.isC, DL.D.tn, DL.kitT, DL.truD, DL.lenD, DL.absD, DL.intD, DL.strD, DL.listD, DL.tupleD, DL.allD, DL.inD, DL.ixD, DL.slD, DL.dSl, DL.dRevL, DL.atI_c0, DL.dNoPart, DL.dPart, DL.iSeq, DL.iOb, DL.walkI, DL.walkD, DL.iRg1, DL.iRg2, DL.addD, DL.subD, DL.mulD, DL.modD, DL.fdivD, DL.powD, DL.ltD, DL.leD, DL.gtD, DL.geD, DL.ordD, DL.reprD_1, DL.eqD_non, DL.eqD_bl, DL.eqD_int, DL.eqD_tup, DL.eqD_dct, DL.eqD_ss, DL.eqD_snon, DL.eqD_sbl, DL.eqD_sint, DL.eqD_stup, DL.eqD_slst, DL.eqD_sdct, DL.eqD_l0, DL.eqD_lc, DL.eqD_lnon, DL.eqD_lbl, DL.eqD_lint, DL.eqD_ltup, DL.eqD_lstr, DL.eqD_ldct, DL.neD_non, DL.neD_bl, DL.neD_int, DL.neD_tup, DL.neD_dct, DL.neD_ss, DL.neD_snon, DL.neD_sbl, DL.neD_sint, DL.neD_stup, DL.neD_slst, DL.neD_sdct, DL.neD_l0, DL.neD_lc, DL.neD_lnon, DL.neD_lbl, DL.neD_lint, DL.neD_ltup, DL.neD_lstr, DL.neD_ldct, DL.isNone, DL.isBD, DL.negD, DL.dChain, DL.inRgD, DL.gNm, DL.gTu, DL.gTuL, DL.gEnd, DL.gMore, DL.ascL, DL.sTry, DL.sTryC, DL.sApp, DL.sOwn, DL.fLst, DL.fDct, DL.fList, DL.fCat, DL.fSl, DL.dTr, DL.dTrT, DL.sFz, DL.sAug, DL.dAsk, DL.fnD, DL.startD, DL.restD, DL.inD', DL.startI, DL.sFldD, DL.putD, DL.EnD.noNx, DL.caughtR, DL.hideR, DL.hideS, DL.noOwnB, DL.Sl.isOwn, DL.Ow.toD, DL.D.flat, DL.dLc, DL.dTrue, DL.dBm, DL.splitD, DL.sortedD, DL.joinD, DL.dPop, DL.sRetP, DL.sSetP, DL.sAppP, DL.sPDF, DL.sPFD, DL.sPFF, DL.dSV, DL.kwD, DL.fillD, DL.dArg0, DL.dCm, DL.rmpD, DL.okR, DL.dDisp, DL.pairsD, DL.keyD, DL.lawEn, DL.lawRho, List.map_cons, List.map_nil, List.replicate_succ, List.replicate_zero, List.cons_append, List.nil_append, List.append_nil, List.set_cons_zero, List.set_cons_succ, List.getElem?_cons_zero, List.getElem?_cons_succ, List.length_cons, List.length_nil, List.length_append, List.take_zero, List.drop_zero, List.take_succ_cons, List.drop_succ_cons, List.lookup_cons, List.lookup_nil, List.contains_cons, List.contains_nil, List.all_cons, List.all_nil, Option.some.injEq, DL.Sl.d.injEq, DL.Sl.own.injEq, DL.D.int.injEq, DL.D.str.injEq, DL.D.bl.injEq, DL.D.lst.injEq, DL.D.tup.injEq, DL.D.ob.injEq, DL.Ow.lst.injEq, DL.Ow.dct.injEq, DL.Ow.ins.injEq, List.cons.injEq, DL.ex_cons, DL.ofS_beq, DL.ofS_inj, String.reduceBEq, String.reduceEq, exists_eq_left', exists_eq_left, exists_false, exists_eq_right, exists_eq_right', exists_and_left, exists_and_right, exists_eq', exists_eq, true_and, and_true, and_self, if_true, if_false, ite_true, ite_false, Bool.false_eq_true, Bool.true_eq_false, Bool.not_true, Bool.not_false, Bool.or_true, Bool.or_false, Bool.true_or, Bool.false_or, Bool.and_true, Bool.true_and, Bool.and_false, Bool.false_and, Bool.true_xor, Bool.false_xor, Option.map_some, Option.map_none, reduceCtorEq, not_false_eq_true, not_true_eq_false, ne_eq, implies_true, decide_true, decide_false, and_false, false_and, or_false, false_or, beq_self_eq_true, List.isEmpty_nil, List.isEmpty_cons, List.reverse_nil, List.reverse_cons, DL.D.isPy, DL.isPyL, DL.D.dep, DL.depL, DL.eqb_non_non, DL.eqb_non_bl, DL.eqb_non_int, DL.eqb_non_str, DL.eqb_non_tup, DL.eqb_non_lst, DL.eqb_non_dct, DL.eqb_bl_non, DL.eqb_bl_bl, DL.eqb_bl_int, DL.eqb_bl_str, DL.eqb_bl_tup, DL.eqb_bl_lst, DL.eqb_bl_dct, DL.eqb_int_non, DL.eqb_int_bl, DL.eqb_int_int, DL.eqb_int_str, DL.eqb_int_tup, DL.eqb_int_lst, DL.eqb_int_dct, DL.eqb_str_non, DL.eqb_str_bl, DL.eqb_str_int, DL.eqb_str_str, DL.eqb_str_tup, DL.eqb_str_lst, DL.eqb_str_dct, DL.eqb_tup_non, DL.eqb_tup_bl, DL.eqb_tup_int, DL.eqb_tup_str, DL.eqb_tup_tup, DL.eqb_tup_lst, DL.eqb_tup_dct, DL.eqb_lst_non, DL.eqb_lst_bl, DL.eqb_lst_int, DL.eqb_lst_str, DL.eqb_lst_tup, DL.eqb_lst_lst, DL.eqb_lst_dct, DL.eqb_dct_non, DL.eqb_dct_bl, DL.eqb_dct_int, DL.eqb_dct_str, DL.eqb_dct_tup, DL.eqb_dct_lst, DL.eqb_dct_dct, DL.eqbL_00, DL.eqbL_0c, DL.eqbL_c0, DL.eqbL_cc, Nat.zero_le, Nat.le_refl, Nat.max_self, Nat.max_zero, Nat.zero_max, Nat.zero_add, beq_iff_eq, decide_eq_true_eq])
local macro_rules | `(tactic| walk_at "dq") => `(tactic| simp only [DL.dVar, DL.dC, DL.dOp2, DL.dUn, DL.dCB, DL.dNil, DL.dCons, DL.dStar, DL.dTup, DL.dLst, DL.dTru, DL.dTest, DL.dAnd, DL.dOr, DL.dNot, DL.dIf, DL.dAndV, DL.dOrV, DL.dNotV, DL.sNext, DL.sDrop, DL.sRet, DL.sRetN, DL.sRaise, List.zip_cons_cons, List.zip_nil_right,  DL.sIf, DL.sSet, DL.sAsg, DL.sPar, DL.sFor, DL.dCall, DL.dMake, DL.dR, DL.dSt, DL.dKw0, DL.dMet, DL.dOpN, DL.dUnN, DL.pureN, DL.pure1, DL.selN, DL.selR, DL.inX, DL.sel1, DL.selNe, DL.selLen, DL.selStr, DL.list1, DL.attD, DL.isiD, DL.isB, DL.isC, DL.D.tn, DL.kitT, DL.truD, DL.lenD, DL.absD, DL.intD, DL.strD, DL.listD, DL.tupleD, DL.allD, DL.inD, DL.ixD, DL.slD, DL.dSl, DL.dRevL, DL.atI_c0, DL.dNoPart, DL.dPart, DL.iSeq, DL.iOb, DL.walkI, DL.walkD, DL.iRg1, DL.iRg2, DL.addD, DL.subD, DL.mulD, DL.modD, DL.fdivD, DL.powD, DL.ltD, DL.leD, DL.gtD, DL.geD, DL.ordD, DL.reprD_1, DL.eqD_non, DL.eqD_bl, DL.eqD_int, DL.eqD_tup, DL.eqD_dct, DL.eqD_ss, DL.eqD_snon, DL.eqD_sbl, DL.eqD_sint, DL.eqD_stup, DL.eqD_slst, DL.eqD_sdct, DL.eqD_l0, DL.eqD_lc, DL.eqD_lnon, DL.eqD_lbl, DL.eqD_lint, DL.eqD_ltup, DL.eqD_lstr, DL.eqD_ldct, DL.neD_non, DL.neD_bl, DL.neD_int, DL.neD_tup, DL.neD_dct, DL.neD_ss, DL.neD_snon, DL.neD_sbl, DL.neD_sint, DL.neD_stup, DL.neD_slst, DL.neD_sdct, DL.neD_l0, DL.neD_lc, DL.neD_lnon, DL.neD_lbl, DL.neD_lint, DL.neD_ltup, DL.neD_lstr, DL.neD_ldct, DL.isNone, DL.isBD, DL.negD, DL.dChain, DL.inRgD, DL.gNm, DL.gTu, DL.gTuL, DL.gEnd, DL.gMore, DL.ascL, DL.sTry, DL.sTryC, DL.sApp, DL.sOwn, DL.fLst, DL.fDct, DL.fList, DL.fCat, DL.fSl, DL.dTr, DL.dTrT, DL.sFz, DL.sAug, DL.dAsk, DL.fnD, DL.startD, DL.restD, DL.inD', DL.startI, DL.sFldD, DL.putD, DL.EnD.noNx, DL.caughtR, DL.hideR, DL.hideS, DL.noOwnB, DL.Sl.isOwn, DL.Ow.toD, DL.D.flat, DL.dLc, DL.dTrue, DL.dBm, DL.splitD, DL.sortedD, DL.joinD, DL.dPop, DL.sRetP, DL.sSetP, DL.sAppP, DL.sPDF, DL.sPFD, DL.sPFF, DL.dSV, DL.kwD, DL.fillD, DL.dArg0, DL.dCm, DL.rmpD, DL.okR, DL.dDisp, DL.pairsD, DL.keyD, DL.lawEn, DL.lawRho, List.map_cons, List.map_nil, List.replicate_succ, List.replicate_zero, List.cons_append, List.nil_append, List.append_nil, List.set_cons_zero, List.set_cons_succ, List.getElem?_cons_zero, List.getElem?_cons_succ, List.length_cons, List.length_nil, List.length_append, List.take_zero, List.drop_zero, List.take_succ_cons, List.drop_succ_cons, List.lookup_cons, List.lookup_nil, List.contains_cons, List.contains_nil, List.all_cons, List.all_nil, Option.some.injEq, DL.Sl.d.injEq, DL.Sl.own.injEq, DL.D.int.injEq, DL.D.str.injEq, DL.D.bl.injEq, DL.D.lst.injEq, DL.D.tup.injEq, DL.D.ob.injEq, DL.Ow.lst.injEq, DL.Ow.dct.injEq, DL.Ow.ins.injEq, List.cons.injEq, DL.ex_cons, DL.ofS_beq, DL.ofS_inj, String.reduceBEq, String.reduceEq, exists_eq_left', exists_eq_left, exists_false, exists_eq_right, exists_eq_right', exists_and_left, exists_and_right, exists_eq', exists_eq, true_and, and_true, and_self, if_true, if_false, ite_true, ite_false, Bool.false_eq_true, Bool.true_eq_false, Bool.not_true, Bool.not_false, Bool.or_true, Bool.or_false, Bool.true_or, Bool.false_or, Bool.and_true, Bool.true_and, Bool.and_false, Bool.false_and, Bool.true_xor, Bool.false_xor, Option.map_some, Option.map_none, reduceCtorEq, not_false_eq_true, not_true_eq_false, ne_eq, implies_true, decide_true, decide_false, and_false, false_and, or_false, false_or, beq_self_eq_true, List.isEmpty_nil, List.isEmpty_cons, List.reverse_nil, List.reverse_cons, DL.D.isPy, DL.isPyL, DL.D.dep, DL.depL, DL.eqb_non_non, DL.eqb_non_bl, DL.eqb_non_int, DL.eqb_non_str, DL.eqb_non_tup, DL.eqb_non_lst, DL.eqb_non_dct, DL.eqb_bl_non, DL.eqb_bl_bl, DL.eqb_bl_int, DL.eqb_bl_str, DL.eqb_bl_tup, DL.eqb_bl_lst, DL.eqb_bl_dct, DL.eqb_int_non, DL.eqb_int_bl, DL.eqb_int_int, DL.eqb_int_str, DL.eqb_int_tup, DL.eqb_int_lst, DL.eqb_int_dct, DL.eqb_str_non, DL.eqb_str_bl, DL.eqb_str_int, DL.eqb_str_str, DL.eqb_str_tup, DL.eqb_str_lst, DL.eqb_str_dct, DL.eqb_tup_non, DL.eqb_tup_bl, DL.eqb_tup_int, DL.eqb_tup_str, DL.eqb_tup_tup, DL.eqb_tup_lst, DL.eqb_tup_dct, DL.eqb_lst_non, DL.eqb_lst_bl, DL.eqb_lst_int, DL.eqb_lst_str, DL.eqb_lst_tup, DL.eqb_lst_lst, DL.eqb_lst_dct, DL.eqb_dct_non, DL.eqb_dct_bl, DL.eqb_dct_int, DL.eqb_dct_str, DL.eqb_dct_tup, DL.eqb_dct_lst, DL.eqb_dct_dct, DL.eqbL_00, DL.eqbL_0c, DL.eqbL_c0, DL.eqbL_cc, Nat.zero_le, Nat.le_refl, Nat.max_self, Nat.max_zero, Nat.zero_max, Nat.zero_add, beq_iff_eq, decide_eq_true_eq])
theorem heard_str {k m : Nat} {x : Str} (h : okT 44 k m x) (hk : k ≤ 900) (hm : m ≤ 62) {te : TD} {ρ : Rho} (hte : ∀ n Φ Ψ, φ_Ward_read [.cl "Ward", .str x] n Φ Ψ → te (ρ.map hideS) n Φ Ψ) {n : Nat} {Φ : KD} {Ψ : XD}
    (hΦ : Φ (if goodP (Txt.split x (C1 44)) = true then .lst ((Txt.split x (C1 44)).map D.str) else .tup [.str "text", .int 0, .int 0]) n) : dHeard 3 w__law_heard te ρ n Φ Ψ := by
  intro f
  unfold w__law_heard
  walk_at "dw"
  refine hte _ _ _ (read_ok h hk hm (fun q => ?_) (fun q => ?_))
  · rw [if_pos q] at hΦ
    have ew : wardO (Txt.split x (C1 44)) = .ob "Ward" [("_corners", .tup ((Txt.split x (C1 44)).map D.str))] := rfl
    rw [ew]
    walk_at "dw"
    refine corners_prop ?_
    walk_at "dw"
    exact hΦ
  · rw [q] at hΦ
    walk_at "dw"
    exact ⟨by decide, hΦ⟩
theorem heard_odd {d : D} (hp : pl d = true) (h0 : ∀ x, d ≠ .str x) {te : TD} {ρ : Rho} (hte : ∀ n Φ Ψ, φ_Ward_read [.cl "Ward", d] n Φ Ψ → te (ρ.map hideS) n Φ Ψ) {n : Nat} {Φ : KD} {Ψ : XD}
    (hΦ : Φ (.tup [.str "text", .int 0, .int 0]) n) : dHeard 3 w__law_heard te ρ n Φ Ψ := by
  intro f
  unfold w__law_heard
  walk_at "dw"
  refine hte _ _ _ (read_odd hp h0 ?_)
  walk_at "dw"
  exact ⟨by decide, hΦ⟩
theorem fine_two {ws : List Str} (ok : ∀ s ∈ ws, okS s) (hl : ws.length ≤ 20) : fineD (.lst [.lst (ws.map D.str), .lst (ws.map D.str)]) = true := by
  have w := wt_strs ok
  refine fine_of ?_ ?_ ?_
  · simp only [shS, shSL, sh_strs ok, Bool.and_self]
  · simp only [D.dep, depL, dep_strs]; omega
  · simp only [wtS, wtSL]; omega
theorem right_ok {k m : Nat} {x : Str} (h : okT 44 k m x) (hk : k ≤ 900) (hm : m ≤ 62) {n : Nat} {Φ : KD} {Ψ : XD} (hΦ : Φ (.bl true) n) : φ__law_right [.str x] n Φ Ψ := by
  have big : 1000 ≤ sizeLine := by decide
  have t2 : Int.toNat 2 = 2 := rfl
  unfold φ__law_right w__law_right
  walk_at "dq"
  refine seq_ok fun k1 hk1 => ?_
  walk_at "dq"
  refine due_ok h hk hm ?_
  subst hk1
  refine seq_ok fun k2 hk2 => ?_
  simp only [sSeq, sOwn, fLst, dCons, dNil]
  refine heard_str h hk hm (fun n Φ Ψ q => by walk_at "dw"; exact q) ?_
  subst hk2
  refine ⟨by simp; omega, (by intro c fs z; cases z), ?_⟩
  refine seq_ok fun k3 hk3 => ?_
  simp only [sApp]
  walk_at "dq"
  refine heard_str h hk hm (fun n Φ Ψ q => by walk_at "dw"; exact q) ?_
  subst hk3
  unfold dueD
  cases q : goodP (Txt.split x (C1 44)) with
  | false =>
    walk_at "dw"
    rw [t2]
    simp only [List.replicate_succ, List.replicate_zero, List.flatten_cons, List.flatten_nil, List.cons_append, List.nil_append]
    refine ⟨by omega, by decide +kernel, by omega, by omega, by decide, by decide, by omega, by decide +kernel, ?_⟩
    rw [beq_self_eq_true]
    exact hΦ
  | true =>
    walk_at "dw"
    rw [t2]
    simp only [List.replicate_succ, List.replicate_zero, List.flatten_cons, List.flatten_nil, List.cons_append, List.nil_append]
    have q' := q
    unfold goodP at q'
    rw [Bool.and_eq_true, Bool.and_eq_true, decide_eq_true_eq, decide_eq_true_eq] at q'
    obtain ⟨q1, q2, q3⟩ := q'
    have ok : ∀ s ∈ Txt.split x (C1 44), okS s := fun s hs => (nameB_ok (names_ok q2 s hs)).1
    have fi := fine_two ok (by omega)
    refine ⟨by omega, fi, by omega, by decide, by decide, by omega, fi, ?_⟩
    rw [beq_self_eq_true]
    exact hΦ
end K15
namespace K15
open PySem PySem.Spec PyProof.Rows L2 Hx Gx KX LamX DL
local macro_rules | `(tactic| walk_at "dw") => `(tactic| simp only [DL.dVar, DL.dC, DL.dOp2, DL.dUn, DL.dCB, DL.dNil, DL.dCons, DL.dStar, DL.dTup, DL.dLst, DL.dTru, DL.dTest, DL.dAnd, DL.dOr, DL.dNot, DL.dIf, DL.dAndV, DL.dOrV, DL.dNotV, DL.sNext, DL.sSeq, DL.sDrop, DL.sRet, DL.sRetN, DL.sRaise, List.zip_cons_cons, List.zip_nil_right,  DL.sIf, DL.sSet, DL.sAsg, DL.sPar, DL.sFor, DL.dCall, DL.dMake, DL.dR, DL.dSt, DL.dKw0, DL.dMet, DL.dOpN, DL.dUnN, DL.pureN, DL.pure1, DL.selN, DL.selR, DL.inX, DL.sel1, DL.selNe, DL.selLen, DL.selStr, DL.list1, DL.attD, DL.isiD, DL.isB, DL.isC, DL.D.tn, DL.kitT, DL.truD, DL.lenD, DL.absD, DL.intD, DL.strD, DL.listD, DL.tupleD, DL.allD, DL.inD, DL.ixD, DL.slD, DL.dSl, DL.dRevL, DL.atI_c0, DL.dNoPart, DL.dPart, DL.iSeq, DL.iOb, DL.walkI, DL.walkD, DL.iRg1, DL.iRg2, DL.addD, DL.subD, DL.mulD, DL.modD, DL.fdivD, DL.powD, DL.ltD, DL.leD, DL.gtD, DL.geD, DL.ordD, DL.reprD_1, DL.eqD_non, DL.eqD_bl, DL.eqD_int, DL.eqD_tup, DL.eqD_dct, DL.eqD_ss, DL.eqD_snon, DL.eqD_sbl, DL.eqD_sint, DL.eqD_stup, DL.eqD_slst, DL.eqD_sdct, DL.eqD_l0, DL.eqD_lc, DL.eqD_lnon, DL.eqD_lbl, DL.eqD_lint, DL.eqD_ltup, DL.eqD_lstr, DL.eqD_ldct, DL.neD_non, DL.neD_bl, DL.neD_int, DL.neD_tup, DL.neD_dct, DL.neD_ss, DL.neD_snon, DL.neD_sbl, DL.neD_sint, DL.neD_stup, DL.neD_slst, DL.neD_sdct, DL.neD_l0, DL.neD_lc, DL.neD_lnon, DL.neD_lbl, DL.neD_lint, DL.neD_ltup, DL.neD_lstr, DL.neD_ldct, DL.isNone, DL.isBD, DL.negD, DL.dChain, DL.inRgD, DL.gNm, DL.gTu, DL.gTuL, DL.gEnd, DL.gMore, DL.ascL, DL.sTry, DL.sTryC, DL.sApp, DL.sOwn, DL.fLst, DL.fDct, DL.fList, DL.fCat, DL.fSl, DL.dTr, DL.dTrT, DL.sFz, DL.sAug, DL.dAsk, DL.fnD, DL.startD, DL.restD, DL.inD', DL.startI, DL.sFldD, DL.putD, DL.EnD.noNx, DL.caughtR, DL.hideR, DL.hideS, DL.noOwnB, DL.Sl.isOwn, DL.Ow.toD, DL.D.flat, DL.dLc, DL.dTrue, DL.dBm, DL.splitD, DL.sortedD, DL.joinD, DL.dPop, DL.sRetP, DL.sSetP, DL.sAppP, DL.sPDF, DL.sPFD, DL.sPFF, DL.dSV, DL.kwD, DL.fillD, DL.dArg0, DL.dCm, DL.rmpD, DL.okR, DL.dDisp, DL.pairsD, DL.keyD, DL.lawEn, DL.lawRho, List.map_cons, List.map_nil, List.replicate_succ, List.replicate_zero, List.cons_append, List.nil_append, List.append_nil, List.set_cons_zero, List.set_cons_succ, List.getElem?_cons_zero, List.getElem?_cons_succ, List.length_cons, List.length_nil, List.length_append, List.take_zero, List.drop_zero, List.take_succ_cons, List.drop_succ_cons, List.lookup_cons, List.lookup_nil, List.contains_cons, List.contains_nil, List.all_cons, List.all_nil, Option.some.injEq, DL.Sl.d.injEq, DL.Sl.own.injEq, DL.D.int.injEq, DL.D.str.injEq, DL.D.bl.injEq, DL.D.lst.injEq, DL.D.tup.injEq, DL.D.ob.injEq, DL.Ow.lst.injEq, DL.Ow.dct.injEq, DL.Ow.ins.injEq, List.cons.injEq, DL.ex_cons, DL.ofS_beq, DL.ofS_inj, String.reduceBEq, String.reduceEq, exists_eq_left', exists_eq_left, exists_false, exists_eq_right, exists_eq_right', exists_and_left, exists_and_right, exists_eq', exists_eq, true_and, and_true, and_self, if_true, if_false, ite_true, ite_false, Bool.false_eq_true, Bool.true_eq_false, Bool.not_true, Bool.not_false, Bool.or_true, Bool.or_false, Bool.true_or, Bool.false_or, Bool.and_true, Bool.true_and, Bool.and_false, Bool.false_and, Bool.true_xor, Bool.false_xor, Option.map_some, Option.map_none, reduceCtorEq, not_false_eq_true, not_true_eq_false, ne_eq, implies_true, decide_true, decide_false, and_false, false_and, or_false, false_or, beq_self_eq_true, List.isEmpty_nil, List.isEmpty_cons, List.reverse_nil, List.reverse_cons, DL.D.isPy, DL.isPyL, DL.D.dep, DL.depL, DL.eqb_non_non, DL.eqb_non_bl, DL.eqb_non_int, DL.eqb_non_str, DL.eqb_non_tup, DL.eqb_non_lst, DL.eqb_non_dct, DL.eqb_bl_non, DL.eqb_bl_bl, DL.eqb_bl_int, DL.eqb_bl_str, DL.eqb_bl_tup, DL.eqb_bl_lst, DL.eqb_bl_dct, DL.eqb_int_non, DL.eqb_int_bl, DL.eqb_int_int, DL.eqb_int_str, DL.eqb_int_tup, DL.eqb_int_lst, DL.eqb_int_dct, DL.eqb_str_non, DL.eqb_str_bl, DL.eqb_str_int, DL.eqb_str_str, DL.eqb_str_tup, DL.eqb_str_lst, DL.eqb_str_dct, DL.eqb_tup_non, DL.eqb_tup_bl, DL.eqb_tup_int, DL.eqb_tup_str, DL.eqb_tup_tup, DL.eqb_tup_lst, DL.eqb_tup_dct, DL.eqb_lst_non, DL.eqb_lst_bl, DL.eqb_lst_int, DL.eqb_lst_str, DL.eqb_lst_tup, DL.eqb_lst_lst, DL.eqb_lst_dct, DL.eqb_dct_non, DL.eqb_dct_bl, DL.eqb_dct_int, DL.eqb_dct_str, DL.eqb_dct_tup, DL.eqb_dct_lst, DL.eqb_dct_dct, DL.eqbL_00, DL.eqbL_0c, DL.eqbL_c0, DL.eqbL_cc, Nat.zero_le, Nat.le_refl, Nat.max_self, Nat.max_zero, Nat.zero_max, Nat.zero_add, beq_iff_eq, decide_eq_true_eq])
local macro_rules | `(tactic| walk_at "dq") => `(tactic| simp only [DL.dVar, DL.dC, DL.dOp2, DL.dUn, DL.dCB, DL.dNil, DL.dCons, DL.dStar, DL.dTup, DL.dLst, DL.dTru, DL.dTest, DL.dAnd, DL.dOr, DL.dNot, DL.dIf, DL.dAndV, DL.dOrV, DL.dNotV, DL.sNext, DL.sDrop, DL.sRet, DL.sRetN, DL.sRaise, List.zip_cons_cons, List.zip_nil_right,  DL.sIf, DL.sSet, DL.sAsg, DL.sPar, DL.sFor, DL.dCall, DL.dMake, DL.dR, DL.dSt, DL.dKw0, DL.dMet, DL.dOpN, DL.dUnN, DL.pureN, DL.pure1, DL.selN, DL.selR, DL.inX, DL.sel1, DL.selNe, DL.selLen, DL.selStr, DL.list1, DL.attD, DL.isiD, DL.isB, DL.isC, DL.D.tn, DL.kitT, DL.truD, DL.lenD, DL.absD, DL.intD, DL.strD, DL.listD, DL.tupleD, DL.allD, DL.inD, DL.ixD, DL.slD, DL.dSl, DL.dRevL, DL.atI_c0, DL.dNoPart, DL.dPart, DL.iSeq, DL.iOb, DL.walkI, DL.walkD, DL.iRg1, DL.iRg2, DL.addD, DL.subD, DL.mulD, DL.modD, DL.fdivD, DL.powD, DL.ltD, DL.leD, DL.gtD, DL.geD, DL.ordD, DL.reprD_1, DL.eqD_non, DL.eqD_bl, DL.eqD_int, DL.eqD_tup, DL.eqD_dct, DL.eqD_ss, DL.eqD_snon, DL.eqD_sbl, DL.eqD_sint, DL.eqD_stup, DL.eqD_slst, DL.eqD_sdct, DL.eqD_l0, DL.eqD_lc, DL.eqD_lnon, DL.eqD_lbl, DL.eqD_lint, DL.eqD_ltup, DL.eqD_lstr, DL.eqD_ldct, DL.neD_non, DL.neD_bl, DL.neD_int, DL.neD_tup, DL.neD_dct, DL.neD_ss, DL.neD_snon, DL.neD_sbl, DL.neD_sint, DL.neD_stup, DL.neD_slst, DL.neD_sdct, DL.neD_l0, DL.neD_lc, DL.neD_lnon, DL.neD_lbl, DL.neD_lint, DL.neD_ltup, DL.neD_lstr, DL.neD_ldct, DL.isNone, DL.isBD, DL.negD, DL.dChain, DL.inRgD, DL.gNm, DL.gTu, DL.gTuL, DL.gEnd, DL.gMore, DL.ascL, DL.sTry, DL.sTryC, DL.sApp, DL.sOwn, DL.fLst, DL.fDct, DL.fList, DL.fCat, DL.fSl, DL.dTr, DL.dTrT, DL.sFz, DL.sAug, DL.dAsk, DL.fnD, DL.startD, DL.restD, DL.inD', DL.startI, DL.sFldD, DL.putD, DL.EnD.noNx, DL.caughtR, DL.hideR, DL.hideS, DL.noOwnB, DL.Sl.isOwn, DL.Ow.toD, DL.D.flat, DL.dLc, DL.dTrue, DL.dBm, DL.splitD, DL.sortedD, DL.joinD, DL.dPop, DL.sRetP, DL.sSetP, DL.sAppP, DL.sPDF, DL.sPFD, DL.sPFF, DL.dSV, DL.kwD, DL.fillD, DL.dArg0, DL.dCm, DL.rmpD, DL.okR, DL.dDisp, DL.pairsD, DL.keyD, DL.lawEn, DL.lawRho, List.map_cons, List.map_nil, List.replicate_succ, List.replicate_zero, List.cons_append, List.nil_append, List.append_nil, List.set_cons_zero, List.set_cons_succ, List.getElem?_cons_zero, List.getElem?_cons_succ, List.length_cons, List.length_nil, List.length_append, List.take_zero, List.drop_zero, List.take_succ_cons, List.drop_succ_cons, List.lookup_cons, List.lookup_nil, List.contains_cons, List.contains_nil, List.all_cons, List.all_nil, Option.some.injEq, DL.Sl.d.injEq, DL.Sl.own.injEq, DL.D.int.injEq, DL.D.str.injEq, DL.D.bl.injEq, DL.D.lst.injEq, DL.D.tup.injEq, DL.D.ob.injEq, DL.Ow.lst.injEq, DL.Ow.dct.injEq, DL.Ow.ins.injEq, List.cons.injEq, DL.ex_cons, DL.ofS_beq, DL.ofS_inj, String.reduceBEq, String.reduceEq, exists_eq_left', exists_eq_left, exists_false, exists_eq_right, exists_eq_right', exists_and_left, exists_and_right, exists_eq', exists_eq, true_and, and_true, and_self, if_true, if_false, ite_true, ite_false, Bool.false_eq_true, Bool.true_eq_false, Bool.not_true, Bool.not_false, Bool.or_true, Bool.or_false, Bool.true_or, Bool.false_or, Bool.and_true, Bool.true_and, Bool.and_false, Bool.false_and, Bool.true_xor, Bool.false_xor, Option.map_some, Option.map_none, reduceCtorEq, not_false_eq_true, not_true_eq_false, ne_eq, implies_true, decide_true, decide_false, and_false, false_and, or_false, false_or, beq_self_eq_true, List.isEmpty_nil, List.isEmpty_cons, List.reverse_nil, List.reverse_cons, DL.D.isPy, DL.isPyL, DL.D.dep, DL.depL, DL.eqb_non_non, DL.eqb_non_bl, DL.eqb_non_int, DL.eqb_non_str, DL.eqb_non_tup, DL.eqb_non_lst, DL.eqb_non_dct, DL.eqb_bl_non, DL.eqb_bl_bl, DL.eqb_bl_int, DL.eqb_bl_str, DL.eqb_bl_tup, DL.eqb_bl_lst, DL.eqb_bl_dct, DL.eqb_int_non, DL.eqb_int_bl, DL.eqb_int_int, DL.eqb_int_str, DL.eqb_int_tup, DL.eqb_int_lst, DL.eqb_int_dct, DL.eqb_str_non, DL.eqb_str_bl, DL.eqb_str_int, DL.eqb_str_str, DL.eqb_str_tup, DL.eqb_str_lst, DL.eqb_str_dct, DL.eqb_tup_non, DL.eqb_tup_bl, DL.eqb_tup_int, DL.eqb_tup_str, DL.eqb_tup_tup, DL.eqb_tup_lst, DL.eqb_tup_dct, DL.eqb_lst_non, DL.eqb_lst_bl, DL.eqb_lst_int, DL.eqb_lst_str, DL.eqb_lst_tup, DL.eqb_lst_lst, DL.eqb_lst_dct, DL.eqb_dct_non, DL.eqb_dct_bl, DL.eqb_dct_int, DL.eqb_dct_str, DL.eqb_dct_tup, DL.eqb_dct_lst, DL.eqb_dct_dct, DL.eqbL_00, DL.eqbL_0c, DL.eqbL_c0, DL.eqbL_cc, Nat.zero_le, Nat.le_refl, Nat.max_self, Nat.max_zero, Nat.zero_max, Nat.zero_add, beq_iff_eq, decide_eq_true_eq])
theorem words_ok : ∀ s ∈ ([("" : Str), "a", "c", "zz", "A", "a b", "abcdefghi", "b\n"] : List Str), (44 : Nat) ∉ s.cps.toList ∧ (∀ d ∈ s.cps.toList, d < 128) ∧ s.length ≤ 9 := by decide +kernel
theorem signs7 : ∀ s ∈ ([(" " : Str), "", "a", ",", "-", "\n", ".", "A"] : List Str), okT 44 1 1 s := by
  have h : ∀ s ∈ ([(" " : Str), "", "a", ",", "-", "\n", ".", "A"] : List Str), s.length ≤ 1 ∧ (∀ d ∈ s.cps.toList, d < 128) ∧ s.cps.toList.count 44 ≤ 1 := by decide +kernel
  intro s hs
  obtain ⟨a, b, c⟩ := h s hs
  exact ⟨a, b, c⟩
theorem bent_ok {k m : Nat} {x : Str} (h : okT 44 k m x) (hk : k ≤ 300) (hm : m ≤ 20) {n : Nat} {Φ : KD} {Ψ : XD} (hn : n ≤ 90000) (hΦ : ∀ y n', okT 44 (2 * k + 20) (2 * m + 2) y → n' ≤ n + 5 → Φ (.str y) n') : φ__law_bent [.pen, .str x] n Φ Ψ := by
  have big : 100000 ≤ sizeLine := by decide
  have l1 := h.split_len
  have pt := h.parts
  have w1 := wS_split x 44
  have l0 := List.length_pos_iff.mpr (split_ne x 44)
  have lx := h.l
  unfold φ__law_bent w__law_bent
  walk_at "dw"
  rw [ofS_comma]
  obtain ⟨ws, ew⟩ : ∃ ws, ws = Txt.split x (C1 44) := ⟨_, rfl⟩
  rw [← ew] at l1 pt w1 l0 ⊢
  rw [List.length_map]
  refine ⟨by decide, by omega, ?_⟩
  refine draw_ok (by omega) (by decide) (by decide) fun g g0 g1 => ?_
  refine draw_ok (by omega) (by omega) (by rw [pow60]; omega) fun p p0 p1 => ?_
  obtain ⟨p, rfl⟩ := Int.eq_ofNat_of_zero_le p0
  refine ⟨by omega, pick_law (by decide) (by decide) (by omega) fun d hd => ?_⟩
  obtain ⟨u, rfl, hu⟩ : ∃ u : Str, d = .str u ∧ u ∈ ([("" : Str), "a", "c", "zz", "A", "a b", "abcdefghi", "b\n"] : List Str) := List.mem_map.mp (show d ∈ List.map D.str ([("" : Str), "a", "c", "zz", "A", "a b", "abcdefghi", "b\n"] : List Str) from hd) |> fun ⟨u, h1, h2⟩ => ⟨u, h2.symm, h1⟩
  obtain ⟨u1, u2, u3⟩ := words_ok u hu
  have pu : DL.PS 44 [u] := .one u1 u2
  have wu : wS [u] ≤ 10 := by rw [wS_one]; omega
  have gc : g = 0 ∨ g = 1 ∨ g = 2 ∨ g = 3 ∨ g = 4 ∨ g = 5 ∨ g = 6 ∨ g = 7 := by omega
  have wt := fun j => wS_take ws j
  have wd := fun j => wS_drop ws j
  have lt := fun j => List.length_take_le j ws
  have ld : ∀ j, (ws.drop j).length ≤ ws.length := fun j => by rw [List.length_drop]; omega
  have c1 : ((p : Int) + 1) = ((p + 1 : Nat) : Int) := by omega
  have jn : ∀ ss, DL.PS 44 ss → wS ss ≤ 2 * k + 20 → ss.length ≤ 2 * m + 2 → ∃ zs : List Str, ss.map D.str = zs.map D.str ∧ (zs.map (·.length)).sum + zs.length * (C1 44).length ≤ 16777216 ∧ Φ (.str (Txt.join (C1 44) zs)) (n + 1 + 1 + 1) := fun ss h1 h2 h3 => join_end (by decide) h1 h2 (by omega) h3 fun y hy => hΦ y _ hy (by omega)
  rcases gc with rfl | rfl | rfl | rfl | rfl | rfl | rfl | rfl
  · walk_at "dw"
    rw [c1, cut_to, cut_from, ← List.map_take, ← List.map_drop, ← List.map_append]
    have := wS_app (ws.take p) (ws.drop p)
    have := wt p
    have := wd (p + 1)
    have := lt p
    have := ld (p + 1)
    exact ⟨by simp only [List.length_map]; omega, jn _ ((pt.take p).app (pt.drop (p + 1))) (by rw [wS_app]; omega) (by rw [List.length_append]; omega)⟩
  · walk_at "dw"
    simp only [Int.reduceEq, if_true, if_false]
    rw [c1, cut_to, cut_from, ← List.map_take, ← List.map_drop, ← List.map_append]
    have := wt (p + 1)
    have := wd p
    have := List.length_take (l := ws) (i := p + 1)
    have := List.length_drop (l := ws) (i := p)
    exact ⟨by simp only [List.length_map]; omega, jn _ ((pt.take (p + 1)).app (pt.drop p)) (by rw [wS_app]; omega) (by rw [List.length_append]; omega)⟩
  · walk_at "dw"
    simp only [Int.reduceEq, if_true, if_false]
    have e1 : ([D.str u] : List D) = [u].map D.str := rfl
    rw [c1, cut_to, cut_from, ← List.map_take, ← List.map_drop, e1]
    simp only [← List.map_append]
    have := wt p
    have := wd (p + 1)
    have := List.length_take (l := ws) (i := p)
    have := List.length_drop (l := ws) (i := p + 1)
    exact ⟨by omega, by simp only [List.length_map]; omega, by simp only [List.length_map]; omega, jn _ (((pt.take p).app pu).app (pt.drop (p + 1))) (by rw [wS_app, wS_app]; omega) (by simp only [List.length_append, List.length_singleton]; omega)⟩
  · walk_at "dw"
    simp only [Int.reduceEq, if_true, if_false]
    have e1 : ([D.str u] : List D) = [u].map D.str := rfl
    rw [cut_to, cut_from, ← List.map_take, ← List.map_drop, e1]
    simp only [← List.map_append]
    have := wt p
    have := wd p
    have := List.length_take (l := ws) (i := p)
    have := List.length_drop (l := ws) (i := p)
    exact ⟨by omega, by simp only [List.length_map]; omega, by simp only [List.length_map]; omega, jn _ (((pt.take p).app pu).app (pt.drop p)) (by rw [wS_app, wS_app]; omega) (by simp only [List.length_append, List.length_singleton]; omega)⟩
  · walk_at "dw"
    simp only [Int.reduceEq, if_true, if_false]
    rw [cut_to, cut_from, ← List.map_take, ← List.map_drop, ← List.map_append]
    have := wt p
    have := wd p
    have := List.length_take (l := ws) (i := p)
    have := List.length_drop (l := ws) (i := p)
    exact ⟨by simp only [List.length_map]; omega, jn _ ((pt.drop p).app (pt.take p)) (by rw [wS_app]; omega) (by rw [List.length_append]; omega)⟩
  · walk_at "dw"
    simp only [Int.reduceEq, if_true, if_false]
    have e1 : ([D.str u] : List D) = [u].map D.str := rfl
    rw [e1, ← List.map_append]
    refine ⟨by omega, by omega, ?_⟩
    refine DL.comp_map D.str D.str (fun s hs n Φ' h => ?_) (by simp; omega) ?_
    · walk_at "dw"
      exact h
    · rw [List.nil_append]
      refine ⟨ws ++ [u], rfl, by rw [List.length_append, List.length_singleton]; omega, fun ys py so => ?_⟩
      exact jn _ (fun s hs => (pt.app pu) s (py.subset hs)) (by rw [wS_perm py, wS_app]; omega) (by rw [py.length_eq, List.length_append, List.length_singleton]; omega)
  all_goals
    walk_at "dw"
    simp only [Int.reduceEq, if_true, if_false]
    refine ⟨by omega, draw_ok (by omega) (by omega) (by rw [pow60]; omega) fun q q0 q1 => ?_⟩
    refine ⟨q, rfl, by omega, by omega, pick_law (by simp) (by simp) (by omega) fun d hd => ?_⟩
    obtain ⟨v, rfl, hv⟩ : ∃ v, d = .str v ∧ okT 44 1 1 v := by
      rw [← ofS_comma] at hd
      obtain ⟨v, h1, h2⟩ := List.mem_map.mp (show d ∈ List.map D.str ([(" " : Str), "", "a", ",", "-", "\n", ".", "A"] : List Str) from hd)
      exact ⟨v, h2.symm, signs7 v h1⟩
    walk_at "dw"
    have b1 := (h.cut none (some q)).l
    have b2 := fun j => (h.cut (some j) none).l
    have b3 := hv.l
    refine ⟨by omega, by omega, by rw [Str.length_append]; have := b2 (q + 1); have := b2 (q + 0); omega, hΦ _ _ ((((h.cut _ _).app hv).app (h.cut _ _)).mono (by omega) (by omega)) (by omega)⟩
end K15
namespace K15
open PySem PySem.Spec PyProof.Rows L2 Hx Gx KX LamX DL
local macro_rules | `(tactic| walk_at "dw") => `(tactic| simp only [DL.dVar, DL.dC, DL.dOp2, DL.dUn, DL.dCB, DL.dNil, DL.dCons, DL.dStar, DL.dTup, DL.dLst, DL.dTru, DL.dTest, DL.dAnd, DL.dOr, DL.dNot, DL.dIf, DL.dAndV, DL.dOrV, DL.dNotV, DL.sNext, DL.sSeq, DL.sDrop, DL.sRet, DL.sRetN, DL.sRaise, List.zip_cons_cons, List.zip_nil_right,  DL.sIf, DL.sSet, DL.sAsg, DL.sPar, DL.sFor, DL.dCall, DL.dMake, DL.dR, DL.dSt, DL.dKw0, DL.dMet, DL.dOpN, DL.dUnN, DL.pureN, DL.pure1, DL.selN, DL.selR, DL.inX, DL.sel1, DL.selNe, DL.selLen, DL.selStr, DL.list1, DL.attD, DL.isiD, DL.isB, DL.isC, DL.D.tn, DL.kitT, DL.truD, DL.lenD, DL.absD, DL.intD, DL.strD, DL.listD, DL.tupleD, DL.allD, DL.inD, DL.ixD, DL.slD, DL.dSl, DL.dRevL, DL.atI_c0, DL.dNoPart, DL.dPart, DL.iSeq, DL.iOb, DL.walkI, DL.walkD, DL.iRg1, DL.iRg2, DL.addD, DL.subD, DL.mulD, DL.modD, DL.fdivD, DL.powD, DL.ltD, DL.leD, DL.gtD, DL.geD, DL.ordD, DL.reprD_1, DL.eqD_non, DL.eqD_bl, DL.eqD_int, DL.eqD_tup, DL.eqD_dct, DL.eqD_ss, DL.eqD_snon, DL.eqD_sbl, DL.eqD_sint, DL.eqD_stup, DL.eqD_slst, DL.eqD_sdct, DL.eqD_l0, DL.eqD_lc, DL.eqD_lnon, DL.eqD_lbl, DL.eqD_lint, DL.eqD_ltup, DL.eqD_lstr, DL.eqD_ldct, DL.neD_non, DL.neD_bl, DL.neD_int, DL.neD_tup, DL.neD_dct, DL.neD_ss, DL.neD_snon, DL.neD_sbl, DL.neD_sint, DL.neD_stup, DL.neD_slst, DL.neD_sdct, DL.neD_l0, DL.neD_lc, DL.neD_lnon, DL.neD_lbl, DL.neD_lint, DL.neD_ltup, DL.neD_lstr, DL.neD_ldct, DL.isNone, DL.isBD, DL.negD, DL.dChain, DL.inRgD, DL.gNm, DL.gTu, DL.gTuL, DL.gEnd, DL.gMore, DL.ascL, DL.sTry, DL.sTryC, DL.sApp, DL.sOwn, DL.fLst, DL.fDct, DL.fList, DL.fCat, DL.fSl, DL.dTr, DL.dTrT, DL.sFz, DL.sAug, DL.dAsk, DL.fnD, DL.startD, DL.restD, DL.inD', DL.startI, DL.sFldD, DL.putD, DL.EnD.noNx, DL.caughtR, DL.hideR, DL.hideS, DL.noOwnB, DL.Sl.isOwn, DL.Ow.toD, DL.D.flat, DL.dLc, DL.dTrue, DL.dBm, DL.splitD, DL.sortedD, DL.joinD, DL.dPop, DL.sRetP, DL.sSetP, DL.sAppP, DL.sPDF, DL.sPFD, DL.sPFF, DL.dSV, DL.kwD, DL.fillD, DL.dArg0, DL.dCm, DL.rmpD, DL.okR, DL.dDisp, DL.pairsD, DL.keyD, DL.lawEn, DL.lawRho, List.map_cons, List.map_nil, List.replicate_succ, List.replicate_zero, List.cons_append, List.nil_append, List.append_nil, List.set_cons_zero, List.set_cons_succ, List.getElem?_cons_zero, List.getElem?_cons_succ, List.length_cons, List.length_nil, List.length_append, List.take_zero, List.drop_zero, List.take_succ_cons, List.drop_succ_cons, List.lookup_cons, List.lookup_nil, List.contains_cons, List.contains_nil, List.all_cons, List.all_nil, Option.some.injEq, DL.Sl.d.injEq, DL.Sl.own.injEq, DL.D.int.injEq, DL.D.str.injEq, DL.D.bl.injEq, DL.D.lst.injEq, DL.D.tup.injEq, DL.D.ob.injEq, DL.Ow.lst.injEq, DL.Ow.dct.injEq, DL.Ow.ins.injEq, List.cons.injEq, DL.ex_cons, DL.ofS_beq, DL.ofS_inj, String.reduceBEq, String.reduceEq, exists_eq_left', exists_eq_left, exists_false, exists_eq_right, exists_eq_right', exists_and_left, exists_and_right, exists_eq', exists_eq, true_and, and_true, and_self, if_true, if_false, ite_true, ite_false, Bool.false_eq_true, Bool.true_eq_false, Bool.not_true, Bool.not_false, Bool.or_true, Bool.or_false, Bool.true_or, Bool.false_or, Bool.and_true, Bool.true_and, Bool.and_false, Bool.false_and, Bool.true_xor, Bool.false_xor, Option.map_some, Option.map_none, reduceCtorEq, not_false_eq_true, not_true_eq_false, ne_eq, implies_true, decide_true, decide_false, and_false, false_and, or_false, false_or, beq_self_eq_true, List.isEmpty_nil, List.isEmpty_cons, List.reverse_nil, List.reverse_cons, DL.D.isPy, DL.isPyL, DL.D.dep, DL.depL, DL.eqb_non_non, DL.eqb_non_bl, DL.eqb_non_int, DL.eqb_non_str, DL.eqb_non_tup, DL.eqb_non_lst, DL.eqb_non_dct, DL.eqb_bl_non, DL.eqb_bl_bl, DL.eqb_bl_int, DL.eqb_bl_str, DL.eqb_bl_tup, DL.eqb_bl_lst, DL.eqb_bl_dct, DL.eqb_int_non, DL.eqb_int_bl, DL.eqb_int_int, DL.eqb_int_str, DL.eqb_int_tup, DL.eqb_int_lst, DL.eqb_int_dct, DL.eqb_str_non, DL.eqb_str_bl, DL.eqb_str_int, DL.eqb_str_str, DL.eqb_str_tup, DL.eqb_str_lst, DL.eqb_str_dct, DL.eqb_tup_non, DL.eqb_tup_bl, DL.eqb_tup_int, DL.eqb_tup_str, DL.eqb_tup_tup, DL.eqb_tup_lst, DL.eqb_tup_dct, DL.eqb_lst_non, DL.eqb_lst_bl, DL.eqb_lst_int, DL.eqb_lst_str, DL.eqb_lst_tup, DL.eqb_lst_lst, DL.eqb_lst_dct, DL.eqb_dct_non, DL.eqb_dct_bl, DL.eqb_dct_int, DL.eqb_dct_str, DL.eqb_dct_tup, DL.eqb_dct_lst, DL.eqb_dct_dct, DL.eqbL_00, DL.eqbL_0c, DL.eqbL_c0, DL.eqbL_cc, Nat.zero_le, Nat.le_refl, Nat.max_self, Nat.max_zero, Nat.zero_max, Nat.zero_add, beq_iff_eq, decide_eq_true_eq])
local macro_rules | `(tactic| walk_at "dq") => `(tactic| simp only [DL.dVar, DL.dC, DL.dOp2, DL.dUn, DL.dCB, DL.dNil, DL.dCons, DL.dStar, DL.dTup, DL.dLst, DL.dTru, DL.dTest, DL.dAnd, DL.dOr, DL.dNot, DL.dIf, DL.dAndV, DL.dOrV, DL.dNotV, DL.sNext, DL.sDrop, DL.sRet, DL.sRetN, DL.sRaise, List.zip_cons_cons, List.zip_nil_right,  DL.sIf, DL.sSet, DL.sAsg, DL.sPar, DL.sFor, DL.dCall, DL.dMake, DL.dR, DL.dSt, DL.dKw0, DL.dMet, DL.dOpN, DL.dUnN, DL.pureN, DL.pure1, DL.selN, DL.selR, DL.inX, DL.sel1, DL.selNe, DL.selLen, DL.selStr, DL.list1, DL.attD, DL.isiD, DL.isB, DL.isC, DL.D.tn, DL.kitT, DL.truD, DL.lenD, DL.absD, DL.intD, DL.strD, DL.listD, DL.tupleD, DL.allD, DL.inD, DL.ixD, DL.slD, DL.dSl, DL.dRevL, DL.atI_c0, DL.dNoPart, DL.dPart, DL.iSeq, DL.iOb, DL.walkI, DL.walkD, DL.iRg1, DL.iRg2, DL.addD, DL.subD, DL.mulD, DL.modD, DL.fdivD, DL.powD, DL.ltD, DL.leD, DL.gtD, DL.geD, DL.ordD, DL.reprD_1, DL.eqD_non, DL.eqD_bl, DL.eqD_int, DL.eqD_tup, DL.eqD_dct, DL.eqD_ss, DL.eqD_snon, DL.eqD_sbl, DL.eqD_sint, DL.eqD_stup, DL.eqD_slst, DL.eqD_sdct, DL.eqD_l0, DL.eqD_lc, DL.eqD_lnon, DL.eqD_lbl, DL.eqD_lint, DL.eqD_ltup, DL.eqD_lstr, DL.eqD_ldct, DL.neD_non, DL.neD_bl, DL.neD_int, DL.neD_tup, DL.neD_dct, DL.neD_ss, DL.neD_snon, DL.neD_sbl, DL.neD_sint, DL.neD_stup, DL.neD_slst, DL.neD_sdct, DL.neD_l0, DL.neD_lc, DL.neD_lnon, DL.neD_lbl, DL.neD_lint, DL.neD_ltup, DL.neD_lstr, DL.neD_ldct, DL.isNone, DL.isBD, DL.negD, DL.dChain, DL.inRgD, DL.gNm, DL.gTu, DL.gTuL, DL.gEnd, DL.gMore, DL.ascL, DL.sTry, DL.sTryC, DL.sApp, DL.sOwn, DL.fLst, DL.fDct, DL.fList, DL.fCat, DL.fSl, DL.dTr, DL.dTrT, DL.sFz, DL.sAug, DL.dAsk, DL.fnD, DL.startD, DL.restD, DL.inD', DL.startI, DL.sFldD, DL.putD, DL.EnD.noNx, DL.caughtR, DL.hideR, DL.hideS, DL.noOwnB, DL.Sl.isOwn, DL.Ow.toD, DL.D.flat, DL.dLc, DL.dTrue, DL.dBm, DL.splitD, DL.sortedD, DL.joinD, DL.dPop, DL.sRetP, DL.sSetP, DL.sAppP, DL.sPDF, DL.sPFD, DL.sPFF, DL.dSV, DL.kwD, DL.fillD, DL.dArg0, DL.dCm, DL.rmpD, DL.okR, DL.dDisp, DL.pairsD, DL.keyD, DL.lawEn, DL.lawRho, List.map_cons, List.map_nil, List.replicate_succ, List.replicate_zero, List.cons_append, List.nil_append, List.append_nil, List.set_cons_zero, List.set_cons_succ, List.getElem?_cons_zero, List.getElem?_cons_succ, List.length_cons, List.length_nil, List.length_append, List.take_zero, List.drop_zero, List.take_succ_cons, List.drop_succ_cons, List.lookup_cons, List.lookup_nil, List.contains_cons, List.contains_nil, List.all_cons, List.all_nil, Option.some.injEq, DL.Sl.d.injEq, DL.Sl.own.injEq, DL.D.int.injEq, DL.D.str.injEq, DL.D.bl.injEq, DL.D.lst.injEq, DL.D.tup.injEq, DL.D.ob.injEq, DL.Ow.lst.injEq, DL.Ow.dct.injEq, DL.Ow.ins.injEq, List.cons.injEq, DL.ex_cons, DL.ofS_beq, DL.ofS_inj, String.reduceBEq, String.reduceEq, exists_eq_left', exists_eq_left, exists_false, exists_eq_right, exists_eq_right', exists_and_left, exists_and_right, exists_eq', exists_eq, true_and, and_true, and_self, if_true, if_false, ite_true, ite_false, Bool.false_eq_true, Bool.true_eq_false, Bool.not_true, Bool.not_false, Bool.or_true, Bool.or_false, Bool.true_or, Bool.false_or, Bool.and_true, Bool.true_and, Bool.and_false, Bool.false_and, Bool.true_xor, Bool.false_xor, Option.map_some, Option.map_none, reduceCtorEq, not_false_eq_true, not_true_eq_false, ne_eq, implies_true, decide_true, decide_false, and_false, false_and, or_false, false_or, beq_self_eq_true, List.isEmpty_nil, List.isEmpty_cons, List.reverse_nil, List.reverse_cons, DL.D.isPy, DL.isPyL, DL.D.dep, DL.depL, DL.eqb_non_non, DL.eqb_non_bl, DL.eqb_non_int, DL.eqb_non_str, DL.eqb_non_tup, DL.eqb_non_lst, DL.eqb_non_dct, DL.eqb_bl_non, DL.eqb_bl_bl, DL.eqb_bl_int, DL.eqb_bl_str, DL.eqb_bl_tup, DL.eqb_bl_lst, DL.eqb_bl_dct, DL.eqb_int_non, DL.eqb_int_bl, DL.eqb_int_int, DL.eqb_int_str, DL.eqb_int_tup, DL.eqb_int_lst, DL.eqb_int_dct, DL.eqb_str_non, DL.eqb_str_bl, DL.eqb_str_int, DL.eqb_str_str, DL.eqb_str_tup, DL.eqb_str_lst, DL.eqb_str_dct, DL.eqb_tup_non, DL.eqb_tup_bl, DL.eqb_tup_int, DL.eqb_tup_str, DL.eqb_tup_tup, DL.eqb_tup_lst, DL.eqb_tup_dct, DL.eqb_lst_non, DL.eqb_lst_bl, DL.eqb_lst_int, DL.eqb_lst_str, DL.eqb_lst_tup, DL.eqb_lst_lst, DL.eqb_lst_dct, DL.eqb_dct_non, DL.eqb_dct_bl, DL.eqb_dct_int, DL.eqb_dct_str, DL.eqb_dct_tup, DL.eqb_dct_lst, DL.eqb_dct_dct, DL.eqbL_00, DL.eqbL_0c, DL.eqbL_c0, DL.eqbL_cc, Nat.zero_le, Nat.le_refl, Nat.max_self, Nat.max_zero, Nat.zero_max, Nat.zero_add, beq_iff_eq, decide_eq_true_eq])
theorem ward_str {a : List Str} (hl : wS a ≤ 1000) {n : Nat} {Φ : KD} {Ψ : XD} (h : Φ (.str (Txt.join (C1 44) a)) n) : φ_Ward_str [wardO a] n Φ Ψ := by
  unfold φ_Ward_str w_Ward_str wardO
  walk_at "dw"
  refine ⟨a, rfl, ?_, ?_⟩
  · have e : (Str.ofString ",").length = 1 := by decide +kernel
    rw [e]
    unfold wS at hl
    omega
  · rw [ofS_comma]
    exact h
theorem nm_free {a : List Str} (h : ∀ s ∈ a, s ∈ nine) : DL.PS 44 a := fun s hs => ⟨(nine_nm s (h s hs)).2, (nameB_ok (nine_nm s (h s hs)).1).1.2⟩
theorem nm_w {a : List Str} (x : Nm a) : wS a ≤ 63 := by
  have : ∀ ss : List Str, (∀ s ∈ ss, nameB s = true) → wS ss ≤ 9 * ss.length := by
    intro ss
    induction ss with
    | nil => intro _; simp [wS]
    | cons p r ih =>
      intro h
      have e : wS (p :: r) = wS [p] + wS r := wS_app [p] r
      have := ih fun s hs => h s (List.mem_cons_of_mem _ hs)
      have := (nameB_ok (h p List.mem_cons_self)).2.2
      rw [e, wS_one, List.length_cons]
      omega
  have := this a x.n
  have := x.l
  omega
theorem good_of {a : List Str} (x : Nm a) : goodP a = true := by
  unfold goodP
  rw [decide_eq_true x.l, decide_eq_true x.s, List.all_eq_true.mpr x.n]
  rfl
theorem law_ok : w_law lawEn (lawRho 9) 0 := by
  have big : 100000 ≤ sizeLine := by decide
  unfold w_law
  refine seq_ok fun k1 hk1 => ?_
  walk_at "dq"
  refine ⟨by decide, by decide, ?_⟩
  refine for_ok (fun i ρ n' => (∃ s2 s3 s4 s5 s6 s7 s8, ρ = [.un, .d .pen, s2, s3, s4, s5, s6, s7, s8]) ∧ n' ≤ i * 100) ⟨⟨_, _, _, _, _, _, _, rfl⟩, by decide⟩ (fun i d ρ n' nx hd ⟨⟨s2, s3, s4, s5, s6, s7, s8, hρ⟩, hn'⟩ hnx => ?_) fun ρ n' ⟨⟨s2, s3, s4, s5, s6, s7, s8, hρ⟩, hn'⟩ => ?_
  · subst hρ
    have hi : i < 10 := by
      have := (List.getElem?_eq_some_iff.mp hd).1
      simpa [rngD] using this
    refine seq_ok fun k2 hk2 => ?_
    walk_at "dq"
    refine corners_ok (by omega) fun a n1 x fr h1 => ?_
    have wa := nm_w x
    have ga := good_of x
    have fa := nm_free fr
    obtain ⟨pg, epg⟩ : ∃ pg, pg = Txt.join (C1 44) a := ⟨_, rfl⟩
    have hp : okT 44 63 7 pg := by
      rw [epg]
      exact (okT.of_join (by decide) (fun s hs => (fa s hs).1) (fun s hs => (fa s hs).2) wa).mono (Nat.le_refl _) x.l
    have sp : Txt.split pg (C1 44) = a := by
      rw [epg]
      exact split_of_join (fun s hs => (fa s hs).1) x.z
    subst hk2
    refine seq_ok fun k3 hk3 => ?_
    walk_at "dq"
    refine law_ward_ok x ?_
    have l1 : (Str.ofString ",").length = 1 := by decide +kernel
    refine ⟨a, rfl, by rw [l1]; unfold wS at wa; omega, ?_⟩
    rw [ofS_comma, ← epg]
    subst hk3
    refine seq_ok fun k4 hk4 => ?_
    have ea : wardO a = .ob "Ward" [("_corners", .tup (a.map D.str))] := rfl
    rw [ea]
    walk_at "dq"
    refine ward_str (a := a) (by omega) ?_
    rw [← epg]
    walk_at "dq"
    refine read_ok hp (by decide) (by decide) (fun _ => ?_) (fun q => by rw [sp, ga] at q; cases q)
    rw [sp, ea]
    walk_at "dq"
    refine eq_ward x.ok x.ok ?_
    rw [decide_eq_true rfl]
    walk_at "dq"
    refine right_ok hp (by decide) (by decide) ?_
    walk_at "dq"
    subst hk4
    refine seq_ok fun k5 hk5 => ?_
    walk_at "dq"
    refine ⟨by decide, by decide, ?_⟩
    refine for_ok (fun i2 ρ n' => (∃ s6 s7, ρ = [.un, .d .pen, .d d, .d (.lst (a.map D.str)), .d (.ob "Ward" [("_corners", .tup (a.map D.str))]), .d (.str pg), s6, s7, s8]) ∧ n' ≤ n1 + i2 * 10) ⟨⟨_, _, rfl⟩, by omega⟩ (fun i2 d2 ρ n2 nx2 hd2 ⟨⟨s6, s7, hρ⟩, hn2⟩ hnx2 => ?_) fun ρ n2 ⟨⟨s6, s7, hρ⟩, hn2⟩ => ?_
    · subst hρ
      have hi2 : i2 < 4 := by
        have := (List.getElem?_eq_some_iff.mp hd2).1
        simpa [rngD] using this
      refine seq_ok fun k6 hk6 => ?_
      walk_at "dq"
      refine bent_ok hp (by decide) (by decide) (by omega) fun y n3 hy h3 => ?_
      subst hk6
      walk_at "dq"
      refine right_ok hy (by decide) (by decide) ?_
      walk_at "dq"
      refine bent_ok hy (by decide) (by decide) (by omega) fun z n4 hz h4 => ?_
      refine right_ok hz (by decide) (by decide) ?_
      walk_at "dq"
      exact hnx2 _ _ ⟨⟨_, _, rfl⟩, by omega⟩
    · subst hρ
      simp only [rngD, List.length_map, List.length_range, Int.reduceToNat] at hn2
      subst hk5
      refine seq_ok fun k6 hk6 => ?_
      walk_at "dq"
      subst hk6
      refine seq_ok fun k7 hk7 => ?_
      walk_at "dq"
      refine ⟨by omega, pick_law (by simp) (by simp) (by omega) fun y hy => ?_⟩
      have gy : pl y = true ∧ ∀ x, y ≠ .str x := by
        simp only [List.mem_cons, List.not_mem_nil, or_false] at hy
        rcases hy with rfl | rfl | rfl | rfl | rfl | rfl | rfl | rfl <;> exact ⟨rfl, by intro c z; cases z⟩
      subst hk7
      walk_at "dq"
      refine heard_odd gy.1 gy.2 (fun n Φ Ψ q => by walk_at "dw"; exact q) ?_
      walk_at "dq"
      refine ⟨by omega, by decide +kernel, by decide +kernel, by decide, by decide, ?_⟩
      exact hnx _ _ ⟨⟨_, _, _, _, _, _, _, rfl⟩, by omega⟩
  · subst hρ
    subst hk1
    walk_at "dw"
    have fin : ∀ s ∈ ([("" : Str), ",", "a,", ",a", "a,b,c,d,e,f,g,h", "a,b,c,d,e,f,g", "a, b"] : List Str), okT 44 20 20 s := by
      have h : ∀ s ∈ ([("" : Str), ",", "a,", ",a", "a,b,c,d,e,f,g,h", "a,b,c,d,e,f,g", "a, b"] : List Str), s.length ≤ 20 ∧ (∀ d ∈ s.cps.toList, d < 128) ∧ s.cps.toList.count 44 ≤ 20 := by decide +kernel
      intro s hs
      obtain ⟨a, b, c⟩ := h s hs
      exact ⟨a, b, c⟩
    refine ⟨by omega, DL.comp_filter (xs := ([("" : Str), ",", "a,", ",a", "a,b,c,d,e,f,g,h", "a,b,c,d,e,f,g", "a, b"] : List Str)) D.str (fun _ => false) D.str (fun s hs n Φ' h => ?_) (fun s hs q n Φ' h => by cases q) (by simp; omega) ?_⟩
    · walk_at "dw"
      refine right_ok (fin s hs) (by decide) (by decide) ?_
      walk_at "dw"
      exact h
    · simp
end K15
namespace K15
open PySem PySem.Spec PyProof.Rows L2 Hx
theorem run (w : World) : HandSHeadRun.RunEq R (PySem.W.view R.prog [35]) hk ob 20000 loose w := by
  intro os
  kernel_rfl
end K15
/-! the law's call and the walk, where no repr is under way and the tables of code objects are known (after LamX's, which speak of FnOk) -/
namespace KX
open PySem PySem.Spec PyProof.Rows L2 LamX
theorem lawcall_G {P : Program} {w : World} {K : PySem.W.Frag} {mg mb : Str → Option Value} {CX : CXT} {k : Nat} {fa a : Addr} {cs : List (Addr × Addr)} {fd : FuncData} {x : Str} {sp : Sp} {s₁ : Shared} {vs : List Value} {ns : List Int}
    (KX : K.In s₁.heap) (gl0 : s₁.heap.Ns mainGlobals mg) (hb : s₁.heap.Ns builtinsNs mb) (bb0 : ∀ x : Str, x ≠ "__name__" → mb x = bootBuiltins x) (li0 : s₁.heap.NoLimit) (ge0 : s₁.gens = #[])
    (ta0 : ∀ p ∈ cs, s₁.heap.get? p.2 = some { cls := .none, data := .fields #[] }) (nt0 : ∀ p ∈ cs, K.lookup p.2 = none) (C : ∀ p ∈ cs, PySem.W.CodeHd s₁.heap p.1 p.2)
    (bm0 : ∃ (bm : Addr) (ob : Obj), mg "__builtins__" = some (.ref bm) ∧ bm ≠ builtinsNs ∧ s₁.heap.get? bm = some ob ∧ ob.cls = .type "module" ∧ ob.dict = some builtinsNs ∧ ob.data = .plain)
    (ha : s₁.heap.get? a = some { cls := .type "list", data := .seq vs.toArray }) (hi : IntsAre vs ns) (hl : ns.length ≤ sizeLine) (hr : Room k callerA)
    (F : ∀ base : Heap, K.In base → base.Ns mainGlobals mg → (∀ p ∈ cs, TabB base mg p.1 p.2) → Gx.FnG P w K mg base CX k fa fd [x] sp) (bi0 : ∀ (s : Shared) (u : Value), BindsTo s fd ⟨[u], []⟩ [(x, u)])
    (sp0 : ∀ H : Hp, (∀ p ∈ cs, H p.2 = some (.tbl #[])) → SqL K H a (ns.map V.int) → sp [.ref a] H (fun v _ => v = .bl true) fun _ _ _ => False)
    (cx0 : ∀ H e s', CX [] H s₁ (fun _ _ _ => False) e s' → False) :
    codeAny (model P w) callerA (.call (.ref fa) ⟨[.ref a], []⟩) (fun r s' => r = .ok (.ret (.bool true)) ∧ OldK s₁.heap s'.heap ∧ s'.os = s₁.os ∧ AllBare s'.gens) s₁ := by
  have vv := vals_ints hi
  have len0 := hi.length
  have atT : ∀ b : Addr, b ∈ cs.map (·.2) → s₁.heap.get? b = some { cls := .none, data := .fields #[] } := fun b hb => by
    obtain ⟨p, hp, e⟩ := List.mem_map.mp hb
    rw [← e]
    exact ta0 p hp
  have offT : a ∉ cs.map (·.2) := fun z => by
    have q := atT a z
    rw [ha] at q
    have z' : Data.seq vs.toArray _ = Data.fields #[] := congrArg Obj.data (Option.some.inj q)
    cases z'
  have inT : ∀ p ∈ cs, p.2 ∈ cs.map (·.2) := fun p hp => List.mem_map.mpr ⟨p, hp, rfl⟩
  have main_ : ∀ H : Hp, (∀ p ∈ cs, H p.2 = some (.tbl #[])) → (∀ b, H b = none ∨ b ∈ cs.map (·.2) ∨ ∃ o xs, H b = some (.frz o (.lst xs))) → SqL K H a (ns.map V.int) → HOk P w H s₁.heap → (∀ b, H b ≠ none → b = a ∨ b ∈ cs.map (·.2)) → (H a ≠ none → K.lookup a = none) →
      codeAny (model P w) callerA (.call (.ref fa) ⟨[.ref a], []⟩) (fun r s' => r = .ok (.ret (.bool true)) ∧ OldK s₁.heap s'.heap ∧ s'.os = s₁.os ∧ AllBare s'.gens) s₁ := by
    intro H tb0 on0 sq0 ok0 al0 ko0
    have toBase : ∀ {b : Addr} {o : Obj}, s₁.heap.get? b = some o → H b = none → (hidT s₁.heap H).get? b = some o := fun e n => hidT_get e n
    have free0 : ∀ {b : Addr} {o : Obj}, s₁.heap.get? b = some o → (∀ vs n, o.data ≠ .seq vs n) → o.data ≠ .fields #[] → H b = none := fun {b o} e h1 h2 => by
      cases q : H b with
      | none => rfl
      | some u =>
        rcases al0 b (by rw [q]; simp) with e' | e'
        · rw [e', ha] at e
          cases e
          exact (h1 _ _ rfl).elim
        · rw [atT b e'] at e
          cases e
          exact (h2 rfl).elim
    have freeD : ∀ {b : Addr} {o : Obj} {es : Array DictEntry} {ep : Nat}, s₁.heap.get? b = some o → o.data = .dict es ep → H b = none := fun {b o es ep} e d => by
      refine free0 e (fun vs n z => ?_) fun z => ?_
      · rw [d] at z
        cases z
      · rw [d] at z
        cases z
    have nsB : ∀ {b : Addr} {m : Str → Option Value}, s₁.heap.Ns b m → (hidT s₁.heap H).Ns b m := fun {b m} ⟨o, es, ep, e, d, r⟩ => ⟨o, es, ep, toBase e (freeD e d), d, r⟩
    have kb0 : K.In (hidT s₁.heap H) := fun b o e => toBase (KX b o e) (by
      cases q : H b with
      | none => rfl
      | some u =>
        rcases al0 b (by rw [q]; simp) with e' | e'
        · rw [e'] at e q
          rw [ko0 (by rw [q]; simp)] at e
          cases e
        · obtain ⟨p, hp, ep⟩ := List.mem_map.mp e'
          rw [← ep, nt0 p hp] at e
          cases e)
    have md0 : L2.Mod K mg (hidT s₁.heap H) := ⟨kb0, nsB gl0, ⟨mb, nsB hb, bb0⟩, let ⟨mc, h1, h2⟩ := li0; ⟨mc, nsB h1, h2⟩⟩
    have tbs : ∀ p ∈ cs, TabB (hidT s₁.heap H) mg p.1 p.2 := fun p hp => by
      have tp0 := ta0 p hp
      refine ⟨?_, ?_, fun z => ?_⟩
      · obtain ⟨o, us, file, tf, flags, tg, inF, text, tt, e1, r1, r2, r3, r4, r5, r6, r7, r8, hne⟩ := C p hp
        refine ⟨o, us, file, tf, flags, tg, inF, text, tt, toBase e1 (free0 e1 (fun vs n z => ?_) fun z => ?_), r1, r2, r3, r4, r5, r6, r7, r8, hne⟩
        · rw [r2] at z
          cases z
        · rw [r2] at z
          cases z
          simp at r3
      · obtain ⟨bm, ob, b1, b2, b3, b4, b5, b6⟩ := bm0
        have ng0 : bm ≠ mainGlobals := fun q => by
          obtain ⟨o, es, ep, e, hd, _⟩ := gl0
          rw [q, e] at b3
          cases b3
          rw [hd] at b6
          cases b6
        have np0 : bm ≠ p.2 := fun q => by
          rw [q, tp0] at b3
          cases b3
          cases b6
        refine ⟨bm, ob, b1, b2, ng0, np0, toBase b3 (free0 b3 (fun vs n z => ?_) fun z => ?_), b4, b5, b6⟩
        · rw [b6] at z
          cases z
        · rw [b6] at z
          cases z
      · obtain ⟨o, es, ep, e, hd, _⟩ := gl0
        rw [z, tp0] at e
        cases e
        cases hd
    have en0 : Env0 P w K mg (hidT s₁.heap H) callerA [] s₁ H := ⟨rfl, md0, fun b o e => of_hidT e, Nat.le_of_eq (hidT_size _ _), trivial, fun b hb => absurd (show b ∈ ([] : List Addr) from hb) (by simp), ok0, .of_eq ge0⟩
    refine codeAny_mono ((F _ kb0 (nsB gl0) tbs).run callerA [] s₁ H ⟨[.ref a], []⟩ [.ref a] [.ref a] _ _ rfl hr en0 (bi0 s₁ (.ref a)) (.cons rfl .nil) (sp0 H tb0 sq0)) fun r s' h => ?_
    cases r with
    | error e => exact (cx0 H e s' h).elim
    | ok fl =>
      cases fl with
      | next => exact False.elim h
      | brk => exact False.elim h
      | cont => exact False.elim h
      | ret u =>
        obtain ⟨v, H', os, bare, un, hok', r', q⟩ := h
        have q' : v = .bl true := q
        subst q'
        obtain rfl : u = Value.bool true := r'
        have same0 : ∀ b o, b ∉ cs.map (·.2) → s₁.heap.get? b = some o → s'.heap.get? b = some o := fun b o nb e => by
          cases q : H b with
          | none => exact un.keep b o e q (by intro z; exact absurd (show b ∈ ([] : List Addr) from z) (by simp)) (by simp)
          | some u =>
            rcases on0 b with z | z | ⟨ob, xs, z⟩
            · rw [q] at z; cases z
            · exact absurd z nb
            · have z2 := un.frzs b ob _ z
              obtain ⟨e1, _⟩ := ok0 b _ z
              obtain ⟨e2, _⟩ := hok' b _ z2
              rw [e] at e1; cases e1
              exact e2
        have more0 : ∀ p ∈ cs, ∃ more : Array Value, s'.heap.get? p.2 = some { cls := .none, data := .fields more } := fun p hp => by
          obtain ⟨more, z⟩ := un.tbls p.2 #[] (tb0 p hp)
          exact ⟨_, hok' p.2 _ z⟩
        refine ⟨rfl, ⟨fun b o e => ?_, fun b o e => ?_⟩, os, bare⟩
        · by_cases hb : b ∈ cs.map (·.2)
          · obtain ⟨p, hp, ep⟩ := List.mem_map.mp hb
            obtain ⟨more, hm⟩ := more0 p hp
            rw [← ep] at e ⊢
            rw [ta0 p hp] at e
            cases e
            exact .inr (.inl ⟨((C p hp).tab (ta0 p hp)).isCodeTable, rfl, #[], more, rfl, by rw [Array.empty_append]; exact hm⟩)
          · exact .inl (same0 b o hb e)
        · by_cases hb : b ∈ cs.map (·.2)
          · obtain ⟨p, hp, ep⟩ := List.mem_map.mp hb
            obtain ⟨more, hm⟩ := more0 p hp
            rw [← ep]
            exact ⟨_, hm⟩
          · exact ⟨o, same0 b o hb e⟩
  cases hk : K.lookup a with
  | some o =>
    have e := KX a o hk
    rw [ha] at e
    cases e
    refine main_ (fun b => if b ∈ cs.map (·.2) then some (.tbl #[]) else none) (fun p hp => if_pos (inT p hp)) (fun b => ?_) (.inr ⟨_, vs.toArray, _, hk, rfl, rfl, rfl, by rw [List.size_toArray, len0]; exact hl, by simpa using vv⟩) (fun b u z => ?_) (fun b z => ?_) fun z => absurd (show (if a ∈ cs.map (·.2) then some (HO.tbl #[]) else none) = none from if_neg offT) z
    · by_cases hb : b ∈ cs.map (·.2)
      · exact .inr (.inl hb)
      · exact .inl (if_neg hb)
    · by_cases hb : b ∈ cs.map (·.2)
      · have z' := (if_pos hb).symm.trans z
        cases z'
        exact atT b hb
      · have z' := (if_neg hb).symm.trans z
        cases z'
    · by_cases hb : b ∈ cs.map (·.2)
      · exact .inr hb
      · exact absurd (if_neg hb) z
  | none =>
    refine main_ (fun b => if b = a then some (.frz { cls := .type "list", data := .seq vs.toArray } (.lst (ns.map V.int))) else if b ∈ cs.map (·.2) then some (.tbl #[]) else none) (fun p hp => (if_neg (show ¬ p.2 = a from fun z => offT (by rw [← z]; exact inT p hp))).trans (if_pos (inT p hp))) (fun b => ?_)
      (.inl (.inr ⟨{ cls := .type "list", data := .seq vs.toArray }, if_pos rfl⟩)) (fun b u z => ?_) (fun b z => ?_) fun _ => hk
    · by_cases hb : b = a
      · exact .inr (.inr ⟨_, _, if_pos hb⟩)
      · by_cases hb2 : b ∈ cs.map (·.2)
        · exact .inr (.inl hb2)
        · exact .inl ((if_neg hb).trans (if_neg hb2))
    · by_cases hb : b = a
      · have z' := (if_pos hb).symm.trans z
        cases z'
        rw [hb]
        exact ⟨ha, by rw [List.length_map]; exact hl, vs, _, vv, ha⟩
      · have z1 := (if_neg hb).symm.trans z
        by_cases hb2 : b ∈ cs.map (·.2)
        · have z' := (if_pos hb2).symm.trans z1
          cases z'
          exact atT b hb2
        · have z' := (if_neg hb2).symm.trans z1
          cases z'
    · by_cases hb : b = a
      · exact .inl hb
      · by_cases hb2 : b ∈ cs.map (·.2)
        · exact .inr hb2
        · exact absurd ((if_neg hb).trans (if_neg hb2)) z
def LawAtG (l : PySem.W.OpenLaw) (w : World) (K : PySem.W.Frag) (CX : CXT) (k n : Nat) (x : Str) (mg : Str → Option Value) (fa : Addr) (h : Heap) : Prop :=
  ∃ (fd : FuncData) (cs : List (Addr × Addr)) (sp : Sp), (∀ p ∈ cs, h.get? p.2 = some { cls := .none, data := .fields #[] }) ∧ (∀ p ∈ cs, K.lookup p.2 = none) ∧ (∀ p ∈ cs, PySem.W.CodeHd h p.1 p.2) ∧ (∀ (s : Shared) (u : Value), BindsTo s fd ⟨[u], []⟩ [(x, u)]) ∧
    (∀ (H : Hp) (a : Addr) (ns : List Int), ns.length ≤ n → (∀ z ∈ ns, Builtin.Int.intBits z ≤ 1048576) → (∀ p ∈ cs, H p.2 = some (.tbl #[])) → SqL K H a (ns.map V.int) → sp [.ref a] H (fun v _ => v = .bl true) fun _ _ _ => False) ∧
    ∀ base : Heap, K.In base → base.Ns mainGlobals mg → (∀ p ∈ cs, TabB base mg p.1 p.2) → Gx.FnG l.prog w K mg base CX k fa fd [x] sp
theorem walk_tG {l : PySem.W.OpenLaw} {n k : Nat} {q : Program} {loose : List Str} {XP : (Str → Option Value) → Heap → Prop} {YP : World → Heap → Prop} {d : DefRec} {CX : World → CXT} {x : Str}
    (ln1 : l.most = some n) (ln2 : n ≤ sizeLine) (df0 : d.params.defaults = []) (hr : Room k callerA)
    (F : ∀ (w : World) (mg : Str → Option Value) (fa : Addr) (h : Heap), YP w h → h.Ns mainGlobals mg → mg d.name = some (.ref fa) → ∃ K : PySem.W.Frag, K.In h ∧ LawAtG l w K (CX w) k n x mg fa h)
    (cx0 : ∀ (w : World) (H : Hp) (s : Shared) (e : Value) (s' : Shared), CX w [] H s (fun _ _ _ => False) e s' → False) :
    PySem.W.WalkO q loose XP YP l.row.toRowW d [] (fun f vs => PySem.call f vs) := by
  refine Att.attach_callB ln1 df0 fun w s₀ s₁ mg mb fa o pm cd doc a vs ns G Y ho hd hcd hmg hobj hints hlen hbits ge0 => ?_
  obtain ⟨K, KX, fd, cs, sp, ta0, nt0, C, hb, sp0, hF⟩ := F w mg fa _ Y G.T.g hmg
  exact lawcall_G KX G.T.g G.T.b G.T.builtins G.T.nolimit ge0 ta0 nt0 C G.T.bmain hobj hints (Nat.le_trans hlen ln2) hr hF hb (fun H tb0 sq0 => sp0 H a ns hlen hbits tb0 sq0) fun H e s' => cx0 w H s₁ e s'
end KX
namespace K15
open PySem PySem.Spec PyProof.Rows L2 Hx Gx KX LamX DL
def spLawD' (K : PySem.W.Frag) : Sp := spLawD K (tsK K)
theorem fd_one {K : PySem.W.Frag} {d : Dx} {f g : FuncData} (F : Fd K d f) (G : Fd K d g) : f = g := by
  obtain ⟨oc, od, dV, kV, doc, pm, an, cdv, ct, osl, _, h, _⟩ := F.ex
  obtain ⟨oc2, od2, dV2, kV2, doc2, pm2, an2, cdv2, ct2, osl2, _, h2, _⟩ := G.ex
  have e := h.symm.trans h2
  simp only [Option.some.injEq, Obj.mk.injEq, Data.func.injEq] at e
  exact e.2.2.1
end K15
open PySem PySem.W PySem.Calls PyProof.Rows
set_option maxRecDepth 100000 in
set_option maxHeartbeats 8000000 in
theorem PySem.Challenge.cw_signtown_k15_wards_written_and_read_holds : PySem.Challenge.rw_signtown_k15_wards_written_and_read.Holds := by
  w_on; o_law
  refine HandSHeadRun.head_any (r := OpenLaw.row PySem.Challenge.rw_signtown_k15_wards_written_and_read) (q := view (OpenLaw.row PySem.Challenge.rw_signtown_k15_wards_written_and_read).prog [35]) (H := K15.hk) (ob := K15.ob) (M := 20000) (loose := K15.loose)
    (d := HandSHeadRun.topDef (OpenLaw.row PySem.Challenge.rw_signtown_k15_wards_written_and_read).prog 35) (kwd := []) K15.ob_eq
    (by kernel_rfl) (fun s => by kernel_rfl) K15.run (by kernel_rfl) (by kernel_rfl) (by kernel_rfl) (by rfl)
    (by first | assumption | decide +kernel) (by decide +kernel) ⟨rfl, rfl, rfl, rfl, rfl, by decide +kernel⟩ ?hw ?hc
  case hw => w_witness2
  case hc =>
    refine KX.walk_tG (l := PySem.Challenge.rw_signtown_k15_wards_written_and_read) (n := 63) (k := 12) (x := "_law_script") (CX := fun w => L2.CX (PySem.Challenge.rw_signtown_k15_wards_written_and_read).prog w) rfl (by decide) (by kernel_rfl) ⟨rfl, by decide, by decide⟩ ?F (fun _ _ _ _ _ z => by
      obtain ⟨_, _, _, _, _, _, _, _, _, _, _, _, z⟩ := z
      exact z)
    intro w mg fa h Y G hmg0
    obtain ⟨K, KX, c, tabs⟩ := Y
    have T : K15.Tx K mg := ⟨h, KX, G, c⟩
    have hmg : mg ("law" : PySem.Str) = some (.ref fa) := by
      have e : (HandSHeadRun.topDef (OpenLaw.row PySem.Challenge.rw_signtown_k15_wards_written_and_read).prog 35).name = ("law" : PySem.Str) := by kernel_rfl
      rw [← e]
      exact hmg0
    have e := hmg.symm.trans (K15.g_law T)
    cases e
    obtain ⟨fd0, F0⟩ := K15.f_law T
    have b := L2.FunD.bindsA (ps := ["_law_script"]) F0 fun _ _ _ _ _ _ us hl => match us, hl with | [_], _ => rfl
    have all : ∀ p ∈ ([He.cT K (("_law_right" : PySem.Str), none), He.cT K (("law" : PySem.Str), none)] : List (PySem.Addr × PySem.Addr)), ∃ q ∈ K15.tfs, p = He.cT K q := fun p hp => by
      simp only [List.mem_cons, List.not_mem_nil, or_false] at hp
      rcases hp with rfl | rfl
      · exact ⟨("_law_right", none), by simp [K15.tfs], rfl⟩
      · exact ⟨("law", none), by simp [K15.tfs], rfl⟩
    refine ⟨K, KX, fd0, [He.cT K (("_law_right" : PySem.Str), none), He.cT K (("law" : PySem.Str), none)], K15.spLawD' K, fun p hp => ?_, fun p hp => ?_, fun p hp => ?_, fun s v => b s [v] rfl,
      fun H a ns hl _ ht hS => ⟨a, ns, rfl, hS, hl, fun p hp => ?_, fun _ => rfl⟩, fun base _ _ tb => ?_⟩
    · obtain ⟨q, hq, rfl⟩ := all p hp
      exact (tabs q hq).2.2
    · obtain ⟨q, hq, rfl⟩ := all p hp
      exact (tabs q hq).2.1
    · obtain ⟨q, hq, rfl⟩ := all p hp
      exact codeHd_of_K KX (tabs q hq).1
    · simp only [K15.tsK, List.mem_cons, List.not_mem_nil, or_false] at hp
      rcases hp with rfl | rfl <;> exact LamX.TabS.nil (ht _ (by simp))
    · obtain ⟨fd, F, Gf⟩ := K15.p_law (P := (PySem.Challenge.rw_signtown_k15_wards_written_and_read).prog) (w := w) (base := base) T (fun p hp => tb p hp) K15.law_ok
      have e : fd = fd0 := K15.fd_one F F0
      rw [← e]
      exact Gf
