import PyProof.Rows.All
import Wide.All
import OpenK.AllK
import Wide.FinOn
import KE.KStateDown
import HandS.Head0
import HandS.Head1
import HandS.Head2
import HandS.HeadHook1
import HandS.HeadHook2
import HandS.HeadHook3
import KE.KIsAll
import HandS.Words
import HandS.ClsMeth
import HandS.ForMost
import HandS.IsInst
import HandS.Flow
import HandS.Wide
import HandS.Defaults
import HandS.Codes
import HandS.Bytes
import HandS.StrMore
import HandS.Walk
import HandS.More
import HandS.Conv
import HandS.Style
import HandS.FStr
import HandS.Star
import HandS.MakeKwOnly
import HandS.BytesMake
import KE.KBytesNew
import KE.KStrBytes
import KE.KxField
import PyProof.FString3
import HandS.MapSum
import KE.BytesMulAny
import PyProof.Rows.SumAny
import PyProof.ListStr
import Wide.BytesRules
import PyProof.CallFns
import HandS.RaiseMore
import PyProof.ReprNest
import PyProof.ReprUnder
import KE.KxDecode
import HandS.IntHex
import KE.KBytesIn
import HandS.Dict
import KE.KDictCopyH
import KE.KStar
import HandS.OwnEq
import HandS.SlotsOwn
import PyProof.NeKinds
import HandS.SortInts
import HandS.HeadEnd
import HandS.Property
import KE.IntTextLaws
import PySem.Challenge.RW_tarhouse_k40_archives_edited
set_option Elab.async false
set_option linter.all false
set_option maxRecDepth 100000
set_option maxHeartbeats 8000000
/-! the head by one kernel run, with facts told by Bools over the part that the names reach -/
namespace Hk
open PySem PySem.Spec PyProof.Rows L2
open He (ga ma eqO relB FnV)
/-! ### the whole heap as a list, the newest first, its spine forced -/
def frU {β : Type} (g : Addr → Option Obj) : Nat → Nat → List (Addr × Obj) → (List (Addr × Obj) → β) → β
  | 0, _, acc, k => k acc
  | m + 1, i, acc, k => match g i with
    | some o => HandSHeadRun.frNat (i + 1) fun j => frU g m j ((i, o) :: acc) k
    | none => HandSHeadRun.frNat (i + 1) fun j => frU g m j acc k
/-- the same, not forced -/
def allU (g : Addr → Option Obj) : Nat → Nat → List (Addr × Obj) → List (Addr × Obj)
  | 0, _, acc => acc
  | m + 1, i, acc => match g i with
    | some o => allU g m (i + 1) ((i, o) :: acc)
    | none => allU g m (i + 1) acc
theorem frU_eq {β : Type} {g : Addr → Option Obj} {k : List (Addr × Obj) → β} : ∀ {m i : Nat} {acc : List (Addr × Obj)}, frU g m i acc k = k (allU g m i acc)
  | 0, _, _ => rfl
  | m + 1, i, acc => by
    unfold frU allU
    cases g i with
    | some o =>
      show HandSHeadRun.frNat (i + 1) (fun j => frU g m j ((i, o) :: acc) k) = _
      rw [HandSHeadRun.frNat_eq]
      exact frU_eq
    | none =>
      show HandSHeadRun.frNat (i + 1) (fun j => frU g m j acc k) = _
      rw [HandSHeadRun.frNat_eq]
      exact frU_eq
theorem lookup_at {a : Addr} {o : Obj} : ∀ {l : List (Addr × Obj)}, l.lookup a = some o → (a, o) ∈ l
  | [], h => by cases h
  | (b, u) :: r, h => by
    have e2 : (match a == b with | true => some u | false => r.lookup a) = some o := h
    cases q : (a == b) with
    | true =>
      rw [q] at e2
      have eo : u = o := Option.some.inj e2
      rw [beq_iff_eq.mp q, eo]
      exact .head _
    | false =>
      rw [q] at e2
      exact .tail _ (lookup_at e2)
theorem allU_mem {g : Addr → Option Obj} : ∀ {m i : Nat} {acc : List (Addr × Obj)}, (∀ p ∈ acc, g p.1 = some p.2) → ∀ p ∈ allU g m i acc, g p.1 = some p.2
  | 0, _, _, h => h
  | m + 1, i, acc, h => by
    unfold allU
    cases e : g i with
    | some o =>
      refine allU_mem (acc := (i, o) :: acc) fun p hp => ?_
      cases hp with
      | head => exact e
      | tail _ q => exact h p q
    | none => exact allU_mem h
theorem allU_in {h : Heap} {m : Nat} : (show PySem.W.Frag from allU h.get? m 0 []).In h := fun a o e => allU_mem (g := h.get?) (acc := []) (fun _ z => by cases z) (a, o) (lookup_at e)
/-! ### defs -/
structure FnP where
  at_ : PySem.W.Frag → Addr
  name : Str
  qual : Str
  st : Stmt
def fnV (K : PySem.W.Frag) (a : Addr) : FnV := match K.lookup a with
  | some ⟨_, _, .func fd, _⟩ => some (fd.name, fd.qualname, fd.params, fd.body, fd.scope, fd.globals, fd.closure, fd.defaults, fd.builtins)
  | _ => none
def FnP.val (d : FnP) : FnV := some (d.name, d.qual, defArgs d.st, .stmts (defBody d.st), defScope d.st, mainGlobals, [], .none, builtinsNs)
def FnP.ok (d : FnP) (K : PySem.W.Frag) : Bool := PySem.W.keepIn K (.ref (d.at_ K)) && (match K.lookup (d.at_ K) with
  | some ⟨_, _, .func fd, _⟩ => PySem.W.codeIn K fd.code d.qual
  | _ => false)
/-- a def's object, as the head leaves it -/
def FnAt (K : PySem.W.Frag) (x q : Str) (st : Stmt) (f : Addr) : Prop := ∃ (oc : Value) (od an : Option Addr) (kV doc pm cdv ct : Value) (osl : Array (Option Value)), K.lookup f = some ⟨oc, od, .func (PySem.W.fnOf x q (defArgs st) (defBody st) (defScope st) .none kV doc pm an cdv ct), osl⟩ ∧ PySem.W.codeIn K cdv q = true
theorem fn_ok {K : PySem.W.Frag} {d : FnP} (e : fnV K (d.at_ K) = d.val) (c : d.ok K = true) : FnAt K d.name d.qual d.st (d.at_ K) ∧ PySem.W.keepIn K (.ref (d.at_ K)) = true := by
  obtain ⟨kp, c2⟩ := He.ba c
  refine ⟨?_, kp⟩
  unfold fnV at e
  cases q : K.lookup (d.at_ K) with
  | none =>
    rw [q] at c2
    cases c2
  | some o =>
    obtain ⟨oc, od, dt, osl⟩ := o
    rw [q] at c2 e
    cases dt with
    | func fd =>
      obtain ⟨n1, n2, n3, n4, n5, n6, n7, n8, n9, n10, n11, n12, n13, n14, n15⟩ := fd
      have e2 : (some (n1, n2, n3, n4, n5, n6, n7, n8, n15) : FnV) = some (d.name, d.qual, defArgs d.st, .stmts (defBody d.st), defScope d.st, mainGlobals, [], .none, builtinsNs) := e
      simp only [Option.some.injEq, Prod.mk.injEq] at e2
      obtain ⟨h1, h2, h3, h4, h5, h6, h7, h8, h9⟩ := e2
      subst h1 h2 h3 h4 h5 h6 h7 h8 h9
      exact ⟨oc, od, n12, n9, n10, n11, n13, n14, osl, q, c2⟩
    | _ => cases c2
/-- a def's object's keyword defaults: where they stand -/
def kwAt (K : PySem.W.Frag) (f : Addr) : Option Addr := match K.lookup f with
  | some ⟨_, _, .func fd, _⟩ => (match fd.kwdefaults with
    | .ref D => some D
    | _ => none)
  | _ => none
theorem kwAt_ok {K : PySem.W.Frag} {f D : Addr} {oc : Value} {od : Option Addr} {osl : Array (Option Value)} {x q : Str} {p : Arguments} {b : List Stmt} {sc : Scope} {dV kV doc pm : Value} {an : Option Addr} {cdv ct : Value} (l : K.lookup f = some ⟨oc, od, .func (PySem.W.fnOf x q p b sc dV kV doc pm an cdv ct), osl⟩)
    (h : kwAt K f = some D) : kV = .ref D := by
  unfold kwAt at h
  rw [l] at h
  cases kV with
  | ref E =>
    have e : some E = some D := h
    rw [Option.some.inj e]
  | _ => cases h
/-! ### values of names -/
def nsV (K : PySem.W.Frag) (a : Addr) (x : Str) (v : V) : Bool := match PySem.W.nsIn K a x with
  | some (some u) => relB v u
  | _ => false
theorem nsV_ok {K : PySem.W.Frag} {a : Addr} {x : Str} {v : V} (h : nsV K a x v = true) : ∃ u, PySem.W.nsIn K a x = some (some u) ∧ RelV v u := by
  unfold nsV at h
  cases e : PySem.W.nsIn K a x with
  | none =>
    rw [e] at h
    cases h
  | some o =>
    rw [e] at h
    cases o with
    | none => cases h
    | some u => exact ⟨u, rfl, He.relB_ok h⟩
theorem nsI {K : PySem.W.Frag} {a : Addr} {x : Str} {i : Int} (h : nsV K a x (.int i) = true) : ∃ t, PySem.W.nsIn K a x = some (some (.int i t)) := by
  obtain ⟨u, e, t, rfl⟩ := nsV_ok h
  exact ⟨t, e⟩
theorem nsS {K : PySem.W.Frag} {a : Addr} {x : Str} {i : Str} (h : nsV K a x (.str i) = true) : ∃ t, PySem.W.nsIn K a x = some (some (.str i t)) := by
  obtain ⟨u, e, t, rfl⟩ := nsV_ok h
  exact ⟨t, e⟩
theorem nsB {K : PySem.W.Frag} {a : Addr} {x : Str} {i : Array UInt8} (h : nsV K a x (.byt i) = true) : ∃ t, PySem.W.nsIn K a x = some (some (.bytes i t)) := by
  obtain ⟨u, e, t, rfl⟩ := nsV_ok h
  exact ⟨t, e⟩
/-- the module's name x stands for an object -/
def refV (x : Str) (K : PySem.W.Frag) : Bool := eqO (PySem.W.nsIn K mainGlobals x) (some (some (.ref (ga K x))))
def freeV (x : Str) (K : PySem.W.Frag) : Bool := eqO (PySem.W.nsIn K mainGlobals x) (some none)
/-! ### keyword defaults of a def -/
def kwsV (K : PySem.W.Frag) (f : Addr) (l : List (Str × V)) : Bool := match kwAt K f with
  | some D => l.all fun q => nsV K D q.1 q.2
  | none => false
theorem kwsV_ok {K : PySem.W.Frag} {f : Addr} {l : List (Str × V)} (h : kwsV K f l = true) : ∃ D, kwAt K f = some D ∧ ∀ q ∈ l, nsV K D q.1 q.2 = true := by
  unfold kwsV at h
  cases e : kwAt K f with
  | none =>
    rw [e] at h
    cases h
  | some D =>
    rw [e] at h
    exact ⟨D, rfl, fun q hq => List.all_eq_true.mp h q hq⟩
/-! ### classes -/
/-- what every class of instances with a dict says -/
def clsB (K : PySem.W.Frag) (C : Addr) : Bool := PySem.W.plainGet K C Str.empty && (PySem.W.hasDictIn K C && (PySem.W.plainOver K C && eqO (PySem.W.findIn K (.ref C) "__setattr__") (some (some (.builtin "object.__setattr__")))))
theorem clsB_ok {K : PySem.W.Frag} {C : Addr} (c : clsB K C = true) : Cls K C := by
  obtain ⟨c1, c⟩ := He.ba c
  obtain ⟨c2, c⟩ := He.ba c
  obtain ⟨c3, c4⟩ := He.ba c
  exact ⟨c1, c2, c3, He.eqO_ok c4⟩
def noB (K : PySem.W.Frag) (C : Addr) (l : List Str) : Bool := l.all fun f => eqO (PySem.W.findIn K (.ref C) f) (some none)
theorem noB_ok {K : PySem.W.Frag} {C : Addr} {l : List Str} (c : noB K C l = true) : ∀ f ∈ l, PySem.W.findIn K (.ref C) f = some none := fun f hf => He.eqO_ok (List.all_eq_true.mp c f hf)
def mkB (K : PySem.W.Frag) (C : Addr) : Bool := PySem.W.makesIn K C && (eqO (PySem.W.findIn K (.ref C) "__init__") (some (some (.ref (ma K C "__init__")))) && (PySem.W.isFn K (.ref (ma K C "__init__")) && PySem.W.keepIn K (.ref C)))
theorem mkB_ok {K : PySem.W.Frag} {C : Addr} (c : mkB K C = true) : Mk K C (ma K C "__init__") := by
  obtain ⟨c1, c⟩ := He.ba c
  obtain ⟨c2, c⟩ := He.ba c
  obtain ⟨c3, c4⟩ := He.ba c
  exact ⟨c1, He.eqO_ok c2, c3, c4⟩
def methB (K : PySem.W.Frag) (C : Addr) (m : Str) : Bool := eqO (PySem.W.findIn K (.ref C) m) (some (some (.ref (ma K C m)))) && (PySem.W.isFn K (.ref (ma K C m)) && PySem.W.keepIn K (.ref (ma K C m)))
theorem methB_ok {K : PySem.W.Frag} {C : Addr} {m : Str} (c : methB K C m = true) : Meth K C m (ma K C m) := by
  obtain ⟨c1, c⟩ := He.ba c
  obtain ⟨c2, c3⟩ := He.ba c
  exact ⟨He.eqO_ok c1, c2, c3⟩
/-- a constant of a class: its value, read at the instance and at the class -/
def conV (K : PySem.W.Frag) (C : Addr) (f : Str) (v : V) : Bool := match PySem.W.findIn K (.ref C) f with
  | some (some u) => relB v u && (eqO (PySem.W.specialIn K u "__get__") (some none) && (match PySem.W.findCls K (.ref C) (.type "type") f with
    | some (.val u') => decide (u' = u)
    | _ => false))
  | _ => false
theorem conV_ok {K : PySem.W.Frag} {C : Addr} {f : Str} {v : V} (h : conV K C f v = true) : ∃ u, PySem.W.findIn K (.ref C) f = some (some u) ∧ RelV v u ∧ PySem.W.specialIn K u "__get__" = some none ∧ PySem.W.findCls K (.ref C) (.type "type") f = some (.val u) := by
  unfold conV at h
  cases e : PySem.W.findIn K (.ref C) f with
  | none =>
    rw [e] at h
    cases h
  | some o =>
    rw [e] at h
    cases o with
    | none => cases h
    | some u =>
      obtain ⟨h1, h⟩ := He.ba (show (relB v u && (eqO (PySem.W.specialIn K u "__get__") (some none) && (match PySem.W.findCls K (.ref C) (.type "type") f with
        | some (.val u') => decide (u' = u)
        | _ => false))) = true from h)
      obtain ⟨h2, h3⟩ := He.ba h
      refine ⟨u, rfl, He.relB_ok h1, He.eqO_ok h2, ?_⟩
      cases q : PySem.W.findCls K (.ref C) (.type "type") f with
      | none =>
        rw [q] at h3
        cases h3
      | some z =>
        rw [q] at h3
        cases z with
        | val u' =>
          have e : u' = u := of_decide_eq_true h3
          rw [e]
        | get _ _ _ _ => cases h3
theorem conS {K : PySem.W.Frag} {C : Addr} {f z : Str} (h : conV K C f (.str z) = true) : ∃ t, PySem.W.findIn K (.ref C) f = some (some (.str z t)) ∧ PySem.W.specialIn K (.str z t) "__get__" = some none ∧ PySem.W.findCls K (.ref C) (.type "type") f = some (.val (.str z t)) := by
  obtain ⟨u, a, ⟨t, rfl⟩, b, c⟩ := conV_ok h
  exact ⟨t, a, b, c⟩
theorem conI {K : PySem.W.Frag} {C : Addr} {f : Str} {z : Int} (h : conV K C f (.int z) = true) : ∃ t, PySem.W.findIn K (.ref C) f = some (some (.int z t)) ∧ PySem.W.specialIn K (.int z t) "__get__" = some none ∧ PySem.W.findCls K (.ref C) (.type "type") f = some (.val (.int z t)) := by
  obtain ⟨u, a, ⟨t, rfl⟩, b, c⟩ := conV_ok h
  exact ⟨t, a, b, c⟩
/-- the class is read as classes are -/
def readB (K : PySem.W.Frag) (C : Addr) : Bool := PySem.W.readsIn K C (.type "type") && eqO (PySem.W.specialIn K (.ref C) "__getattribute__") (some (some (.builtin "type.__getattribute__")))
/-- __class__ is told of its instances -/
def kindB (K : PySem.W.Frag) (C : Addr) : Bool := eqO (PySem.W.findIn K (.ref C) "__class__") (some (some (.builtin "object.__class__"))) && (decide (PySem.W.mroIn K C (.type "object") = some true) && (eqO (PySem.W.specialIn K (.builtin "object.__class__") "__get__") (some (some (.builtin "getset_descriptor.__get__"))) && decide (PySem.W.takesIn K (.builtin "object.__class__") = some true)))
theorem kindB_ok {K : PySem.W.Frag} {C : Addr} (c : kindB K C = true) : PySem.W.findIn K (.ref C) "__class__" = some (some (.builtin "object.__class__")) ∧ PySem.W.mroIn K C (.type "object") = some true ∧ PySem.W.specialIn K (.builtin "object.__class__") "__get__" = some (some (.builtin "getset_descriptor.__get__")) ∧ PySem.W.takesIn K (.builtin "object.__class__") = some true := by
  obtain ⟨c1, c⟩ := He.ba c
  obtain ⟨c2, c⟩ := He.ba c
  obtain ⟨c3, c4⟩ := He.ba c
  exact ⟨He.eqO_ok c1, of_decide_eq_true c2, He.eqO_ok c3, of_decide_eq_true c4⟩
def kitB (K : PySem.W.Frag) (a b : Addr) (r : Bool) : Bool := decide (PySem.W.kitOne K (.ref a) (.ref b) = some r)
theorem kitB_ok {K : PySem.W.Frag} {a b : Addr} {r : Bool} (c : kitB K a b r = true) : PySem.W.kitOne K (.ref a) (.ref b) = some r := of_decide_eq_true c
/-- a property: where its getter stands -/
def getAt (K : PySem.W.Frag) (p : Addr) : Addr := match PySem.W.recIn K p "property" with
  | some (.ref g :: _) => g
  | _ => 0
def propB (K : PySem.W.Frag) (C : Addr) (f : Str) : Bool := eqO (PySem.W.findIn K (.ref C) f) (some (some (.ref (ma K C f)))) && (eqO (PySem.W.specialIn K (.ref (ma K C f)) "__get__") (some (some (.builtin "property.__get__"))) && (decide (PySem.W.takesIn K (.ref (ma K C f)) = some true) && (match PySem.W.recIn K (ma K C f) "property" with
  | some (.ref g :: _) => decide (g = getAt K (ma K C f))
  | _ => false)))
theorem propB_ok {K : PySem.W.Frag} {C : Addr} {f : Str} (c : propB K C f = true) : PySem.W.findIn K (.ref C) f = some (some (.ref (ma K C f))) ∧ PySem.W.specialIn K (.ref (ma K C f)) "__get__" = some (some (.builtin "property.__get__")) ∧ PySem.W.takesIn K (.ref (ma K C f)) = some true ∧ ∃ rest, PySem.W.recIn K (ma K C f) "property" = some (.ref (getAt K (ma K C f)) :: rest) := by
  obtain ⟨c1, c⟩ := He.ba c
  obtain ⟨c2, c⟩ := He.ba c
  obtain ⟨c3, c4⟩ := He.ba c
  refine ⟨He.eqO_ok c1, He.eqO_ok c2, of_decide_eq_true c3, ?_⟩
  cases q : PySem.W.recIn K (ma K C f) "property" with
  | none =>
    rw [q] at c4
    cases c4
  | some l =>
    rw [q] at c4
    cases l with
    | nil => cases c4
    | cons v r =>
      cases v with
      | ref g =>
        have e : g = getAt K (ma K C f) := of_decide_eq_true c4
        rw [← e]
        exact ⟨r, rfl⟩
      | _ => cases c4
/-! ### the Hook -/
abbrev AlX : Type := (Bool × List FnV) × List (Option (List (Option (Str × Int))))
def chk (fa : List (PySem.W.Frag → Bool)) (fn : List FnP) (K : PySem.W.Frag) : Bool := (fa.all fun f => f K) && fn.all fun d => d.ok K
def obsX (fa : List (PySem.W.Frag → Bool)) (fn : List FnP) (ts : List He.Tab) (K : PySem.W.Frag) : AlX := ((chk fa fn K, fn.map fun d => fnV K (d.at_ K)), ts.map fun t => He.dicW K (t.1 K))
def valX (fn : List FnP) (ts : List He.Tab) (w : World) : AlX := ((true, fn.map FnP.val), ts.map fun t => some (He.keysIn w.params t.2))
def SaysX (fa : List (PySem.W.Frag → Bool)) (fn : List FnP) (ts : List He.Tab) (w : World) (K : PySem.W.Frag) : Prop := obsX fa fn ts K = valX fn ts w
def hookX (fa : List (PySem.W.Frag → Bool)) (fn : List FnP) (ts : List He.Tab) : PySem.W.Hook where
  α := AlX
  obs := fun s => obsX fa fn ts (allU s.heap.get? s.heap.objs.size 0 [])
  val := fun w => valX fn ts w
  says := fun w h => ∃ K : PySem.W.Frag, K.In h ∧ SaysX fa fn ts w K
  of := fun _ _ e => ⟨_, allU_in, e⟩
  keeps := fun _ _ _ ⟨K, hK, c⟩ k => ⟨K, PySem.W.Frag.In.keeps hK k, c⟩
/-- what is looked at, off the tree -/
def obX (fa : List (PySem.W.Frag → Bool)) (fn : List FnP) (ts : List He.Tab) (s : PySem.W.SharedT) : AlX := frU (HandSHeadRun.getT s) s.n 0 [] (obsX fa fn ts)
theorem obX_eq {fa : List (PySem.W.Frag → Bool)} {fn : List FnP} {ts : List He.Tab} (s : PySem.W.SharedT) : obX fa fn ts s = (hookX fa fn ts).obs s.abs := by
  unfold obX
  rw [frU_eq]
  have e : HandSHeadRun.getT s = s.abs.heap.get? := funext (HandSHeadRun.getT_eq s)
  have n : s.abs.heap.objs.size = s.n := PySem.W.absHeap_size s.tree s.n s.life
  show obsX fa fn ts (allU (HandSHeadRun.getT s) s.n 0 []) = obsX fa fn ts (allU s.abs.heap.get? s.abs.heap.objs.size 0 [])
  rw [e, n]
section
variable {fa : List (PySem.W.Frag → Bool)} {fn : List FnP} {ts : List He.Tab} {w : World} {K : PySem.W.Frag}
theorem SaysX.chk_ (c : SaysX fa fn ts w K) : chk fa fn K = true := congrArg (fun z : AlX => z.1.1) c
theorem SaysX.fact (c : SaysX fa fn ts w K) (i : Nat) {f : PySem.W.Frag → Bool} (h : fa[i]? = some f := by rfl) : f K = true := List.all_eq_true.mp (He.ba c.chk_).1 f (List.mem_of_getElem? h)
theorem SaysX.def_ (c : SaysX fa fn ts w K) (i : Nat) {d : FnP} (h : fn[i]? = some d := by rfl) : FnAt K d.name d.qual d.st (d.at_ K) ∧ PySem.W.keepIn K (.ref (d.at_ K)) = true := by
  have e : fn.map (fun d => fnV K (d.at_ K)) = fn.map FnP.val := congrArg (fun z : AlX => z.1.2) c
  have e2 : (fn.map fun d => fnV K (d.at_ K))[i]? = (fn.map FnP.val)[i]? := by rw [e]
  rw [List.getElem?_map, List.getElem?_map, h] at e2
  exact fn_ok (Option.some.inj e2) (List.all_eq_true.mp (He.ba c.chk_).2 d (List.mem_of_getElem? h))
theorem SaysX.tab (c : SaysX fa fn ts w K) (i : Nat) {t : He.Tab} (h : ts[i]? = some t := by rfl) : He.dicW K (t.1 K) = some (He.keysIn w.params t.2) := by
  have e : ts.map (fun t => He.dicW K (t.1 K)) = ts.map fun t => some (He.keysIn w.params t.2) := congrArg (fun z : AlX => z.2) c
  have e2 : (ts.map fun t => He.dicW K (t.1 K))[i]? = (ts.map fun t => some (He.keysIn w.params t.2))[i]? := by rw [e]
  rw [List.getElem?_map, List.getElem?_map, h] at e2
  exact Option.some.inj e2
end
/-! ### the facts in chunks, each looked at by a run of its own -/
structure Ck where
  fa : List (PySem.W.Frag → Bool)
  fn : List FnP
  ts : List He.Tab
def Ck.ob (c : Ck) (s : PySem.W.SharedT) : AlX := obX c.fa c.fn c.ts s
def Ck.Says (c : Ck) (w : World) (K : PySem.W.Frag) : Prop := SaysX c.fa c.fn c.ts w K
def hookC (cs : List Ck) : PySem.W.Hook where
  α := List AlX
  obs := fun s => cs.map fun c => obsX c.fa c.fn c.ts (allU s.heap.get? s.heap.objs.size 0 [])
  val := fun w => cs.map fun c => valX c.fn c.ts w
  says := fun w h => ∃ K : PySem.W.Frag, K.In h ∧ ∀ c ∈ cs, c.Says w K
  of := fun _ _ e => ⟨_, allU_in, List.map_inj_left.mp e⟩
  keeps := fun _ _ _ ⟨K, hK, c⟩ k => ⟨K, PySem.W.Frag.In.keeps hK k, c⟩
def obCs (cs : List Ck) (s : PySem.W.SharedT) : List AlX := cs.map fun c => c.ob s
theorem obCs_eq {cs : List Ck} (s : PySem.W.SharedT) : obCs cs s = (hookC cs).obs s.abs := List.map_congr_left fun c _ => obX_eq s
theorem map_split {σ α β γ δ : Type} {o : Option σ} {a : σ → α} {b : σ → β} {g : δ → σ → γ} {v : δ → γ} {va : α} {vb : β} {cs : List δ} (e0 : o.map (fun s => (a s, b s)) = some (va, vb)) (es : ∀ c ∈ cs, o.map (g c) = some (v c)) :
    o.map (fun s => (a s, b s, cs.map fun c => g c s)) = some (va, vb, cs.map v) := by
  cases o with
  | none => cases e0
  | some s =>
    obtain ⟨h1, h2⟩ := Prod.mk.inj (Option.some.inj e0)
    show some (a s, b s, cs.map fun c => g c s) = _
    rw [h1, h2, List.map_congr_left fun c hc => Option.some.inj (es c hc)]
open HandSHeadRun PySem.W PySem.Calls PyProof.Rows in
/-- the run's first equation: the looks, the view -/
def Run0 (r : PySem.W.OpenRow) (q : Program) (M : Nat) (loose : List PySem.Str) (w : World) : Prop :=
  ∀ os : OsState, (endF (stepQ (denQ tabQ) r.prog w) M r.prog w os).map (fun s => (looksF r.prog (boot_heap w.params) s.abs, seenQ q loose (importedModules r.prog.main.body) (fun s => PySem.W.xlAt q [] s && PySem.W.recOk r.toRowW.records s) s.abs)) = some (true, PySem.W.openGood q loose)
open HandSHeadRun PySem.W PySem.Calls PyProof.Rows in
def RunC (r : PySem.W.OpenRow) (M : Nat) (c : Ck) (w : World) : Prop := ∀ os : OsState, (endF (stepQ (denQ tabQ) r.prog w) M r.prog w os).map c.ob = some (valX c.fn c.ts w)
theorem run_of {r : PySem.W.OpenRow} {q : Program} {M : Nat} {loose : List PySem.Str} {cs : List Ck} {w : World} (e0 : Run0 r q M loose w) (es : ∀ c ∈ cs, RunC r M c w) : HandSHeadRun.RunEq r q (hookC cs) (obCs cs) M loose w :=
  fun os => map_split (δ := Ck) (g := fun c s => c.ob s) (v := fun c => valX c.fn c.ts w) (cs := cs) (e0 os) fun c hc => es c hc os
end Hk
/-! more facts by Bools: tuples that the top has written, values of a dict that stand for objects, == and != of a class -/
namespace Hk
open PySem PySem.Spec PyProof.Rows L2
open He (ga ma eqO relB FnV)
def relL : List V → List Value → Bool
  | [], [] => true
  | v :: vs, u :: us => relB v u && relL vs us
  | _, _ => false
theorem relL_ok : ∀ {vs : List V} {us : List Value}, relL vs us = true → Vals vs us
  | [], [], _ => .nil
  | v :: vs, u :: us, h => by
    obtain ⟨h1, h2⟩ := He.ba (show (relB v u && relL vs us) = true from h)
    exact .cons (He.relB_ok h1) (relL_ok h2)
  | [], u :: us, h => by cases h
  | v :: vs, [], h => by cases h
def tupB (K : PySem.W.Frag) (a : Addr) (vs : List V) : Bool := match K.lookup a with
  | some ⟨.type c, _, .seq its _, _⟩ => decide (c = "tuple") && (decide (its.size ≤ 100) && relL vs its.toList)
  | _ => false
theorem tupB_ok {K : PySem.W.Frag} {a : Addr} {vs : List V} (h : tupB K a vs = true) (H : Hp) : SqT K H a vs := by
  unfold tupB at h
  cases e : K.lookup a with
  | none =>
    rw [e] at h
    cases h
  | some o =>
    obtain ⟨oc, od, dt, osl⟩ := o
    rw [e] at h
    cases oc with
    | type c =>
      cases dt with
      | seq its n =>
        obtain ⟨h1, h2⟩ := He.ba (show (decide (c = "tuple") && (decide (its.size ≤ 100) && relL vs its.toList)) = true from h)
        obtain ⟨h2, h3⟩ := He.ba h2
        have hc : c = "tuple" := of_decide_eq_true h1
        subst hc
        exact .inr ⟨_, its, n, e, rfl, rfl, Nat.le_trans (of_decide_eq_true h2) (by decide), relL_ok h3⟩
      | _ => cases h
    | _ => cases h
/-- where the value at a name of a dict stands -/
def na (K : PySem.W.Frag) (D : Addr) (x : Str) : Addr := match PySem.W.nsIn K D x with
  | some (some (.ref a)) => a
  | _ => 0
def ntB (K : PySem.W.Frag) (D : Addr) (x : Str) (vs : List V) : Bool := eqO (PySem.W.nsIn K D x) (some (some (.ref (na K D x)))) && tupB K (na K D x) vs
theorem ntB_ok {K : PySem.W.Frag} {D : Addr} {x : Str} {vs : List V} (h : ntB K D x vs = true) : PySem.W.nsIn K D x = some (some (.ref (na K D x))) ∧ ∀ H, SqT K H (na K D x) vs := by
  obtain ⟨h1, h2⟩ := He.ba h
  exact ⟨He.eqO_ok h1, fun H => tupB_ok h2 H⟩
/-- the class's own ==, object's != -/
def eqB (K : PySem.W.Frag) (C : Addr) : Bool := methB K C "__eq__" && (eqO (PySem.W.findIn K (.ref C) "__ne__") (some (some (.builtin "object.__ne__"))) && decide (PySem.W.subIn K (.ref C) (.type "object") = some true))
theorem eqB_ok {K : PySem.W.Frag} {C : Addr} (h : eqB K C = true) : Meth K C "__eq__" (ma K C "__eq__") ∧ PySem.W.findIn K (.ref C) "__ne__" = some (some (.builtin "object.__ne__")) ∧ PySem.W.subIn K (.ref C) (.type "object") = some true := by
  obtain ⟨h1, h2⟩ := He.ba h
  obtain ⟨h2, h3⟩ := He.ba h2
  exact ⟨methB_ok h1, He.eqO_ok h2, of_decide_eq_true h3⟩
end Hk
namespace Hk
open PySem PySem.Spec PyProof.Rows L2 He
/-- a class method: where its function stands -/
def cgetAt (K : PySem.W.Frag) (p : Addr) : Addr := match PySem.W.recIn K p "classmethod" with
  | some (.ref g :: _) => g
  | _ => 0
def cmetB (K : PySem.W.Frag) (C : Addr) (m : Str) : Bool := (match PySem.W.findCls K (.ref C) (.type "type") m with
  | some (.get (.builtin b) (.ref p) .none (.ref c)) => decide (b = "classmethod.__get__") && (decide (p = ma K C m) && decide (c = C))
  | _ => false) && ((match PySem.W.recIn K (ma K C m) "classmethod" with
  | some (.ref g :: _) => decide (g = cgetAt K (ma K C m))
  | _ => false) && PySem.W.fnIn K (cgetAt K (ma K C m)))
theorem cmetB_ok {K : PySem.W.Frag} {C : Addr} {m : Str} (c : cmetB K C m = true) : ClX.CMet K C (.type "type") m (ma K C m) (cgetAt K (ma K C m)) := by
  obtain ⟨c1, c⟩ := He.ba c
  obtain ⟨c2, c3⟩ := He.ba c
  refine ⟨?_, ?_, c3⟩
  · revert c1
    split
    · rename_i b p c e
      intro c1
      obtain ⟨d1, d⟩ := He.ba c1
      obtain ⟨d2, d3⟩ := He.ba d
      rw [e, of_decide_eq_true d1, of_decide_eq_true d2, of_decide_eq_true d3]
    · intro c1
      cases c1
  · revert c2
    split
    · rename_i g r e
      intro c2
      exact ⟨r, by rw [e, of_decide_eq_true c2]⟩
    · intro c2
      cases c2
end Hk
namespace Hd
open PySem PySem.Spec PyProof.Rows L2
abbrev R : PySem.W.OpenRow := PySem.W.OpenLaw.row PySem.Challenge.rw_tarhouse_k40_archives_edited
abbrev qv : Program := PySem.W.view R.prog [118]
def tS (i : Nat) : Stmt := PySem.Challenge.pw_tarhouse_k40_archives_edited.main.body.getD i (.Pass ⟨0, 0, 0, 0⟩)
def names0 : List PySem.Str := ["_wall", "BLOCK_SIZE", "padded", "is_integer", "is_integer_within", "copied", "NoBlob", "NoData", "NoBlock", "NoMember", "NoName", "NoMode", "NoSize", "NoPieces", "Torn"]
def names1 : List PySem.Str := ["Wrong", "NoTime", "TooMany", "NoOffset", "NoIndex", "NAME_CHARACTERS", "MOST_CHARACTERS", "MOST_BYTES", "MOST_PIECES", "LAST_MODE", "LAST_TIME", "is_name", "is_data", "is_size", "is_mode"]
def names2 : List PySem.Str := ["is_time", "are_pieces", "is_piece", "are_spans", "check_name", "check_data", "check_data_members", "check_pieces", "check_mode_and_time", "Member", "File", "Sparse", "Directory", "Symlink", "Link"]
def names3 : List PySem.Str := ["target_of", "copy_of", "check_members", "TEXT_SIZE", "LONG_NAME", "MAGIC", "REST_SIZE", "header", "checksum", "checksum_field", "text_field", "octal_field", "LONG_KINDS", "TARGET_KINDS", "BEHIND_LONG_TARGETS"]
def names4 : List PySem.Str := ["SIZES", "Heading", "text_in", "number_in", "wrong_field", "is_right_name", "is_right_kind", "is_right_target", "MAP_BYTES", "map_block", "read_map", "Scanner", "cut", "read", "check_data_reading"]
def names5 : List PySem.Str := ["check_source", "check_end", "KIND_CHARACTERS", "END_SIZE", "written", "blocks_of", "packed", "stored_bytes", "long_part", "Editor", "changed_blocks", "blob", "is_row_of_bytes", "_law_source", "_law_draw"]
def names6 : List PySem.Str := ["_law_path", "_law_numbers", "_law_stamps", "_law_pieces", "_law_spec", "_law_made", "_law_blocks", "_law_written", "_law_few", "_law_add", "_law_edit", "_law_names", "_law_right"]
def names : List PySem.Str := names0 ++ (names1 ++ (names2 ++ (names3 ++ (names4 ++ (names5 ++ (names6))))))
def kwHdr : List (Str × V) := [("mode", .int 0), ("size", .int 0), ("time", .int 0), ("target", .str "")]
abbrev fn_0 : Hk.FnP := ⟨fun K => (He.ga K "law"), "law", "law", tS 118⟩
abbrev fn_1 : Hk.FnP := ⟨fun K => (He.ga K "is_integer"), "is_integer", "is_integer", tS 5⟩
abbrev fn_2 : Hk.FnP := ⟨fun K => (He.ga K "is_integer_within"), "is_integer_within", "is_integer_within", tS 6⟩
abbrev fn_3 : Hk.FnP := ⟨fun K => (He.ga K "is_row_of_bytes"), "is_row_of_bytes", "is_row_of_bytes", tS 101⟩
abbrev fn_4 : Hk.FnP := ⟨fun K => (He.ga K "blob"), "blob", "blob", tS 100⟩
abbrev fn_5 : Hk.FnP := ⟨fun K => (He.ga K "is_name"), "is_name", "is_name", tS 31⟩
abbrev fn_6 : Hk.FnP := ⟨fun K => (He.ga K "_law_source"), "_law_source", "_law_source", tS 103⟩
abbrev fn_7 : Hk.FnP := ⟨fun K => (He.ga K "_law_draw"), "_law_draw", "_law_draw", tS 104⟩
abbrev fn_8 : Hk.FnP := ⟨fun K => (He.ga K "_law_path"), "_law_path", "_law_path", tS 105⟩
abbrev fn_9 : Hk.FnP := ⟨fun K => (He.ga K "_law_numbers"), "_law_numbers", "_law_numbers", tS 106⟩
abbrev fn_10 : Hk.FnP := ⟨fun K => (He.ga K "_law_stamps"), "_law_stamps", "_law_stamps", tS 107⟩
abbrev fn_11 : Hk.FnP := ⟨fun K => (He.ga K "_law_names"), "_law_names", "_law_names", tS 116⟩
abbrev fn_12 : Hk.FnP := ⟨fun K => (He.ga K "_law_pieces"), "_law_pieces", "_law_pieces", tS 108⟩
abbrev fn_13 : Hk.FnP := ⟨fun K => (He.ga K "_law_spec"), "_law_spec", "_law_spec", tS 109⟩
abbrev fn_14 : Hk.FnP := ⟨fun K => (He.ga K "_law_few"), "_law_few", "_law_few", tS 113⟩
abbrev fn_15 : Hk.FnP := ⟨fun K => (He.ga K "check_name"), "check_name", "check_name", tS 39⟩
abbrev fn_16 : Hk.FnP := ⟨fun K => (He.ga K "is_data"), "is_data", "is_data", tS 32⟩
abbrev fn_17 : Hk.FnP := ⟨fun K => (He.ga K "is_size"), "is_size", "is_size", tS 33⟩
abbrev fn_18 : Hk.FnP := ⟨fun K => (He.ga K "is_mode"), "is_mode", "is_mode", tS 34⟩
abbrev fn_19 : Hk.FnP := ⟨fun K => (He.ga K "is_time"), "is_time", "is_time", tS 35⟩
abbrev fn_20 : Hk.FnP := ⟨fun K => (He.ga K "check_mode_and_time"), "check_mode_and_time", "check_mode_and_time", tS 43⟩
abbrev fn_21 : Hk.FnP := ⟨fun K => (He.ga K "is_piece"), "is_piece", "is_piece", tS 37⟩
abbrev fn_22 : Hk.FnP := ⟨fun K => (He.ga K "are_spans"), "are_spans", "are_spans", tS 38⟩
abbrev fn_23 : Hk.FnP := ⟨fun K => (He.ga K "are_pieces"), "are_pieces", "are_pieces", tS 36⟩
abbrev fn_24 : Hk.FnP := ⟨fun K => (He.ga K "check_pieces"), "check_pieces", "check_pieces", tS 42⟩
abbrev fn_25 : Hk.FnP := ⟨fun K => (He.ga K "text_field"), "text_field", "text_field", tS 61⟩
abbrev fn_26 : Hk.FnP := ⟨fun K => (He.ga K "octal_field"), "octal_field", "octal_field", tS 62⟩
abbrev fn_27 : Hk.FnP := ⟨fun K => (He.ga K "checksum"), "checksum", "checksum", tS 59⟩
abbrev fn_28 : Hk.FnP := ⟨fun K => (He.ga K "checksum_field"), "checksum_field", "checksum_field", tS 60⟩
abbrev fn_29 : Hk.FnP := ⟨fun K => (He.ga K "padded"), "padded", "padded", tS 3⟩
abbrev fn_30 : Hk.FnP := ⟨fun K => (He.ga K "target_of"), "target_of", "target_of", tS 50⟩
abbrev fn_31 : Hk.FnP := ⟨fun K => (He.ga K "map_block"), "map_block", "map_block", tS 77⟩
abbrev fn_32 : Hk.FnP := ⟨fun K => (He.ga K "stored_bytes"), "stored_bytes", "stored_bytes", tS 94⟩
abbrev fn_33 : Hk.FnP := ⟨fun K => (He.ga K "long_part"), "long_part", "long_part", tS 95⟩
abbrev fn_34 : Hk.FnP := ⟨fun K => (He.ga K "packed"), "packed", "packed", tS 93⟩
abbrev fn_35 : Hk.FnP := ⟨fun K => (He.ga K "text_in"), "text_in", "text_in", tS 69⟩
abbrev fn_36 : Hk.FnP := ⟨fun K => (He.ga K "number_in"), "number_in", "number_in", tS 70⟩
abbrev fn_37 : Hk.FnP := ⟨fun K => (He.ga K "is_right_name"), "is_right_name", "is_right_name", tS 72⟩
abbrev fn_38 : Hk.FnP := ⟨fun K => (He.ga K "is_right_kind"), "is_right_kind", "is_right_kind", tS 73⟩
abbrev fn_39 : Hk.FnP := ⟨fun K => (He.ga K "is_right_target"), "is_right_target", "is_right_target", tS 74⟩
abbrev fn_40 : Hk.FnP := ⟨fun K => (He.ga K "wrong_field"), "wrong_field", "wrong_field", tS 71⟩
abbrev fn_41 : Hk.FnP := ⟨fun K => (He.ga K "read_map"), "read_map", "read_map", tS 78⟩
abbrev fn_42 : Hk.FnP := ⟨fun K => (He.ga K "cut"), "cut", "cut", tS 81⟩
abbrev fn_43 : Hk.FnP := ⟨fun K => (He.ga K "check_source"), "check_source", "check_source", tS 86⟩
abbrev fn_44 : Hk.FnP := ⟨fun K => (He.ga K "check_end"), "check_end", "check_end", tS 87⟩
abbrev fn_45 : Hk.FnP := ⟨fun K => (He.ga K "read"), "read", "read", tS 83⟩
abbrev fn_46 : Hk.FnP := ⟨fun K => (He.ga K "_law_made"), "_law_made", "_law_made", tS 110⟩
abbrev fn_47 : Hk.FnP := ⟨fun K => (He.ga K "copy_of"), "copy_of", "copy_of", tS 51⟩
abbrev fn_48 : Hk.FnP := ⟨fun K => (He.ga K "written"), "written", "written", tS 91⟩
abbrev fn_49 : Hk.FnP := ⟨fun K => (He.ga K "check_members"), "check_members", "check_members", tS 52⟩
abbrev fn_50 : Hk.FnP := ⟨fun K => (He.ga K "changed_blocks"), "changed_blocks", "changed_blocks", tS 98⟩
abbrev fn_51 : Hk.FnP := ⟨fun K => (He.ga K "_law_add"), "_law_add", "_law_add", tS 114⟩
abbrev fn_52 : Hk.FnP := ⟨fun K => (He.ga K "_law_edit"), "_law_edit", "_law_edit", tS 115⟩
abbrev fn_53 : Hk.FnP := ⟨fun K => (He.ga K "_law_blocks"), "_law_blocks", "_law_blocks", tS 111⟩
abbrev fn_54 : Hk.FnP := ⟨fun K => (He.ga K "_law_written"), "_law_written", "_law_written", tS 112⟩
abbrev fn_55 : Hk.FnP := ⟨fun K => (He.ga K "blocks_of"), "blocks_of", "blocks_of", tS 92⟩
abbrev fn_56 : Hk.FnP := ⟨fun K => (He.ga K "_law_right"), "_law_right", "_law_right", tS 117⟩
abbrev fn_57 : Hk.FnP := ⟨fun K => (He.ga K "check_data_members"), "check_data", "check_data", tS 40⟩
abbrev fn_58 : Hk.FnP := ⟨fun K => (He.ga K "check_data_reading"), "check_data", "check_data", tS 84⟩
abbrev fn_59 : Hk.FnP := ⟨fun K => (He.ga K "header"), "header", "header", tS 58⟩
abbrev fn_60 : Hk.FnP := ⟨fun K => (He.ma K (He.ga K "File") "__init__"), "__init__", "File.__init__", (inClass (tS 45) 1)⟩
abbrev fn_61 : Hk.FnP := ⟨fun K => (He.ma K (He.ga K "Sparse") "__init__"), "__init__", "Sparse.__init__", (inClass (tS 46) 1)⟩
abbrev fn_62 : Hk.FnP := ⟨fun K => (He.ma K (He.ga K "Directory") "__init__"), "__init__", "Directory.__init__", (inClass (tS 47) 1)⟩
abbrev fn_63 : Hk.FnP := ⟨fun K => (He.ma K (He.ga K "Symlink") "__init__"), "__init__", "Symlink.__init__", (inClass (tS 48) 1)⟩
abbrev fn_64 : Hk.FnP := ⟨fun K => (He.ma K (He.ga K "Link") "__init__"), "__init__", "Link.__init__", (inClass (tS 49) 1)⟩
abbrev fn_65 : Hk.FnP := ⟨fun K => (He.ma K (He.ga K "Heading") "__init__"), "__init__", "Heading.__init__", (inClass (tS 68) 0)⟩
abbrev fn_66 : Hk.FnP := ⟨fun K => (He.ma K (He.ga K "Scanner") "__init__"), "__init__", "Scanner.__init__", (inClass (tS 80) 0)⟩
abbrev fn_67 : Hk.FnP := ⟨fun K => (He.ma K (He.ga K "Scanner") "is_over"), "is_over", "Scanner.is_over", (inClass (tS 80) 1)⟩
abbrev fn_68 : Hk.FnP := ⟨fun K => (He.ma K (He.ga K "Scanner") "wrong_stored"), "wrong_stored", "Scanner.wrong_stored", (inClass (tS 80) 6)⟩
abbrev fn_69 : Hk.FnP := ⟨fun K => (He.ma K (He.ga K "Scanner") "member_of"), "member_of", "Scanner.member_of", (inClass (tS 80) 8)⟩
abbrev fn_70 : Hk.FnP := ⟨fun K => (He.ma K (He.ga K "Scanner") "ended"), "ended", "Scanner.ended", (inClass (tS 80) 7)⟩
abbrev fn_71 : Hk.FnP := ⟨fun K => (He.ma K (He.ga K "Scanner") "take_stored"), "take_stored", "Scanner.take_stored", (inClass (tS 80) 5)⟩
abbrev fn_72 : Hk.FnP := ⟨fun K => (He.ma K (He.ga K "Scanner") "take_header"), "take_header", "Scanner.take_header", (inClass (tS 80) 4)⟩
abbrev fn_73 : Hk.FnP := ⟨fun K => (He.ma K (He.ga K "Scanner") "take_block"), "take_block", "Scanner.take_block", (inClass (tS 80) 3)⟩
abbrev fn_74 : Hk.FnP := ⟨fun K => (He.ma K (He.ga K "Scanner") "take"), "take", "Scanner.take", (inClass (tS 80) 2)⟩
abbrev fn_75 : Hk.FnP := ⟨fun K => (He.ma K (He.ga K "Editor") "__init__"), "__init__", "Editor.__init__", (inClass (tS 97) 1)⟩
abbrev fn_76 : Hk.FnP := ⟨fun K => (He.ma K (He.ga K "Editor") "__len__"), "__len__", "Editor.__len__", (inClass (tS 97) 2)⟩
abbrev fn_77 : Hk.FnP := ⟨fun K => (Hk.getAt K (He.ma K (He.ga K "Editor") "archive")), "archive", "Editor.archive", (inClass (tS 97) 4)⟩
abbrev fn_78 : Hk.FnP := ⟨fun K => (Hk.getAt K (He.ma K (He.ga K "Editor") "members")), "members", "Editor.members", (inClass (tS 97) 5)⟩
abbrev fn_79 : Hk.FnP := ⟨fun K => (Hk.getAt K (He.ma K (He.ga K "Editor") "offsets")), "offsets", "Editor.offsets", (inClass (tS 97) 6)⟩
abbrev fn_80 : Hk.FnP := ⟨fun K => (He.ma K (He.ga K "Editor") "edit"), "edit", "Editor.edit", (inClass (tS 97) 12)⟩
abbrev fn_81 : Hk.FnP := ⟨fun K => (He.ma K (He.ga K "Editor") "check_index"), "check_index", "Editor.check_index", (inClass (tS 97) 11)⟩
abbrev fn_82 : Hk.FnP := ⟨fun K => (He.ma K (He.ga K "Editor") "take_out"), "take_out", "Editor.take_out", (inClass (tS 97) 9)⟩
abbrev fn_83 : Hk.FnP := ⟨fun K => (He.ma K (He.ga K "Editor") "exchange"), "exchange", "Editor.exchange", (inClass (tS 97) 8)⟩
abbrev fn_84 : Hk.FnP := ⟨fun K => (He.ma K (He.ga K "Editor") "add"), "add", "Editor.add", (inClass (tS 97) 7)⟩
abbrev fn_85 : Hk.FnP := ⟨fun K => (Hk.cgetAt K (He.ma K (He.ga K "Editor") "of")), "of", "Editor.of", (inClass (tS 97) 3)⟩
abbrev fn_86 : Hk.FnP := ⟨fun K => (He.ma K (He.ga K "File") "__eq__"), "__eq__", "File.__eq__", (inClass (tS 45) 2)⟩
abbrev fn_87 : Hk.FnP := ⟨fun K => (He.ma K (He.ga K "Sparse") "__eq__"), "__eq__", "Sparse.__eq__", (inClass (tS 46) 2)⟩
abbrev fn_88 : Hk.FnP := ⟨fun K => (He.ma K (He.ga K "Directory") "__eq__"), "__eq__", "Directory.__eq__", (inClass (tS 47) 2)⟩
abbrev fn_89 : Hk.FnP := ⟨fun K => (He.ma K (He.ga K "Symlink") "__eq__"), "__eq__", "Symlink.__eq__", (inClass (tS 48) 2)⟩
abbrev fn_90 : Hk.FnP := ⟨fun K => (He.ma K (He.ga K "Link") "__eq__"), "__eq__", "Link.__eq__", (inClass (tS 49) 2)⟩
def fa0_0 : List (PySem.W.Frag → Bool) := [Hk.refV "law", Hk.refV "is_integer", Hk.refV "is_integer_within", Hk.refV "is_row_of_bytes", Hk.refV "blob", Hk.refV "is_name", Hk.refV "_law_source", Hk.refV "_law_draw", Hk.refV "_law_path", Hk.refV "_law_numbers"]
def fa0_1 : List (PySem.W.Frag → Bool) := [Hk.refV "_law_stamps", Hk.refV "_law_names", Hk.refV "_law_pieces", Hk.refV "_law_spec", Hk.refV "_law_few", Hk.refV "check_name", Hk.refV "is_data", Hk.refV "is_size", Hk.refV "is_mode", Hk.refV "is_time"]
def fa0_2 : List (PySem.W.Frag → Bool) := [Hk.refV "check_mode_and_time", Hk.refV "is_piece", Hk.refV "are_spans", Hk.refV "are_pieces", Hk.refV "check_pieces", Hk.refV "text_field", Hk.refV "octal_field", Hk.refV "checksum", Hk.refV "checksum_field", Hk.refV "padded"]
def fa0_3 : List (PySem.W.Frag → Bool) := [Hk.refV "target_of", Hk.refV "map_block", Hk.refV "stored_bytes", Hk.refV "long_part", Hk.refV "packed", Hk.refV "text_in", Hk.refV "number_in", Hk.refV "is_right_name", Hk.refV "is_right_kind", Hk.refV "is_right_target"]
def fa0_4 : List (PySem.W.Frag → Bool) := [Hk.refV "wrong_field", Hk.refV "read_map", Hk.refV "cut", Hk.refV "check_source", Hk.refV "check_end", Hk.refV "read", Hk.refV "_law_made", Hk.refV "copy_of", Hk.refV "written", Hk.refV "check_members"]
def fa0_5 : List (PySem.W.Frag → Bool) := [Hk.refV "changed_blocks", Hk.refV "_law_add", Hk.refV "_law_edit", Hk.refV "_law_blocks", Hk.refV "_law_written", Hk.refV "blocks_of", Hk.refV "_law_right", Hk.refV "check_data_members", Hk.refV "check_data_reading", Hk.refV "header"]
def fa0_6 : List (PySem.W.Frag → Bool) := [fun K => Hk.kwsV K (He.ga K "header") kwHdr, fun K => Hk.nsV K mainGlobals "MOST_CHARACTERS" (.int (250)), fun K => Hk.nsV K mainGlobals "NAME_CHARACTERS" (.str ("abcdefghijklmnopqrstuvwxyz0123456789._-/")), fun K => Hk.nsV K mainGlobals "MOST_BYTES" (.int (4096)), fun K => Hk.nsV K mainGlobals "LAST_MODE" (.int (4095)), fun K => Hk.nsV K mainGlobals "LAST_TIME" (.int (8589934591)), fun K => Hk.nsV K mainGlobals "MOST_PIECES" (.int (50)), fun K => Hk.nsV K mainGlobals "TEXT_SIZE" (.int (100)), fun K => Hk.nsV K mainGlobals "BLOCK_SIZE" (.int (512)), fun K => Hk.nsV K mainGlobals "MAGIC" (.byt (#[117, 115, 116, 97, 114, 0, 48, 48]))]
def fa0_7 : List (PySem.W.Frag → Bool) := [fun K => Hk.nsV K mainGlobals "REST_SIZE" (.int (247)), fun K => Hk.nsV K mainGlobals "LONG_NAME" (.str ("././@LongLink")), Hk.refV "KIND_CHARACTERS", Hk.refV "SIZES", Hk.refV "LONG_KINDS", Hk.refV "BEHIND_LONG_TARGETS", Hk.refV "TARGET_KINDS", fun K => Hk.nsV K mainGlobals "MAP_BYTES" (.byt (#[48, 49, 50, 51, 52, 53, 54, 55, 56, 57, 10])), fun K => Hk.nsV K mainGlobals "END_SIZE" (.int (1024)), Hk.refV "Member"]
def fa0_8 : List (PySem.W.Frag → Bool) := [fun K => Hk.conV K (He.ga K "File") "KIND" (.str "file"), Hk.refV "File", fun K => Hk.clsB K (He.ga K "File"), fun K => Hk.mkB K (He.ga K "File"), fun K => Hk.kindB K (He.ga K "File"), fun K => Hk.kitB K (He.ga K "File") (He.ga K "Member") true, fun K => Hk.readB K (He.ga K "File"), fun K => Hk.noB K (He.ga K "File") ["name", "mode", "time", "data"], fun K => Hk.kwsV K (He.ma K (He.ga K "File") "__init__") [("mode", .int 420), ("time", .int 0)], fun K => Hk.conV K (He.ga K "Sparse") "KIND" (.str "sparse")]
def fa0_9 : List (PySem.W.Frag → Bool) := [Hk.refV "Sparse", fun K => Hk.clsB K (He.ga K "Sparse"), fun K => Hk.mkB K (He.ga K "Sparse"), fun K => Hk.kindB K (He.ga K "Sparse"), fun K => Hk.kitB K (He.ga K "Sparse") (He.ga K "Member") true, fun K => Hk.readB K (He.ga K "Sparse"), fun K => Hk.noB K (He.ga K "Sparse") ["name", "mode", "time", "size", "pieces"], fun K => Hk.kwsV K (He.ma K (He.ga K "Sparse") "__init__") [("mode", .int 420), ("time", .int 0)], fun K => Hk.conV K (He.ga K "Directory") "KIND" (.str "directory"), Hk.refV "Directory"]
def fa0_10 : List (PySem.W.Frag → Bool) := [fun K => Hk.clsB K (He.ga K "Directory"), fun K => Hk.mkB K (He.ga K "Directory"), fun K => Hk.kindB K (He.ga K "Directory"), fun K => Hk.kitB K (He.ga K "Directory") (He.ga K "Member") true, fun K => Hk.readB K (He.ga K "Directory"), fun K => Hk.noB K (He.ga K "Directory") ["name", "mode", "time"]]
def fa0_ : List (PySem.W.Frag → Bool) := fa0_0 ++ (fa0_1 ++ (fa0_2 ++ (fa0_3 ++ (fa0_4 ++ (fa0_5 ++ (fa0_6 ++ (fa0_7 ++ (fa0_8 ++ (fa0_9 ++ (fa0_10))))))))))
def fa1_0 : List (PySem.W.Frag → Bool) := [fun K => Hk.kwsV K (He.ma K (He.ga K "Directory") "__init__") [("mode", .int 493), ("time", .int 0)], fun K => Hk.conV K (He.ga K "Symlink") "KIND" (.str "symlink"), Hk.refV "Symlink", fun K => Hk.clsB K (He.ga K "Symlink"), fun K => Hk.mkB K (He.ga K "Symlink"), fun K => Hk.kindB K (He.ga K "Symlink"), fun K => Hk.kitB K (He.ga K "Symlink") (He.ga K "Member") true, fun K => Hk.readB K (He.ga K "Symlink"), fun K => Hk.noB K (He.ga K "Symlink") ["name", "mode", "time", "target"], fun K => Hk.kwsV K (He.ma K (He.ga K "Symlink") "__init__") [("mode", .int 511), ("time", .int 0)]]
def fa1_1 : List (PySem.W.Frag → Bool) := [fun K => Hk.conV K (He.ga K "Link") "KIND" (.str "link"), Hk.refV "Link", fun K => Hk.clsB K (He.ga K "Link"), fun K => Hk.mkB K (He.ga K "Link"), fun K => Hk.kindB K (He.ga K "Link"), fun K => Hk.kitB K (He.ga K "Link") (He.ga K "Member") true, fun K => Hk.readB K (He.ga K "Link"), fun K => Hk.noB K (He.ga K "Link") ["name", "mode", "time", "target"], fun K => Hk.kwsV K (He.ma K (He.ga K "Link") "__init__") [("mode", .int 420), ("time", .int 0)], fun K => Hk.kitB K (He.ga K "File") (He.ga K "File") true]
def fa1_2 : List (PySem.W.Frag → Bool) := [fun K => Hk.kitB K (He.ga K "File") (He.ga K "Sparse") false, fun K => Hk.kitB K (He.ga K "File") (He.ga K "Symlink") false, fun K => Hk.kitB K (He.ga K "File") (He.ga K "Link") false, fun K => Hk.kitB K (He.ga K "Sparse") (He.ga K "File") false, fun K => Hk.kitB K (He.ga K "Sparse") (He.ga K "Sparse") true, fun K => Hk.kitB K (He.ga K "Sparse") (He.ga K "Symlink") false, fun K => Hk.kitB K (He.ga K "Sparse") (He.ga K "Link") false, fun K => Hk.kitB K (He.ga K "Directory") (He.ga K "File") false, fun K => Hk.kitB K (He.ga K "Directory") (He.ga K "Sparse") false, fun K => Hk.kitB K (He.ga K "Directory") (He.ga K "Symlink") false]
def fa1_3 : List (PySem.W.Frag → Bool) := [fun K => Hk.kitB K (He.ga K "Directory") (He.ga K "Link") false, fun K => Hk.kitB K (He.ga K "Symlink") (He.ga K "File") false, fun K => Hk.kitB K (He.ga K "Symlink") (He.ga K "Sparse") false, fun K => Hk.kitB K (He.ga K "Symlink") (He.ga K "Symlink") true, fun K => Hk.kitB K (He.ga K "Link") (He.ga K "File") false, fun K => Hk.kitB K (He.ga K "Link") (He.ga K "Sparse") false, fun K => Hk.kitB K (He.ga K "Link") (He.ga K "Symlink") false, fun K => Hk.kitB K (He.ga K "Link") (He.ga K "Link") true, fun K => Hk.nsV K (He.ga K "KIND_CHARACTERS") "file" (.str ("0")), fun K => Hk.nsV K (He.ga K "KIND_CHARACTERS") "sparse" (.str ("S"))]
def fa1_4 : List (PySem.W.Frag → Bool) := [fun K => Hk.nsV K (He.ga K "KIND_CHARACTERS") "directory" (.str ("5")), fun K => Hk.nsV K (He.ga K "KIND_CHARACTERS") "symlink" (.str ("2")), fun K => Hk.nsV K (He.ga K "KIND_CHARACTERS") "link" (.str ("1")), fun K => ([("0", ((0 : Int), (4096 : Int))), ("S", ((512 : Int), (4608 : Int))), ("K", ((102 : Int), (251 : Int))), ("L", ((102 : Int), (251 : Int))), ("5", ((0 : Int), (0 : Int))), ("2", ((0 : Int), (0 : Int))), ("1", ((0 : Int), (0 : Int)))] : List (PySem.Str × Int × Int)).all fun q => Hk.ntB K (He.ga K "SIZES") q.1 [.int q.2.1, .int q.2.2], fun K => Hk.tupB K (He.ga K "LONG_KINDS") [.str "K", .str "L"], fun K => Hk.tupB K (He.ga K "TARGET_KINDS") [.str "1", .str "2"], fun K => Hk.tupB K (He.ga K "BEHIND_LONG_TARGETS") [.str "L", .str "1", .str "2"], Hk.refV "Heading", fun K => Hk.clsB K (He.ga K "Heading"), fun K => Hk.mkB K (He.ga K "Heading")]
def fa1_5 : List (PySem.W.Frag → Bool) := [fun K => Hk.noB K (He.ga K "Heading") ["owner", "group", "mode", "size", "time", "name", "kind", "target"], fun K => Hk.methB K (He.ga K "Heading") "__init__", Hk.refV "Scanner", fun K => Hk.clsB K (He.ga K "Scanner"), fun K => Hk.mkB K (He.ga K "Scanner"), fun K => Hk.noB K (He.ga K "Scanner") ["start", "place", "at", "rest", "heading", "stored", "long_name", "long_target", "zeros", "wrong"], fun K => Hk.methB K (He.ga K "Scanner") "__init__", fun K => Hk.methB K (He.ga K "Scanner") "is_over", fun K => Hk.methB K (He.ga K "Scanner") "wrong_stored", fun K => Hk.methB K (He.ga K "Scanner") "member_of"]
def fa1_6 : List (PySem.W.Frag → Bool) := [fun K => Hk.methB K (He.ga K "Scanner") "ended", fun K => Hk.methB K (He.ga K "Scanner") "take_stored", fun K => Hk.methB K (He.ga K "Scanner") "take_header", fun K => Hk.methB K (He.ga K "Scanner") "take_block", fun K => Hk.methB K (He.ga K "Scanner") "take", fun K => Hk.kitB K (He.ga K "Directory") (He.ga K "Directory") true, fun K => Hk.kitB K (He.ga K "Symlink") (He.ga K "Directory") false, fun K => Hk.kitB K (He.ga K "Link") (He.ga K "Directory") false, Hk.refV "Editor", fun K => Hk.clsB K (He.ga K "Editor")]
def fa1_7 : List (PySem.W.Frag → Bool) := [fun K => Hk.mkB K (He.ga K "Editor"), fun K => Hk.noB K (He.ga K "Editor") ["states"], fun K => Hk.methB K (He.ga K "Editor") "__init__", fun K => Hk.conV K (He.ga K "Editor") "LIMIT" (.int 100), fun K => Hk.readB K (He.ga K "Editor"), fun K => Hk.methB K (He.ga K "Editor") "__len__", fun K => Hk.propB K (He.ga K "Editor") "archive", fun K => Hk.propB K (He.ga K "Editor") "members", fun K => Hk.propB K (He.ga K "Editor") "offsets", fun K => Hk.methB K (He.ga K "Editor") "edit"]
def fa1_8 : List (PySem.W.Frag → Bool) := [fun K => Hk.methB K (He.ga K "Editor") "check_index", fun K => Hk.methB K (He.ga K "Editor") "take_out", fun K => Hk.methB K (He.ga K "Editor") "exchange", fun K => Hk.methB K (He.ga K "Editor") "add", fun K => Hk.cmetB K (He.ga K "Editor") "of", fun K => Hk.methB K (He.ga K "File") "__eq__", fun K => Hk.eqB K (He.ga K "File"), fun K => Hk.methB K (He.ga K "Sparse") "__eq__", fun K => Hk.eqB K (He.ga K "Sparse"), fun K => Hk.methB K (He.ga K "Directory") "__eq__"]
def fa1_9 : List (PySem.W.Frag → Bool) := [fun K => Hk.eqB K (He.ga K "Directory"), fun K => Hk.methB K (He.ga K "Symlink") "__eq__", fun K => Hk.eqB K (He.ga K "Symlink"), fun K => Hk.methB K (He.ga K "Link") "__eq__", fun K => Hk.eqB K (He.ga K "Link"), fun K => ((["isinstance", "bool", "int", "list", "tuple", "all", "bytes", "str", "len", "abs", "range", "sum", "max", "min"] : List Str).all fun b => Hk.freeV b K)]
def fa1_ : List (PySem.W.Frag → Bool) := fa1_0 ++ (fa1_1 ++ (fa1_2 ++ (fa1_3 ++ (fa1_4 ++ (fa1_5 ++ (fa1_6 ++ (fa1_7 ++ (fa1_8 ++ (fa1_9)))))))))
def fn0_0 : List Hk.FnP := [fn_0, fn_1, fn_2, fn_3, fn_4, fn_5, fn_6, fn_7, fn_8, fn_9, fn_10, fn_11, fn_12, fn_13, fn_14]
def fn0_1 : List Hk.FnP := [fn_15, fn_16, fn_17, fn_18, fn_19, fn_20, fn_21, fn_22, fn_23, fn_24, fn_25, fn_26, fn_27, fn_28, fn_29]
def fn0_2 : List Hk.FnP := [fn_30, fn_31, fn_32, fn_33, fn_34, fn_35, fn_36, fn_37, fn_38, fn_39, fn_40, fn_41, fn_42, fn_43, fn_44]
def fn0_3 : List Hk.FnP := [fn_45, fn_46]
def fn0_ : List Hk.FnP := fn0_0 ++ (fn0_1 ++ (fn0_2 ++ (fn0_3)))
def fn1_0 : List Hk.FnP := [fn_47, fn_48, fn_49, fn_50, fn_51, fn_52, fn_53, fn_54, fn_55, fn_56, fn_57, fn_58, fn_59, fn_60, fn_61]
def fn1_1 : List Hk.FnP := [fn_62, fn_63, fn_64, fn_65, fn_66, fn_67, fn_68, fn_69, fn_70, fn_71, fn_72, fn_73, fn_74, fn_75, fn_76]
def fn1_2 : List Hk.FnP := [fn_77, fn_78, fn_79, fn_80, fn_81, fn_82, fn_83, fn_84, fn_85, fn_86, fn_87, fn_88, fn_89, fn_90]
def fn1_ : List Hk.FnP := fn1_0 ++ (fn1_1 ++ (fn1_2))
def ts : List He.Tab := [((fun K => (He.ga K "KIND_CHARACTERS")), ["file", "sparse", "directory", "symlink", "link"]), ((fun K => (He.ga K "SIZES")), ["0", "S", "K", "L", "5", "2", "1"])]
def ck_f0 : Hk.Ck := ⟨fa0_, fn0_, ts⟩
def ck_f1 : Hk.Ck := ⟨fa1_, fn1_, []⟩
def cks : List Hk.Ck := [ck_f0, ck_f1]
abbrev hk : PySem.W.Hook := Hk.hookC cks
def ob (s : PySem.W.SharedT) : List Hk.AlX := Hk.obCs cks s
theorem ob_eq (s : PySem.W.SharedT) : ob s = hk.obs s.abs := Hk.obCs_eq s
set_option maxHeartbeats 0 in
theorem run0_f (w : World) : Hk.Run0 R qv 14000 names (w.withFollow "special-get-raises" false) := by
  intro os; kernel_rfl
set_option maxHeartbeats 0 in
theorem run0_t (w : World) : Hk.Run0 R qv 14000 names (w.withFollow "special-get-raises" true) := by
  intro os; kernel_rfl
theorem run0 (w : World) : Hk.Run0 R qv 14000 names w := PySem.W.byRow2 "special-get-raises" (P := Hk.Run0 R qv 14000 names) run0_f run0_t w
set_option maxHeartbeats 0 in
theorem run_f0_f (w : World) : Hk.RunC R 14000 ck_f0 (w.withFollow "special-get-raises" false) := by
  intro os; kernel_rfl
set_option maxHeartbeats 0 in
theorem run_f0_t (w : World) : Hk.RunC R 14000 ck_f0 (w.withFollow "special-get-raises" true) := by
  intro os; kernel_rfl
theorem run_f0 (w : World) : Hk.RunC R 14000 ck_f0 w := PySem.W.byRow2 "special-get-raises" (P := Hk.RunC R 14000 ck_f0) run_f0_f run_f0_t w
set_option maxHeartbeats 0 in
theorem run_f1_f (w : World) : Hk.RunC R 14000 ck_f1 (w.withFollow "special-get-raises" false) := by
  intro os; kernel_rfl
set_option maxHeartbeats 0 in
theorem run_f1_t (w : World) : Hk.RunC R 14000 ck_f1 (w.withFollow "special-get-raises" true) := by
  intro os; kernel_rfl
theorem run_f1 (w : World) : Hk.RunC R 14000 ck_f1 w := PySem.W.byRow2 "special-get-raises" (P := Hk.RunC R 14000 ck_f1) run_f1_f run_f1_t w
theorem run (w : World) : HandSHeadRun.RunEq R qv hk ob 14000 names w := Hk.run_of (run0 w) fun c hc => by
  simp only [cks, List.mem_cons, List.not_mem_nil, or_false] at hc
  rcases hc with rfl | rfl
  · exact run_f0 w
  · exact run_f1 w
end Hd
section
open PySem PySem.W PySem.Calls PyProof.Rows
set_option maxRecDepth 100000 in
set_option maxHeartbeats 0 in
theorem Hd.early_ (hc : PySem.W.WalkO Hd.qv Hd.names (PySem.W.XL Hd.qv []) Hd.hk.says (PySem.W.OpenRow.toRowW (OpenLaw.row PySem.Challenge.rw_tarhouse_k40_archives_edited)) (HandSHeadRun.topDef (OpenLaw.row PySem.Challenge.rw_tarhouse_k40_archives_edited).prog 118) [] (fun f vs => PySem.call f vs)) : PySem.Challenge.rw_tarhouse_k40_archives_edited.Holds := by
  w_on; o_law
  refine HandSHeadRun.head_any (r := OpenLaw.row PySem.Challenge.rw_tarhouse_k40_archives_edited) (q := Hd.qv) (H := Hd.hk) (ob := Hd.ob) (M := 14000) (loose := Hd.names) (d := HandSHeadRun.topDef (OpenLaw.row PySem.Challenge.rw_tarhouse_k40_archives_edited).prog 118) (kwd := []) Hd.ob_eq
    (by kernel_rfl) (fun s => by kernel_rfl) Hd.run (by kernel_rfl) (by kernel_rfl) (by kernel_rfl) (by rfl) (by first | assumption | decide +kernel) (by decide +kernel) ⟨rfl, rfl, rfl, rfl, rfl, by decide +kernel⟩ ?hw hc
  case hw => w_witness2
end
namespace Th
open PySem PySem.Spec PyProof.Rows L2
section
variable {K : PySem.W.Frag} {σ : L2.St} {H : Hp} {Q : VK} {D : Ends} {t u : TS} {c : TT} {te ta tb tx : TE} {g : TG} {r r' : R2} {v x y : V} {i : Nat} {to tp : TO}
theorem r_seq (h : t { D with nx := u D } σ H) : tSeq t u D σ H := h
theorem r_if (h : c σ H fun b H1 => if b = true then t D σ H1 else u D σ H1) : tIfS c t u D σ H := h
theorem r_asg (h : te σ H fun x H1 => g x σ H1 D.nx) : tAsg te g D σ H := h
theorem r_ret (h : te σ H D.rt) : tRet te D σ H := h
theorem r_next (h : D.nx σ H) : tNext D σ H := h
theorem r_drop (h : te σ H fun _ H1 => D.nx σ H1) : tDrop te D σ H := h
theorem r_cont (h : D.ct σ H) : tCont D σ H := h
theorem r_brk (h : D.bk σ H) : tBreak D σ H := h
theorem r_gname {Q : L2.St → Hp → Prop} (h : Q (σ.set i (some v)) H) : gName i v σ H Q := h
theorem r_var (e : σ[i]? = some (some v)) (h : Q v H) : tVar i σ H Q := ⟨v, e, h⟩
theorem r_c (h : Q v H) : tC v σ H Q := h
theorem r_op (h : ta σ H fun x H1 => tb σ H1 fun y H2 => r x y H2 Q) : tOp r ta tb σ H Q := h
theorem r_un {r : V → Hp → VK → Prop} (h : ta σ H fun x H1 => r x H1 Q) : tUn r ta σ H Q := h
theorem r_neg {i : Int} (h : Q (.int (-i)) H) : rU (fun i => .int (-i)) (.int i) H Q := ⟨i, rfl, h⟩
theorem r_I0 {g : Int → Int → V} {i j : Int} (h : Q (g i j) H) : rI0 g (.int i) (.int j) H Q := ⟨i, j, rfl, rfl, h⟩
theorem r_I {C : Int → Int → Prop} {g : Int → Int → V} {i j : Int} (hc : C i j) (h : Q (g i j) H) : rI C g (.int i) (.int j) H Q := ⟨i, j, rfl, rfl, hc, h⟩
theorem r_test {t : TE} {Q : Bool → Hp → Prop} (h : t σ H fun x H' => ∃ k, x = .bl k ∧ Q k H') : tTest t σ H Q := h
theorem r_tB {t : TE} {Q : Bool → Hp → Prop} (h : t σ H fun x H' => ∃ k, x = .bl k ∧ Q k H') : tB t σ H Q := h
theorem r_bl {b : Bool} {P : Bool → Prop} (h : P b) : ∃ k, V.bl b = .bl k ∧ P k := ⟨b, rfl, h⟩
theorem r_not {t : TT} {Q : Bool → Hp → Prop} (h : t σ H fun c H1 => Q (!c) H1) : tNot t σ H Q := h
theorem r_and {t u : TT} {Q : Bool → Hp → Prop} (h : t σ H fun c H1 => if c = true then u σ H1 Q else Q false H1) : tAnd t u σ H Q := h
theorem r_or {t u : TT} {Q : Bool → Hp → Prop} (h : t σ H fun c H1 => if c = true then Q true H1 else u σ H1 Q) : tOr t u σ H Q := h
theorem r_ifE {t : TT} (h : t σ H fun c H1 => if c = true then ta σ H1 Q else tb σ H1 Q) : tIf t ta tb σ H Q := h
theorem r_notV {t : TE} (h : t σ H fun x H1 => ∃ k, x = .bl k ∧ Q (.bl (!k)) H1) : tNotV t σ H Q := h
theorem r_andV (h : ta σ H fun x H1 => ∃ k, x = .bl k ∧ if k = true then tb σ H1 Q else Q (.bl false) H1) : tAndV ta tb σ H Q := h
theorem r_orV (h : ta σ H fun x H1 => ∃ k, x = .bl k ∧ if k = true then Q (.bl true) H1 else tb σ H1 Q) : tOrV ta tb σ H Q := h
theorem r_chain (h : ta σ H fun x H1 => tb σ H1 fun y H2 => r x y H2 fun z H3 => ∃ k, z = .bl k ∧ (if k = true then tx σ H3 fun w' H4 => r' y w' H4 Q else Q (.bl false) H3)) : tChain r r' ta tb tx σ H Q := h
theorem r_iteD {p A B : Prop} [Decidable p] (h1 : p → A) (h2 : ¬ p → B) : if decide p = true then A else B := by
  by_cases h : p
  · rw [if_pos (decide_eq_true h)]; exact h1 h
  · rw [if_neg (by rw [decide_eq_false h]; exact Bool.false_ne_true)]; exact h2 h
theorem r_iteT {A B : Prop} (h : A) : if true = true then A else B := by rw [if_pos rfl]; exact h
theorem r_iteF {A B : Prop} (h : B) : if false = true then A else B := by rw [if_neg Bool.false_ne_true]; exact h
theorem r_iteNT {A B : Prop} (h : B) : if (!true) = true then A else B := by rw [if_neg (by decide)]; exact h
theorem r_iteNF {A B : Prop} (h : A) : if (!false) = true then A else B := by rw [if_pos (by decide)]; exact h
theorem r_iteN {b : Bool} {A B : Prop} (h1 : b = false → A) (h2 : b = true → B) : if (!b) = true then A else B := by
  cases b with
  | true => exact r_iteNT (h2 rfl)
  | false => exact r_iteNF (h1 rfl)
theorem r_cb {r : List V → Hp → VK → Prop} {t : TA} (h : t σ H fun vs H1 => r vs H1 Q) : tCB r t σ H Q := h
theorem r_call {sp : Sp} {dvs : List V} {E : XK} {t : TA} (h : t σ H fun vs H1 => sp (vs ++ dvs) H1 Q E) : tCall sp dvs E t σ H Q := h
theorem r_nil {Q : List V → Hp → Prop} (h : Q [] H) : tNil σ H Q := h
theorem r_cons {tr : TA} {Q : List V → Hp → Prop} (h : ta σ H fun x H1 => tr σ H1 fun xs H2 => Q (x :: xs) H2) : tCons ta tr σ H Q := h
theorem r_lst {t : TA} (h : t σ H fun xs H1 => xs.length ≤ sizeLine ∧ ∀ p, H1 p = none → Q (.ref p) (upd H1 p (.lst xs))) : tLst t σ H Q := h
theorem r_tup {t : TA} (h : t σ H fun xs H1 => xs.length ≤ sizeLine ∧ ∀ p, H1 p = none → Q (.ref p) (upd H1 p (.tup xs))) : tTup t σ H Q := h
theorem r_new {n m : Nat} {P : Prop} (h : n ≤ m) (q : P) : n ≤ m ∧ P := ⟨h, q⟩
theorem r_ixL {p : Addr} {xs : List V} {i : Int} {v : V} (hp : SqL K H p xs) (hi : atI xs i = some v) (h : Q v H) : rIxL K (.ref p) (.int i) H Q := ⟨p, xs, i, v, rfl, rfl, hp, hi, h⟩
theorem r_ixT {p : Addr} {xs : List V} {i : Int} {v : V} (hp : SqT K H p xs) (hi : atI xs i = some v) (h : Q v H) : rIxT K (.ref p) (.int i) H Q := ⟨p, xs, i, v, rfl, rfl, hp, hi, h⟩
theorem r_gsub {ti : TE} {t : TSet} {Q : L2.St → Hp → Prop} (h : ta σ H fun o H1 => ti σ H1 fun i H2 => t o i v H2 fun H3 => Q σ H3) : gSub ta ti t v σ H Q := h
theorem r_setL {p : Addr} {xs : List V} {k : Int} {j : Nat} {Q : Hp → Prop} (hp : H p = some (.lst xs)) (hk : ixN xs.length k = some j) (h : Q (upd H p (.lst (xs.set j v)))) : rSetL (.ref p) (.int k) v H Q := ⟨p, xs, k, j, rfl, rfl, hp, hk, h⟩
/-! ### heaps -/
theorem upd_old {p a : Addr} {o x : HO} (hp : H p = none) (ha : H a = some x) : upd H p o a = some x := by rw [upd_ne (ne_of_none ha hp)]; exact ha
theorem upd_diff {p a : Addr} {o x : HO} (n : a ≠ p) (ha : H a = some x) : upd H p o a = some x := by rw [upd_ne n]; exact ha
/-- what is not at a stays -/
def But (a : Addr) (H H' : Hp) : Prop := ∀ b o, b ≠ a → H b = some o → H' b = some o
end
end Th
namespace Th
open PySem PySem.Spec PyProof.Rows L2
/-! ### calls of own defs, by one fact each -/
structure CalT (P : Program) (w : World) (K : PySem.W.Frag) (mg : Str → Option Value) (base : Heap) (k : Nat) (x : Str) (sp : Sp) : Prop where
  ex : ∃ (f : Addr) (fd : FuncData) (ps : List Str), FnOk P w K mg base CX0 k f fd ps sp ∧ mg x = some (.ref f) ∧ PySem.W.keepIn K (.ref f) = true ∧ Binds K fd ps []
section
variable {X : Cx} {j k : Nat} {x : Str} {sp : Sp} {e : Expr} {es : List Expr} {p pos : Pos} {t tk : TA} {ks : List Str} {kws : List Keyword}
theorem pe_cc (c : CalT X.prog X.w X.K X.mg X.base k x sp) (hr : Room j X.A) (hk : k ≤ j) (hg : Gl X x) (ha : PA X (e :: es) t) (hdb : (x == ("__debug__" : Str)) = false := by decide)
    (he : starEach (e :: es) X.env = (false, eval e X.env) :: starEach es X.env := by rfl) (hpl : (backTo pos (starEach es X.env)).any (·.1) = false := by rfl) : PE X (.Call (.Name x p) (e :: es) [] pos) (tCall sp [] E0 t) := by
  obtain ⟨f, fd, ps, F, hm, kp, b⟩ := c.ex
  exact pe_call F (hr.mono hk) hg hm kp b .nil pass0 ha hdb he hpl
end
section
variable {K : PySem.W.Frag} {σ : L2.St} {H : Hp} {Q : VK}
theorem r_callN {n m : Nat} {sp : Sp} {gV : List V → List V → List V} {E : XK} {t tk : TA} (h : t σ H fun vs H1 => tk σ H1 fun zs H2 => vs.length = n ∧ zs.length = m ∧ sp (gV vs zs) H2 Q E) : tCallN n m sp gV E t tk σ H Q := h
/-! ### built-in functions, by names -/
def rInt1 : List V → Hp → VK → Prop := fun xs H Q => ∃ i, xs = [.int i] ∧ Q (.int i) H
theorem call_rInt1 {X : Cx} : CallR X (.type "int") rInt1 := fun pins s σ H xs us Q I r h => call_int1 pins s σ H xs us Q I r (.inl h)
theorem r_rInt1 {i : Int} (h : Q (.int i) H) : rInt1 [.int i] H Q := ⟨i, rfl, h⟩
def rIntB : List V → Hp → VK → Prop := fun xs H Q => ∃ i, xs = [.bl i] ∧ Q (.int (if i then 1 else 0)) H
theorem r_rIntB {i : Bool} (h : Q (.int (if i then 1 else 0)) H) : rIntB [.bl i] H Q := ⟨i, rfl, h⟩
def rAbs : List V → Hp → VK → Prop := fun xs H Q => ∃ i, xs = [.int i] ∧ Q (.int (if i < 0 then -i else i)) H
theorem call_rAbs {X : Cx} : CallR X (.builtin "abs") rAbs := call_abs
theorem r_rAbs {i : Int} (h : Q (.int (if i < 0 then -i else i)) H) : rAbs [.int i] H Q := ⟨i, rfl, h⟩
def rMin2 : List V → Hp → VK → Prop := fun xs H Q => ∃ i j, xs = [.int i, .int j] ∧ Q (.int (if j < i then j else i)) H
theorem call_rMin2 {X : Cx} (hc : X.calm = true := by rfl) : CallR X (.builtin "min") rMin2 := call_min2 hc
theorem r_rMin2 {i j : Int} (h : Q (.int (if j < i then j else i)) H) : rMin2 [.int i, .int j] H Q := ⟨i, j, rfl, h⟩
def rMax2 : List V → Hp → VK → Prop := fun xs H Q => ∃ i j, xs = [.int i, .int j] ∧ Q (.int (if j > i then j else i)) H
theorem call_rMax2 {X : Cx} (hc : X.calm = true := by rfl) : CallR X (.builtin "max") rMax2 := call_max2 hc
theorem r_rMax2 {i j : Int} (h : Q (.int (if j > i then j else i)) H) : rMax2 [.int i, .int j] H Q := ⟨i, j, rfl, h⟩
def rLenQ (K : PySem.W.Frag) : List V → Hp → VK → Prop := fun xs H Q => ∃ p ys, xs = [.ref p] ∧ (SqL K H p ys ∨ SqT K H p ys) ∧ Q (.int ys.length) H
theorem call_rLenQ {X : Cx} : CallR X (.builtin "len") (rLenQ X.K) := call_len_seq
theorem r_rLenQ {p : Addr} {ys : List V} (hp : SqL K H p ys ∨ SqT K H p ys) (h : Q (.int ys.length) H) : rLenQ K [.ref p] H Q := ⟨p, ys, rfl, hp, h⟩
def rLenZ : List V → Hp → VK → Prop := fun xs H Q => ∃ z, xs = [.str z] ∧ z.length ≤ sizeLine ∧ Q (.int z.length) H
theorem call_rLenZ {X : Cx} : CallR X (.builtin "len") rLenZ := call_len_str
theorem r_rLenZ {z : Str} (hz : z.length ≤ sizeLine) (h : Q (.int z.length) H) : rLenZ [.str z] H Q := ⟨z, rfl, hz, h⟩
def rAddZ : R2 := fun x y H Q => ∃ i j, x = .str i ∧ y = .str j ∧ i.length + j.length ≤ sizeLine ∧ Q (.str (i ++ j)) H
theorem r_addZ {i j : Str} (hz : i.length + j.length ≤ sizeLine) (h : Q (.str (i ++ j)) H) : rAddZ (.str i) (.str j) H Q := ⟨i, j, rfl, rfl, hz, h⟩
def rInC : R2 := fun x y H Q => ∃ (c : Nat) (z : Str), x = .str ⟨#[c]⟩ ∧ y = .str z ∧ Q (.bl (decide (c ∈ z.cps.toList))) H
theorem op_inSign {X : Cx} : OpR X (compareOp .In) rInC := op_in_sign
theorem r_inC {c : Nat} {z : Str} (h : Q (.bl (decide (c ∈ z.cps.toList))) H) : rInC (.str ⟨#[c]⟩) (.str z) H Q := ⟨c, z, rfl, rfl, h⟩
theorem r_eq {x y : V} (hs : scal x y = true) (h : Q (.bl (decide (x = y))) H) : rEq x y H Q := ⟨hs, h⟩
theorem r_ne {x y : V} (hs : scal x y = true) (h : Q (.bl (!decide (x = y))) H) : rNe x y H Q := ⟨hs, h⟩
theorem r_cat {l b : Addr} {xs zs : List V} (hl : H l = some (.lst xs)) (hb : H b = some (.lst zs)) (hz : xs.length + zs.length ≤ sizeLine) (h : ∀ p, H p = none → Q (.ref p) (upd H p (.lst (xs ++ zs)))) : rCat (.ref l) (.ref b) H Q := ⟨l, b, xs, zs, rfl, rfl, hl, hb, hz, h⟩
theorem r_rep {l : Addr} {k : Int} {xs : List V} (hl : H l = some (.lst xs)) (h0 : -(2 ^ 63) ≤ k) (h1 : k < 2 ^ 63) (hz : xs.length * k.toNat ≤ sizeLine) (h : ∀ p, H p = none → Q (.ref p) (upd H p (.lst (List.replicate k.toNat xs).flatten))) : rRep (.ref l) (.int k) H Q := ⟨l, k, xs, rfl, rfl, hl, h0, h1, hz, h⟩
theorem r_append {l : Addr} {xs : List V} {y : V} (hl : H l = some (.lst xs)) (hz : xs.length < sizeLine) (h : Q .non (upd H l (.lst (xs ++ [y])))) : rAppend (.ref l) [y] H Q := ⟨l, xs, y, rfl, rfl, hl, hz, h⟩
theorem r_bm {T : String} {r : V → List V → Hp → VK → Prop} {to : TE} {t : TA} (h : to σ H fun x H1 => tyV K T x H1 ∧ t σ H1 fun xs H2 => r x xs H2 Q) : tBM K T r to t σ H Q := h
theorem r_tyL {p : Addr} {xs : List V} {P : Prop} (hp : H p = some (.lst xs)) (h : P) : tyV K "list" (.ref p) H ∧ P := ⟨.inl ⟨rfl, _, SqL.of hp⟩, h⟩
theorem r_all {a : Addr} {bs : List Bool} (hp : SqL K H a (bs.map V.bl)) (h : Q (.bl (bs.all id)) H) : rAll K [.ref a] H Q := ⟨a, bs, rfl, hp, h⟩
end
end Th
namespace Th
open PySem PySem.Spec PyProof.Rows L2
/-! ### a def that may lean on it that nothing is being shown (repr of a list, a tuple, a dict) -/
structure FnG (P : Program) (w : World) (K : PySem.W.Frag) (mg : Str → Option Value) (base : Heap) (k : Nat) (f : Addr) (fd : FuncData) (ps : List Str) (sp : Sp) : Prop where
  len : ∀ vs H Q E, sp vs H Q E → vs.length = ps.length
  run : ∀ (A : Around) (outer : List Env) (s : Shared) (H : Hp) (args : Args) (us : List Value) (vs : List V) (Q : VK) (E : XK), Room k A → A.guards = some [] →
    Env0 P w K mg base A outer s H → BindsTo s fd args (ps.zip us) → Vals vs us → sp vs H Q E → codeAny (model P w) A (.call (.ref f) args) (CR CX0 outer P w H s Q E) s
section
variable {P : Program} {w : World} {K : PySem.W.Frag} {mg : Str → Option Value} {base : Heap}
theorem Fun.okG {x qual : Str} {st : Stmt} {f : Addr} {fd : FuncData} {N ps : List Str} {k : Nat} {sp : Sp} (F : Fun K x qual st f fd) (S : FnScope N ps (defScope st)) (hlen : ∀ vs H Q E, sp vs H Q E → vs.length = ps.length)
    (body : ∀ (cdv : Value) (A : Around) (outer : List Env) (s : Shared) (H : Hp) (vs : List V) (Q : VK) (E : XK), Room k (A.deeper (envOfC qual (defScope st) s.heap.objs.size f cdv)) → A.guards = some [] → sp vs H Q E →
      ∃ t, PSs (cxOf CX0 P w K mg base N qual (defScope st) f cdv A outer s H E).nox (defBody st) t ∧ t { nx := fun _ H' => Q .non H', rt := Q } (start N vs) H) : FnG P w K mg base (k + 1) f fd ps sp := by
  obtain ⟨oc, od, kV, doc, pm, an, cdv, ct, osl, e, lk, hcd⟩ := F.ex
  subst e
  constructor
  · exact hlen
  · intro A outer s H args us vs Q E room gd env0 bnd rel wish
    have stands : ∀ b o, base.get? b = some o → s.heap.get? b = some o := fun b o e => (env0.bs b o e).1
    have kin := env0.mod.kin.keeps stands
    have nol := env0.mod.nolimit.keeps stands
    apply codeAny_call_function room.depth (kin _ _ lk) rfl S.co S.gen rfl (PySem.W.codeRec_of kin hcd)
    refine bnd _ _ _ _ (wpAny_newFunctionEnv_cells S.kind ?kinds ?go)
    case kinds =>
      rintro ⟨n, v⟩ hy
      cases S.par n (List.of_mem_zip hy).1 with
      | inl q => exact Or.inl q
      | inr q => exact Or.inr ⟨q, PySem.W.cellsFrom_some _ _ _ (Or.inl q)⟩
    case go =>
      intro env he s1 inside
      subst he
      refine ⟨nol.keeps inside.toInCall.keep, codeAny_func ?_⟩
      obtain ⟨t, derived, wished⟩ := body cdv A outer s H vs Q E (room.deeper _) gd wish
      have J := inv_start (CX := CX0) (E := E) S room.hd env0 (hlen _ _ _ _ wish) rel inside
      refine wpAny_mono (derived.nox.run [] s1 _ H _ J wished) ?_ (fun e s' z => z)
      intro fl s' z
      cases fl with
      | next =>
        obtain ⟨σ', H', J', q⟩ := z
        exact ⟨V.non, H', J'.os, J'.bare, J'.base, J'.hok, rfl, q⟩
      | ret u =>
        obtain ⟨v, σ', H', J', rv, q⟩ := z
        exact ⟨v, H', J'.os, J'.bare, J'.base, J'.hok, rv, q⟩
      | brk =>
        obtain ⟨_, _, _, q⟩ := z
        exact q.elim
      | cont =>
        obtain ⟨_, _, _, q⟩ := z
        exact q.elim
/-- the law's own call -/
theorem lawG {k : Nat} {mb : Str → Option Value} {fa a : Addr} {fd : FuncData} {x : Str} {sp : Sp} {s₁ : Shared} {vs : List Value} {ns : List Int}
    (KX : K.In s₁.heap) (hns : s₁.heap.Ns mainGlobals mg) (hb : s₁.heap.Ns builtinsNs mb) (hbb : ∀ x : Str, x ≠ "__name__" → mb x = bootBuiltins x) (hlim : s₁.heap.NoLimit) (hg : s₁.gens = #[])
    (ha : s₁.heap.get? a = some { cls := .type "list", data := .seq vs.toArray }) (hi : IntsAre vs ns) (hl : ns.length ≤ sizeLine) (room : Room k callerA)
    (F : ∀ base : Heap, K.In base → base.Ns mainGlobals mg → FnG P w K mg base k fa fd [x] sp) (hbind : ∀ (s : Shared) (u : Value), BindsTo s fd ⟨[u], []⟩ [(x, u)])
    (hsp : ∀ H : Hp, Only H → SqL K H a (ns.map V.int) → sp [.ref a] H (fun v _ => v = .bl true) fun _ _ _ => False) :
    codeAny (model P w) callerA (.call (.ref fa) ⟨[.ref a], []⟩) (fun r s' => r = .ok (.ret (.bool true)) ∧ OldK s₁.heap s'.heap ∧ s'.os = s₁.os ∧ AllBare s'.gens) s₁ := by
  have rv : Vals (ns.map V.int) vs := vals_ints hi
  have hlen : vs.length = ns.length := by have := rv.length; rw [List.length_map] at this; omega
  have main : ∀ H : Hp, Only H → SqL K H a (ns.map V.int) → HOk P w H s₁.heap → (∀ b u, H b = some u → b = a) → (∀ u, H a = some u → K.lookup a = none) →
      codeAny (model P w) callerA (.call (.ref fa) ⟨[.ref a], []⟩) (fun r s' => r = .ok (.ret (.bool true)) ∧ OldK s₁.heap s'.heap ∧ s'.os = s₁.os ∧ AllBare s'.gens) s₁ := by
    intro H only sq hok onlyA notK
    have dictFree : ∀ (b : Addr) (o : Obj) (es : Array DictEntry) (ep : Nat), s₁.heap.get? b = some o → o.data = .dict es ep → H b = none := by
      intro b o es ep ho hd
      cases hq : H b with
      | none => rfl
      | some u =>
        rw [onlyA b u hq, ha] at ho
        cases ho
        exact nomatch hd
    have nsB : ∀ {b : Addr} {m : Str → Option Value}, s₁.heap.Ns b m → (hidT s₁.heap H).Ns b m := by
      rintro b m ⟨o, es, ep, ho, hd, rest⟩
      exact ⟨o, es, ep, hidT_get ho (dictFree b o es ep ho hd), hd, rest⟩
    have kB : K.In (hidT s₁.heap H) := by
      intro b o ho
      refine hidT_get (KX b o ho) ?_
      cases hq : H b with
      | none => rfl
      | some u =>
        have hba := onlyA b u hq
        rw [hba] at ho hq
        rw [notK u hq] at ho
        cases ho
    obtain ⟨mc, lim1, lim2⟩ := hlim
    have modl : Mod K mg (hidT s₁.heap H) := ⟨kB, nsB hns, ⟨mb, nsB hb, hbb⟩, ⟨mc, nsB lim1, lim2⟩⟩
    have noFr : ∀ b ∈ frs [], H b = none := fun b z => by cases z
    have E0' : Env0 P w K mg (hidT s₁.heap H) callerA [] s₁ H := ⟨rfl, modl, fun b o e => of_hidT e, by rw [hidT_size]; exact Nat.le_refl _, trivial, noFr, hok, .of_eq hg⟩
    have ran := (F _ kB (nsB hns)).run callerA [] s₁ H ⟨[.ref a], []⟩ [.ref a] [.ref a] _ _ room rfl E0' (hbind s₁ (.ref a)) (.cons rfl .nil) (hsp H only sq)
    refine codeAny_mono ran ?_
    intro r s' z
    cases r with
    | error e => exact False.elim z
    | ok fl =>
      cases fl with
      | ret u =>
        obtain ⟨v, H', os, bare, un, hok', rel, isT⟩ := z
        have isT' : v = .bl true := isT
        rw [isT'] at rel
        have hu : u = Value.bool true := rel
        refine ⟨by rw [hu], OldK.of_keep ?_, os, bare⟩
        intro b o ho
        cases hq : H b with
        | none => exact un.keep b o ho hq (fun z => by cases z) (fun z => by cases z)
        | some u2 =>
          cases only b with
          | inl z => rw [hq] at z; cases z
          | inr z =>
            obtain ⟨ob, xs, z⟩ := z
            have ⟨g1, _⟩ := hok b _ z
            have ⟨g2, _⟩ := hok' b _ (un.frzs b ob _ z)
            rw [ho] at g1
            cases g1
            exact g2
      | next => exact False.elim z
      | brk => exact False.elim z
      | cont => exact False.elim z
  by_cases hk : K.lookup a = none
  · let script : HO := .frz { cls := .type "list", data := .seq vs.toArray } (.lst (ns.map V.int))
    have atA : ∀ b u, (if b = a then some script else none) = some u → b = a ∧ u = script := by
      intro b u z
      by_cases e : b = a
      · rw [if_pos e] at z; cases z; exact ⟨e, rfl⟩
      · rw [if_neg e] at z; cases z
    refine main (fun b => if b = a then some script else none) ?_ (.inl (.inr ⟨_, if_pos rfl⟩)) ?_ (fun b u z => (atA b u z).1) (fun _ _ => hk)
    · intro b
      by_cases e : b = a
      · exact .inr ⟨_, _, if_pos e⟩
      · exact .inl (if_neg e)
    · intro b u z
      obtain ⟨e1, e2⟩ := atA b u z
      rw [e1, e2]
      exact ⟨ha, by rw [List.length_map]; exact hl, vs, _, rv, ha⟩
  · obtain ⟨o, ho⟩ : ∃ o, K.lookup a = some o := by
      cases q : K.lookup a with
      | none => exact absurd q hk
      | some o => exact ⟨o, rfl⟩
    have same := KX a o ho
    rw [ha] at same
    cases same
    exact main (fun _ => none) (fun _ => .inl rfl) (.inr ⟨_, vs.toArray, _, ho, rfl, rfl, rfl, by rw [List.size_toArray, hlen]; exact hl, rv⟩) (fun b u z => nomatch z) (fun b u z => nomatch z) (fun u z => nomatch z)
end
/-! ### repr of data -/
/-! ### a text times an int -/
theorem fold_rep (a : Array Nat) : ∀ (n : Nat) (acc : Array Nat), ((List.replicate n a).foldl (· ++ ·) acc).toList = acc.toList ++ (List.replicate n a.toList).flatten
  | 0, acc => by simp
  | n + 1, acc => by
    rw [List.replicate_succ, List.foldl_cons, fold_rep a n, List.replicate_succ, List.flatten_cons, Array.toList_append, List.append_assoc]
theorem fold_rep_size (a : Array Nat) (n : Nat) : ((List.replicate n a).foldl (· ++ ·) #[]).size = n * a.size := by
  have h := congrArg List.length (fold_rep a n #[])
  simpa using h
def repZ (z : Str) (k : Int) : Str := if k < 1 then Str.empty else if (k == 1 || z.length == 0) = true then z else ⟨(List.replicate k.toNat z.cps).foldl (· ++ ·) #[]⟩
def rMulZ : R2 := fun x y H Q => ∃ z k, x = .str z ∧ y = .int k ∧ z.length ≤ 1000 ∧ -(2 ^ 62) ≤ k ∧ k ≤ 5000 ∧ Q (.str (repZ z k)) H
theorem op_mulS {X : Cx} : OpR X (binaryOp .Mult) rMulZ := by
  intro pins s σ H x y v u Q I rx ry h
  obtain ⟨z, k, rfl, rfl, hz, h0, h1, q⟩ := h
  obtain ⟨t, rfl⟩ := rx
  obtain ⟨t', rfl⟩ := ry
  have hzi : (z.length : Int) ≤ 1000 := by omega
  refine PySem.P.mul_str ?_ (fun hk _ => ?_) (fun hk _ => ?_) ?_
  · rw [decide_eq_false (by omega : ¬ k < -(2 ^ 63 : Int)), decide_eq_false (by omega : ¬ k ≥ 2 ^ 63)]; rfl
  · intro hbig
    have hd : (5000 : Int) ≤ (2 ^ 63 - 1) / k := by
      rw [Int.le_ediv_iff_mul_le (by omega)]
      have : (5000 : Int) * k ≤ 5000 * 5000 := Int.mul_le_mul_of_nonneg_left h1 (by decide)
      omega
    omega
  · unfold Builtin.Str.tooLong
    rw [decide_eq_false]
    have hk5 : k.toNat ≤ 5000 := by omega
    have := Nat.mul_le_mul hz hk5
    rw [sizeLine_eq]
    omega
  · unfold repZ at q
    by_cases c1 : k < 1
    · rw [if_pos c1] at q ⊢
      exact ⟨by decide, ⟨.str _, H, I.tok _, ⟨_, rfl⟩, q⟩⟩
    · rw [if_neg c1] at q ⊢
      by_cases c2 : (k == 1 || z.length == 0) = true
      · rw [if_pos c2] at q ⊢
        exact ⟨.str z, H, I, ⟨t, rfl⟩, q⟩
      · rw [if_neg c2] at q ⊢
        refine ⟨?_, ⟨.str _, H, I.tok _, ⟨_, rfl⟩, q⟩⟩
        show ((List.replicate k.toNat z.cps).foldl (· ++ ·) #[]).size ≤ sizeLine
        rw [fold_rep_size]
        have hk5 : k.toNat ≤ 5000 := by omega
        have hz' : z.cps.size ≤ 1000 := hz
        have := Nat.mul_le_mul hk5 hz'
        rw [sizeLine_eq]
        omega
theorem r_mulZ {H : Hp} {Q : VK} {z : Str} {k : Int} (hz : z.length ≤ 1000) (h0 : -(2 ^ 62) ≤ k) (h1 : k ≤ 5000) (h : Q (.str (repZ z k)) H) : rMulZ (.str z) (.int k) H Q := ⟨z, k, rfl, rfl, hz, h0, h1, h⟩
/-! ### comprehensions without a test, whose element only reads (and makes) -/
theorem same_new {H : Hp} {p : Addr} {o : HO} (h : H p = none) : Same H (upd H p o) := fun b u e => by rw [upd_ne (ne_of_none e h)]; exact e
theorem walk_strC {z : Str} : Walk (Its z) (z.cps.toList.map fun c => V.str ⟨#[c]⟩).length (fun _ => True) (YAt (z.cps.toList.map fun c => V.str ⟨#[c]⟩)) := by
  have e : (z.cps.toList.map fun c => V.str ⟨#[c]⟩).length = z.cps.size := by simp
  rw [e]
  refine walk_str.mono (fun _ h => h) ?_
  rintro i H x H' hi _ ⟨e1, c, hc, rfl⟩
  refine ⟨e1, ?_⟩
  rw [List.getElem?_map, Array.getElem?_toList, hc]
  rfl
theorem lc_map {α : Type} {J : It} {cs : List α} {enc f : α → V} {G : Hp → Prop} (w : Walk J (cs.map enc).length G (YAt (cs.map enc))) {j : Nat} {vs : List Nat} {σ : L2.St} {H1 : Hp} {D : Addr} {te : TE} {Qd : Hp → Prop}
    (hD : H1 D = none) (hz : cs.length < sizeLine) (hG : ∀ H', Same H1 H' → G H') (hw : ∀ x, wipe ((wipe σ vs).set j (some x)) vs = wipe σ vs)
    (he : ∀ c ∈ cs, ∀ H', Same H1 H' → ∀ Q : VK, (∀ H2, Same H' H2 → Q (f c) H2) → te ((wipe σ vs).set j (some (enc c))) H' Q)
    (hd : ∀ H', Same H1 H' → H' D = some (.lst (cs.map f)) → Qd H') :
    ∃ W : Nat → Nat → Hp → Prop, (∃ m, W 0 m (upd H1 D (.lst []))) ∧ ∀ i m H, W i m H →
      (J.stop i H ∧ Qd H) ∨ (J.go i H ∧ ∃ Nx : Hp → Prop, (∀ H', Nx H' → ∃ m', m' < m ∧ W (i + 1) m' H') ∧ ∀ x H', J.yld i H x H' → gName j x (wipe σ vs) H' fun σ2 H2 => wipe σ2 vs = wipe σ vs ∧ tYes σ2 H2 fun b H3 =>
        if b = true then te σ2 H3 fun y H4 => ∃ acc, H4 D = some (.lst acc) ∧ acc.length < sizeLine ∧ Nx (upd H4 D (.lst (acc ++ [y]))) else Nx H3) := by
  refine lc_it w (fun i H => Same H1 H ∧ H D = some (.lst ((cs.take i).map f))) ⟨same_new hD, by rw [upd_same]; rfl⟩ (fun i H _ p => hG H p.1) ?_ ?_
  · rintro i x H H' hi ⟨s1, hl⟩ ⟨rfl, hx⟩
    rw [List.length_map] at hi
    have hx' : x = enc cs[i] := by
      rw [List.getElem?_map, List.getElem?_eq_getElem hi] at hx
      exact (Option.some.inj hx).symm
    subst hx'
    refine ⟨hw _, ?_⟩
    unfold tYes
    dsimp only
    rw [if_pos rfl]
    refine he cs[i] (List.getElem_mem hi) H' s1 _ ?_
    intro H2 s2
    refine ⟨_, s2 _ _ hl, ?_, ?_, ?_⟩
    · rw [List.length_map, List.length_take]; omega
    · intro b o e
      have nb : b ≠ D := ne_of_none e hD
      rw [upd_ne nb]
      exact s2 _ _ (s1 _ _ e)
    · rw [upd_same, ← List.take_append_getElem hi, List.map_append]
      rfl
  · rintro H ⟨s1, hl⟩
    rw [List.length_map, List.take_length] at hl
    exact hd H s1 hl
/-! ### isinstance of values of built-in types -/
theorem r_isi {K : PySem.W.Frag} {H : Hp} {Q : VK} {x : V} {T n : String} (b : Bool) (ht : TyX K H x (.type T)) (hk : kitB T n = some b) (h : Q (.bl b) H) : rIsi K [x, .ty n] H Q := ⟨x, .ty n, .type T, .type n, b, rfl, .ty n, ht, kit_ty hk, h⟩
theorem r_isiT2 {K : PySem.W.Frag} {H : Hp} {Q : VK} {x : V} {T n m : String} {tp : Addr} (b c : Bool) (hT : H tp = some (.tup [.ty n, .ty m])) (ht : TyX K H x (.type T)) (hk : kitB T n = some b) (hk2 : kitB T m = some c) (h : Q (.bl (b || c)) H) : rIsiT K [x, .ref tp] H Q := by
  refine ⟨x, tp, _, .type T, [.type n, .type m], (b || c), rfl, hT, .cons (.ty n) (.cons (.ty m) .nil), ht, ?_, h⟩
  refine kitAny_cons (b := b) (kit_ty hk) (fun e => ?_) (fun e => by rw [e]; rfl)
  refine kitAny_cons (b := c) (kit_ty hk2) (fun e2 => ?_) (fun e2 => by rw [e2]; simp)
  rw [e, e2]
  exact kitAny_nil
theorem same_tyB {K : PySem.W.Frag} {H H' : Hp} {x : V} {t : Value} (e : Same H H') (h : TyX K H x t) : TyX K H' x t := by
  cases h with
  | base b =>
    cases b with
    | non => exact .base .non
    | bl y => exact .base (.bl y)
    | int y => exact .base (.int y)
    | str y => exact .base (.str y)
    | flt y => exact .base (.flt y)
    | lst z => exact .base (.lst (e _ _ z))
    | frz z => exact .base (.frz (e _ _ z))
    | tup z => exact .base (.tup (e _ _ z))
    | dK z => exact .base (.dK (e _ _ z))
    | dT z => exact .base (.dT (e _ _ z))
    | ins z cl ha hn htk hm => exact .base (.ins (e _ _ z) cl ha hn htk hm)
  | byt y => exact .byt y
  | set z => exact .set (e _ _ z)
  | kList z c => exact .kList z c
  | kTuple z c => exact .kTuple z c
  | kDict z c => exact .kDict z c
  | fTuple z => exact .fTuple (e _ _ z)
  | fDict z => exact .fDict (e _ _ z)
theorem r_r1 {H : Hp} {Q : VK} {k : V → Hp → VK → Prop} {x : V} (h : k x H Q) : r1 k [x] H Q := h
theorem r_bytesL {K : PySem.W.Frag} {H : Hp} {Q : VK} {p : Addr} {ns : List Int} (hp : SqL K H p (ns.map V.int)) (hn : ∀ n ∈ ns, 0 ≤ n ∧ n < 256) (h : Q (.byt (byteArr ns)) H) : kByts K (.ref p) H Q := .inr ⟨p, ns, rfl, hp, hn, h⟩
/-! ### walks -/
theorem r_lc {wi : TI} {g : TG} {tt : TT} {te : TE} {vs : List Nat} {σ : L2.St} {H : Hp} {Q : VK} (h : wi σ H fun J H1 => ∀ D, H1 D = none → ∃ W : Nat → Nat → Hp → Prop, (∃ m, W 0 m (upd H1 D (.lst []))) ∧ ∀ i m H, W i m H →
  (J.stop i H ∧ Q (.ref D) H) ∨ (J.go i H ∧ ∃ Nx : Hp → Prop, (∀ H', Nx H' → ∃ m', m' < m ∧ W (i + 1) m' H') ∧ ∀ x H', J.yld i H x H' → g x (wipe σ vs) H' fun σ2 H2 => wipe σ2 vs = wipe σ vs ∧ tt σ2 H2 fun b H3 =>
    if b = true then te σ2 H3 fun y H4 => ∃ acc, H4 D = some (.lst acc) ∧ acc.length < sizeLine ∧ Nx (upd H4 D (.lst (acc ++ [y]))) else Nx H3)) : tLc wi g tt te vs σ H Q := h
theorem r_for {wi : TI} {g : TG} {tb : TS} {D : Ends} {σ : L2.St} {H : Hp} (h : wi σ H fun J H1 => ∃ W : Nat → Nat → L2.St → Hp → Prop, (∃ m, W 0 m σ H1) ∧ ∀ i m σ H, W i m σ H →
  (J.stop i H ∧ D.nx σ H) ∨ (J.go i H ∧ ∃ N : L2.St → Hp → Prop, (∀ σ' H', N σ' H' → ∃ m', m' < m ∧ W (i + 1) m' σ' H') ∧ ∀ x H', J.yld i H x H' → g x σ H' fun σ2 H2 => tb { D with nx := N, ct := N, bk := D.nx } σ2 H2)) : tFor wi g tb D σ H := h
theorem r_iStr {te : TE} {σ : L2.St} {H : Hp} {R : It → Hp → Prop} (h : te σ H fun v H1 => ∃ x, v = .str x ∧ R (Its x) H1) : iStr te σ H R := h
theorem r_strE {z : Str} {P : Str → Prop} (h : P z) : ∃ x, V.str z = .str x ∧ P x := ⟨z, rfl, h⟩
theorem r_iList {K : PySem.W.Frag} {tl : TE} {σ : L2.St} {H : Hp} {R : It → Hp → Prop} (h : tl σ H fun x H1 => ∃ a, x = .ref a ∧ (∃ xs, SqL K H1 a xs) ∧ R (Itl K a) H1) : iList K tl σ H R := h
theorem r_listE {K : PySem.W.Frag} {H : Hp} {a : Addr} {xs : List V} {P : Addr → Prop} (hp : SqL K H a xs) (h : P a) : ∃ b, V.ref a = .ref b ∧ (∃ xs, SqL K H b xs) ∧ P b := ⟨a, rfl, ⟨xs, hp⟩, h⟩
theorem r_iRng1 {ta : TA} {σ : L2.St} {H : Hp} {R : It → Hp → Prop} (h : ta σ H fun vs H1 => ∃ j : Int, vs = [.int j] ∧ -(2 ^ 62) ≤ j ∧ j < 2 ^ 62 ∧ R (Itr 0 j.toNat) H1) : iRng1 ta σ H R := h
theorem r_rngE {j : Int} {P : Int → Prop} (h0 : -(2 ^ 62) ≤ j) (h1 : j < 2 ^ 62) (h : P j) : ∃ i : Int, [V.int j] = [.int i] ∧ -(2 ^ 62) ≤ i ∧ i < 2 ^ 62 ∧ P i := ⟨j, rfl, h0, h1, h⟩
/-! ### texts cut at a sign; in a written tuple -/
def rSplit : V → List V → Hp → VK → Prop := fun x xs H Q => ∃ a b, x = .str a ∧ xs = [.str b] ∧ (b.length == 0) = false ∧ a.length + 2 ≤ sizeLine ∧ rNewStrs (Txt.split a b) H Q
theorem pe_splitN {X : Cx} {E : Expr} {to te : TE} (hst : PE X E (tM1 (fun x xs H Q => ∃ a b, x = .str a ∧ xs = [.str b] ∧ (b.length == 0) = false ∧ a.length + 2 ≤ sizeLine ∧ rNewStrs (Txt.split a b) H Q) to te)) : PE X E (tM1 rSplit to te) := hst
section
variable {K : PySem.W.Frag} {σ : L2.St} {H : Hp} {Q : VK}
theorem r_m1 {r : V → List V → Hp → VK → Prop} {to te : TE} (h : to σ H fun x H1 => (∃ a, x = .str a) ∧ te σ H1 fun y H2 => r x [y] H2 Q) : tM1 r to te σ H Q := h
theorem r_isZ {z : Str} {P : Prop} (h : P) : (∃ a, V.str z = .str a) ∧ P := ⟨⟨z, rfl⟩, h⟩
theorem r_split {a b : Str} (hb : (b.length == 0) = false) (ha : a.length + 2 ≤ sizeLine) (h : ∀ p, H p = none → Q (.ref p) (upd H p (.lst ((Txt.split a b).map V.str)))) : rSplit (.str a) [.str b] H Q := ⟨a, b, rfl, rfl, hb, ha, h⟩
theorem r_inT {p : Addr} {x : V} {xs : List V} (hp : SqT K H p xs) (hx : flatV x = true) (ha : xs.all flatV = true) (h : Q (.bl (inV x xs)) H) : rIn K false x (.ref p) H Q := ⟨p, xs, rfl, .inr hp, hx, ha, h⟩
theorem r_inL {p : Addr} {x : V} {xs : List V} (hp : SqL K H p xs) (hx : flatV x = true) (ha : xs.all flatV = true) (h : Q (.bl (inV x xs)) H) : rIn K false x (.ref p) H Q := ⟨p, xs, rfl, .inl hp, hx, ha, h⟩
theorem r_slS {z : Str} {lo hi : Option Int} (hz : z.length ≤ sizeLine) (h : Q (.str (cutS z lo hi)) H) : rSlS (.str z) lo hi H Q := ⟨z, rfl, hz, h⟩
theorem r_sl {r : V → Option Int → Option Int → Hp → VK → Prop} {te : TE} {tl th : TO} (h : te σ H fun x H1 => tl σ H1 fun l H2 => th σ H2 fun u H3 => r x l u H3 Q) : tSl r te tl th σ H Q := h
theorem r_noPart {Q : Option Int → Hp → Prop} (h : Q none H) : tNoPart σ H Q := h
theorem r_part {t : TE} {Q : Option Int → Hp → Prop} (h : t σ H fun x H1 => ∃ i, x = .int i ∧ Q (some i) H1) : tPart t σ H Q := h
theorem r_partE {i : Int} {P : Int → Prop} (h : P i) : ∃ j, V.int i = .int j ∧ P j := ⟨i, rfl, h⟩
end
/-! ### rules that lean on the written part, with it told -/
theorem op_inK {X : Cx} (K : PySem.W.Frag) (h : X.K = K := by rfl) : OpR X (compareOp .In) (rIn K false) := h ▸ op_in_seq
theorem op_notInK {X : Cx} (K : PySem.W.Frag) (h : X.K = K := by rfl) : OpR X (compareOp .NotIn) (rIn K true) := h ▸ op_notIn_seq
theorem ix_listK {X : Cx} (K : PySem.W.Frag) (h : X.K = K := by rfl) : IxR X (rIxL K) := h ▸ ix_list
theorem ix_tupK {X : Cx} (K : PySem.W.Frag) (h : X.K = K := by rfl) : IxR X (rIxT K) := h ▸ ix_tup
theorem call_lenK {X : Cx} (K : PySem.W.Frag) (h : X.K = K := by rfl) : CallR X (.builtin "len") (rLenQ K) := h ▸ call_rLenQ
theorem call_isiK1 {X : Cx} (K : PySem.W.Frag) (h : X.K = K := by rfl) : CallR X (.builtin "isinstance") (rIsi K) := h ▸ call_isi
theorem call_isiK2 {X : Cx} (K : PySem.W.Frag) (h : X.K = K := by rfl) : CallR X (.builtin "isinstance") (rIsiT K) := h ▸ call_isiT
theorem call_allK {X : Cx} (K : PySem.W.Frag) (hc : X.calm = true := by rfl) (h : X.K = K := by rfl) : CallR X (.builtin "all") (rAll K) := h ▸ cr_all hc
theorem sl_listK {X : Cx} (K : PySem.W.Frag) (h : X.K = K := by rfl) : SlR X (rSlL K) := h ▸ sl_list
/-! ### two ways to one int, joined -/
theorem r_joinI {σ σ' : L2.St} {H : Hp} {Q : VK} {ta tb : TE} {p : Prop} [Decidable p] (P : Int → Prop) (k : ∀ c : Int, P c → Q (.int c) H) (h1 : ∀ Q' : VK, (∀ c : Int, P c → Q' (.int c) H) → p → ta σ H Q') (h2 : ∀ Q' : VK, (∀ c : Int, P c → Q' (.int c) H) → ¬ p → tb σ' H Q') : if decide p = true then ta σ H Q else tb σ' H Q :=
  r_iteD (h1 Q k) (h2 Q k)
/-! ### several names at once; slices; whiles -/
section
variable {K : PySem.W.Frag} {σ : L2.St} {H : Hp} {Q : VK} {D : Ends}
theorem r_par {i j : Nat} {ta : TA} (h : ta σ H fun vs H1 => ∃ v w, vs = [v, w] ∧ D.nx ((σ.set i (some v)).set j (some w)) H1) : tPar i j ta D σ H := h
theorem r_pair {v w : V} {P : V → V → Prop} (h : P v w) : ∃ a b, [v, w] = [a, b] ∧ P a b := ⟨v, w, rfl, h⟩
theorem r_par3 {i j l : Nat} {ta : TA} (h : ta σ H fun vs H1 => ∃ u v w, vs = [u, v, w] ∧ D.nx (((σ.set i (some u)).set j (some v)).set l (some w)) H1) : tPar3 i j l ta D σ H := h
theorem r_trip {u v w : V} {P : V → V → V → Prop} (h : P u v w) : ∃ a b c, [u, v, w] = [a, b, c] ∧ P a b c := ⟨u, v, w, rfl, h⟩
theorem r_gtup {n : Nat} {t : TGs} {p : Addr} {xs : List V} {Q : L2.St → Hp → Prop} (hp : SqT K H p xs) (hn : xs.length = n) (h : t xs σ H Q) : gTup K n t (.ref p) σ H Q := ⟨p, xs, rfl, hp, hn, h⟩
theorem r_gcons {t : TG} {u : TGs} {v : V} {r : List V} {Q : L2.St → Hp → Prop} (h : t v σ H fun σ' H' => u r σ' H' Q) : gCons t u (v :: r) σ H Q := ⟨v, r, rfl, h⟩
theorem r_gnil {Q : L2.St → Hp → Prop} (h : Q σ H) : gNil [] σ H Q := ⟨rfl, h⟩
theorem r_slL {p : Addr} {xs : List V} {lo hi : Option Int} (hp : SqL K H p xs) (h : ∀ q, H q = none → Q (.ref q) (upd H q (.lst (cutV xs lo hi)))) : rSlL K (.ref p) lo hi H Q := ⟨p, xs, rfl, hp, h⟩
theorem r_iTup {tl : TE} {R : It → Hp → Prop} (h : tl σ H fun x H1 => ∃ a, x = .ref a ∧ (∃ xs, SqT K H1 a xs) ∧ R (Itt K a) H1) : iTup K tl σ H R := h
theorem r_tupE {a : Addr} {xs : List V} {P : Addr → Prop} (hp : SqT K H a xs) (h : P a) : ∃ b, V.ref a = .ref b ∧ (∃ xs, SqT K H b xs) ∧ P b := ⟨a, rfl, ⟨xs, hp⟩, h⟩
end
/-- a while by a number that falls; the body is read for any next N -/
theorem r_while {c : TT} {tb : TS} {D : Ends} {σ : L2.St} {H : Hp} (W : Nat → L2.St → Hp → Prop) (m0 : Nat) (h0 : W m0 σ H)
    (hs : ∀ m σ H, W m σ H → ∀ N : L2.St → Hp → Prop, (∀ m' σ' H', m' < m → W m' σ' H' → N σ' H') → c σ H fun b H1 => if b = true then tb { D with nx := N, ct := N, bk := D.nx } σ H1 else D.nx σ H1)
    (mono : ∀ σ H (Q Q' : Bool → Hp → Prop), (∀ b H1, Q b H1 → Q' b H1) → c σ H Q → c σ H Q') : tWhile c tb D σ H := by
  refine ⟨W, ⟨m0, h0⟩, fun m σ H w => ?_⟩
  refine mono σ H _ _ (fun b H1 q => ?_) (hs m σ H w (fun σ' H' => ∃ m', m' < m ∧ W m' σ' H') (fun m' σ' H' l w' => ⟨m', l, w'⟩))
  cases b with
  | true =>
    rw [if_pos rfl] at q ⊢
    exact ⟨_, fun σ' H' z => z, q⟩
  | false =>
    rw [if_neg Bool.false_ne_true] at q ⊢
    exact q
theorem pg_tupK {X : Cx} (K : PySem.W.Frag) {T : Expr} {n : Nat} {t : TGs} (h : PG X T (gTup X.K n t)) (hK : X.K = K := by rfl) : PG X T (gTup K n t) := hK ▸ h
def rLenY : List V → Hp → VK → Prop := fun xs H Q => ∃ y : Array UInt8, xs = [.byt y] ∧ y.size ≤ sizeLine ∧ Q (.int y.size) H
theorem call_rLenY {X : Cx} : CallR X (.builtin "len") rLenY := fun pins s σ H xs us Q I r h => by
  obtain ⟨y, rfl, hz, q⟩ := h
  exact call_len pins s σ H _ us Q I r ⟨.byt y, y.size, rfl, (show y.size ≤ sizeLine ∧ y.size = y.size from ⟨hz, rfl⟩), q⟩
theorem r_rLenY {H : Hp} {Q : VK} {y : Array UInt8} (hz : y.size ≤ sizeLine) (h : Q (.int y.size) H) : rLenY [.byt y] H Q := ⟨y, rfl, hz, h⟩
/-! ### defs with keyword-only parameters; attributes -/
theorem funD_ok0 {P : Program} {w : World} {K : PySem.W.Frag} {mg : Str → Option Value} {base : Heap} {x qual : Str} {params : Arguments} {body : List Stmt} {scope : Scope} {dvs : List V} {kws : List (Str × V)} {f : Addr} {fd : FuncData} {N ps : List Str} {k : Nat} {sp : Sp}
    (F : FunD K x qual params body scope dvs kws f fd) (S : FnScope N ps scope) (len : ∀ vs H Q E, sp vs H Q E → vs.length = ps.length)
    (told : ∀ (cdv : Value) (A : Around) (outer : List Env) (s : Shared) (H : Hp) (vs : List V) (Q : VK) (E : XK), Room k (A.deeper (envOfC qual scope s.heap.objs.size f cdv)) → sp vs H Q E →
      ∃ t, PSs (cxOf CX0 P w K mg base N qual scope f cdv A outer s H E).nox body t ∧ t { nx := fun _ H' => Q .non H', rt := Q } (start N vs) H) : FnOk P w K mg base CX0 (k + 1) f fd ps sp :=
  F.ok S len fun cdv A outer s H vs Q E hr h => by
    obtain ⟨t, d, q⟩ := told cdv A outer s H vs Q E hr h
    exact ⟨t, d.nox, q⟩
section
variable {K : PySem.W.Frag} {σ : L2.St} {H : Hp} {Q : VK} {D : Ends}
theorem r_sfld {ta tv : TE} {f : Str} (h : tv σ H fun y H1 => ta σ H1 fun x H2 => ∃ a C dx fs, x = .ref a ∧ H2 a = some (.ins C dx fs) ∧ Cls K C ∧ NoAttr K C f ∧ fs.length < 1000 ∧ D.nx σ (upd H2 a (.ins C dx (putF f y fs)))) : sFld K ta tv f D σ H := h
theorem r_sfldE {p C dx : Addr} {fs : List (Str × V)} {f : Str} {R : Addr → Addr → Addr → List (Str × V) → Prop} (hp : H p = some (.ins C dx fs)) (hc : Cls K C) (hn : NoAttr K C f) (hl : fs.length < 1000) (h : R p C dx fs) :
    ∃ a C dx fs, V.ref p = .ref a ∧ H a = some (.ins C dx fs) ∧ Cls K C ∧ NoAttr K C f ∧ fs.length < 1000 ∧ R a C dx fs := ⟨p, C, dx, fs, rfl, hp, hc, hn, hl, h⟩
theorem r_fld {te : TE} {f : Str} (h : te σ H fun x H1 => ∃ a C dx fs v, x = .ref a ∧ H1 a = some (.ins C dx fs) ∧ Cls K C ∧ NoAttr K C f ∧ fs.lookup f = some v ∧ Q v H1) : tFld K te f σ H Q := h
theorem r_fldE {p C dx : Addr} {fs : List (Str × V)} {f : Str} {v : V} {R : V → Prop} (hp : H p = some (.ins C dx fs)) (hc : Cls K C) (hn : NoAttr K C f) (hl : fs.lookup f = some v) (h : R v) :
    ∃ a C dx fs v, V.ref p = .ref a ∧ H a = some (.ins C dx fs) ∧ Cls K C ∧ NoAttr K C f ∧ fs.lookup f = some v ∧ R v := ⟨p, C, dx, fs, v, rfl, hp, hc, hn, hl, h⟩
end
/-! ### f-strings; repr of an own object -/
def tJoin (ts : List TE) : TE := fun σ H Q => tJs ts Str.empty σ H fun out H1 => Q (.str out) H1
theorem pe_joinN {X : Cx} {E : Expr} {ts : List TE} (h : PE X E (fun σ H Q => tJs ts Str.empty σ H fun out H1 => Q (.str out) H1)) : PE X E (tJoin ts) := h
section
variable {K : PySem.W.Frag} {σ : L2.St} {H : Hp} {Q : VK}
theorem r_join {ts : List TE} (h : tJs ts Str.empty σ H fun out H1 => Q (.str out) H1) : tJoin ts σ H Q := h
theorem r_jnil {acc : Str} {Q : Str → Hp → Prop} (h : Q acc H) : tJs [] acc σ H Q := h
theorem r_jcons {t : TE} {ts : List TE} {acc : Str} {Q : Str → Hp → Prop} (h : t σ H fun x H1 => ∃ y : Str, x = .str y ∧ (acc ++ y).length ≤ sizeLine ∧ tJs ts (acc ++ y) σ H1 Q) : tJs (t :: ts) acc σ H Q := h
end
end Th
/-! text.encode("ascii") of a text whose signs are all below 128 -/
namespace Bt
open PySem PySem.Spec PyProof.Rows L2 PySem.Builtin PySem.W PySem.Calls
/-- the bytes of a text -/
def byOf (l : List Nat) : Array UInt8 := (l.map Nat.toUInt8).toArray
/-- a codec that writes each sign below 128 as its own byte -/
structure Plain (c : _codecs.TextCodec) : Prop where
  ok : ∀ k, k < 128 → c.bad k = false
  by1 : ∀ k, k < 128 → c.bytesOf k = [k.toUInt8]
theorem plain_ascii : Plain _codecs.asciiCodec := ⟨fun k h => decide_eq_false (by omega), fun _ _ => rfl⟩
theorem fold_plain {c : _codecs.TextCodec} (hc : Plain c) : ∀ (l : List Nat) (acc : Array UInt8), (∀ k ∈ l, k < 128) → l.foldl (fun acc y => acc ++ (c.bytesOf y).toArray) acc = acc ++ byOf l
  | [], acc, _ => by simp [byOf]
  | k :: l, acc, h => by
    rw [List.foldl_cons, hc.by1 k (h k (.head _)), fold_plain hc l _ fun d hd => h d (.tail _ hd)]
    apply Array.toList_inj.mp
    simp [byOf]
section
variable {M : Model} {A : Around} {E : Value → Shared → Prop} {s : Shared} {x : PySem.Str} {id : String} {self : Value}
theorem narrow {c : _codecs.TextCodec} (hc : Plain c) {Q : Array UInt8 → Shared → Prop} (ha : KSb.Asc x) (hz : x.length ≤ 16777216) (h : Q (byOf x.cps.toList) s) : wpAny M A (_codecs.encodeNarrow id c none self x) Q E s := by
  have hall : x.cps.findIdx? c.bad = none := by
    rw [Array.findIdx?_eq_none_iff]
    intro k hk
    rw [hc.ok k (ha k (Array.mem_toList_iff.mpr hk))]
  have hex : x.cps.extract 0 x.cps.size = x.cps := KSb.whole_extract x
  have hclean : ((x.cps.findIdx? c.bad).getD x.cps.size) = x.cps.size := by rw [hall]; rfl
  have hfold : x.cps.foldl (fun acc y => acc ++ (c.bytesOf y).toArray) #[] = byOf x.cps.toList := by
    rw [← Array.foldl_toList, fold_plain hc _ _ ha]
    simp
  have hsz : (byOf x.cps.toList).size = x.cps.size := by simp [byOf]
  have hz' : x.cps.size ≤ 16777216 := hz
  unfold _codecs.encodeNarrow
  refine wpAny_bind ?_
  rw [KPc.range_list]
  rcases hn : x.length with _ | n
  · show wpAny M A (forIn ([] : List Nat) _ _) _ E s
    rw [List.forIn_nil]
    have e : byOf x.cps.toList = #[] := Array.eq_empty_of_size_eq_zero (hsz.trans hn)
    rw [e] at h
    exact wpAny_pure (wpAny_pure h)
  · have h0 : 0 < x.cps.size := by
      show 0 < x.length
      omega
    rw [List.range'_succ]
    refine KPc.turn (wpAny_ite (KBy.ite_no (by simp [sizeLine_eq]) ?_))
    try dsimp only
    rw [Array.getElem?_eq_getElem h0]
    try dsimp only
    refine wpAny_ite (KBc.ite_yes (by rw [hc.ok _ (ha _ (Array.mem_toList_iff.mpr (Array.getElem_mem h0)))]; rfl) ?_)
    rw [hex, hclean, hex, hfold]
    try dsimp only
    refine wpAny_pure ?_
    rcases n with _ | m
    · show wpAny M A (forIn ([] : List Nat) _ _) _ E s
      rw [List.forIn_nil]
      exact wpAny_pure (wpAny_pure h)
    · rw [List.range'_succ]
      refine KPc.turn (wpAny_ite (KBy.ite_no (by rw [hsz, sizeLine_eq]; omega) ?_))
      try dsimp only
      rw [Array.getElem?_eq_none (by omega : x.cps.size ≤ 0 + x.cps.size)]
      try dsimp only
      exact wpAny_pure (wpAny_pure h)
end
theorem enc_tree (x : PySem.Str) (t u : Tok) : «str.encode» ⟨[.str x t, .str (PySem.Str.ofString "ascii") u], []⟩ = (do ret (← _codecs.encodeRoad "str.encode" (.str x t) x (PySem.Str.ofString "ascii") none)) := by
  first | kernel_rfl | (unfold «str.encode»; simp only []; rfl)
theorem road_ascii (id : String) (self : Value) (x : PySem.Str) (errors : Option PySem.Str) : _codecs.encodeRoad id self x (PySem.Str.ofString "ascii") errors = (do mkBytes (← _codecs.encodeNarrow id _codecs.asciiCodec errors self x)) := by
  first | rfl | (unfold _codecs.encodeRoad; rfl) | (unfold _codecs.encodeRoad; simp only []; rfl)
theorem meets_enc {x : PySem.Str} {t u : Tok} (ha : KSb.Asc x) (hz : x.length ≤ 16777216) : Gives («str.encode» ⟨[.str x t, .str (PySem.Str.ofString "ascii") u], []⟩) (.bytes (byOf x.cps.toList)) := .of_wp fun M A E s Q hq => by
  rw [enc_tree, road_ascii]
  refine wpAny_bind (wpAny_bind (narrow plain_ascii ha hz ?_))
  obtain ⟨hb, hq⟩ := hq
  refine wpAny_mkBytes ?_ hb
  exact wpAny_pure ⟨_, rfl, hq⟩
section
variable {X : Cx}
theorem mt_enc : MtR X "str.encode" (fun x xs H Q => ∃ a b, x = .str a ∧ xs = [.str b] ∧ (KSb.Asc a ∧ a.length ≤ 16777216 ∧ b = PySem.Str.ofString "ascii") ∧ Q (.byt (byOf a.cps.toList)) H) :=
  mt1C (C := fun a b => KSb.Asc a ∧ a.length ≤ 16777216 ∧ b = PySem.Str.ofString "ascii") (g := fun a _ => .byt (byOf a.cps.toList)) fun a b t u s Q hc h => by
    obtain ⟨ha, hz, rfl⟩ := hc
    exact call_gives F.slot_str_encode (typeIs_str s a t) F.entry_str_encode (F.args_str_encode_2 _ _) (meets_enc ha hz) ⟨by rw [sizeLine_eq]; rw [show (byOf a.cps.toList).size = a.length from by simp [byOf, PySem.Str.length]]; exact hz, h _ _ ⟨_, rfl⟩⟩
end
end Bt
/-! f"{n:o}" and f"{n:06o}" of an int from 0 -/
namespace Bt
open PySem PySem.Spec PyProof.Rows L2 PySem.Builtin PySem.W PySem.Calls
open Builtin.Str Builtin.Int Builtin.Float
/-- the octal digits as signs -/
def octL (n : Nat) : List Nat := (Nat.toDigits 8 n).map fun c => c.toNat
def octP (n k : Nat) : List Nat := List.replicate (k - (octL n).length) 48 ++ octL n
theorem oct_ne (n : Nat) : (octL n).isEmpty = false := by
  have := tDigits_len_ge 8 n
  unfold octL
  cases h : Nat.toDigits 8 n with
  | nil => rw [h] at this; simp at this
  | cons _ _ => rfl
theorem spec_o : parseFormatSpec (PySem.Str.ofString "o").cps.toList "int" 62 = .ok { fill := 32, align := 62, type := some 111 } := by first | rfl | kernel_rfl | decide +kernel
theorem spec_06o : parseFormatSpec (PySem.Str.ofString "06o").cps.toList "int" 62 = .ok { fill := 48, align := 61, width := some 6, type := some 111 } := by first | rfl | kernel_rfl | decide +kernel
theorem oct_len (n : Nat) (h : n < 8 ^ 30) : (octL n).length ≤ 30 := by
  unfold octL
  rw [List.length_map]
  rcases Nat.eq_zero_or_pos n with rfl | hp
  · decide
  · have := (Nat.length_toDigits_le_iff (n := n) (k := 30) (b := 8) (by decide) (by decide)).mpr h
    exact this
theorem field_o {f : FormatSpec} (hf : f.fill = 32) (ha : f.align = 62) (hw : f.width = none) (hg : f.grouping = none) (hs : f.sign = none) (n : Nat) (g : Nat) :
    intField' f false [] (octL n) [] g = ⟨(octL n).toArray⟩ := by
  unfold intField'
  simp only [hf, ha, hw, hg, hs, oct_ne]
  refine Str.ext' ?_
  simp
theorem field_06o {f : FormatSpec} {k : Nat} (hf : f.fill = 48) (ha : f.align = 61) (hw : f.width = some k) (hg : f.grouping = none) (hs : f.sign = none) (n : Nat) (g : Nat) :
    intField' f false [] (octL n) [] g = ⟨(octP n k).toArray⟩ := by
  rw [intField'_zero_nonneg f (octL n) g hg hs (oct_ne n) hf ha, hw]
  rfl
end Bt
namespace Bt
open PySem PySem.Spec PyProof.Rows L2 PySem.Builtin PySem.W PySem.Calls
open Builtin.Str Builtin.Int Builtin.Float
/-- a format by octal digits -/
abbrev octS (fill align : Nat) (w : Option Nat) : FormatSpec := { fill := fill, align := align, width := w, type := some 111 }
structure OctF (sp : PySem.Str) (fill align : Nat) (w : Option Nat) : Prop where
  ne : (sp.length == 0) = false
  asc : ((sp.cps.toList.drop 1).any (· ≥ 128) || (sp.cps.getD 0 0 ≥ 128 && !([60, 62, 61, 94] : List Nat).contains (sp.cps.getD 1 0))) = false
  ok : parseFormatSpec sp.cps.toList "int" 62 = .ok (octS fill align w)
  w : w.getD 0 ≤ 100000
theorem ret_T {M : Model} {A : Around} {E : Value → Shared → Prop} {s : Shared} {X T : PySem.Str} {Q : PySem.Fin → Shared → Prop} (e : X = T) (hL : T.length ≤ sizeLine) (h : ∀ t k, Q (.done (.ret (.str T t))) { s with toks := k }) : wpAny M A (retStr X) Q E s := by
  subst e
  exact wpAny_bind (wpAny_mkStr (wpAny_pure (h _ _)) hL)
theorem fmt_oct {sp : PySem.Str} {fill align : Nat} {wd : Option Nat} (F : OctF sp fill align wd) {a : Int} (h0 : decide (a < 0) = false) {T : PySem.Str} (e : intField' (octS fill align wd) false [] (octL a.natAbs) [] 4 = T) (hL : T.length ≤ sizeLine) (t u : Tok) :
    Meets («int.__format__» ⟨[.int a t, .str sp u], []⟩) (fun _ R s => ∀ t' k, R (.ok (.ret (.str T t'))) { s with toks := k }) := by
  obtain ⟨hne, hasc, hok, hw⟩ := F
  apply KPc.meets_of
  intro prog w A s Q E hq
  unfold Builtin.«int.__format__»
  simp only [selfAndOne, noKeywords, Int.intOfSelf, asInt?, asStr?, List.isEmpty_nil, if_true, pure_bind, bind_pure, bind_assoc, hne, hasc, Bool.false_eq_true, if_false,
    show (Value.str sp u == Value.none) = false from rfl]
  refine wpAny_bind (wpAny_typeNameOf (T := "str") (typeIs_str _ _ _) (by decide) fun _ => ?_)
  refine wpAny_bind (wpAny_typeNameOfCut_int ?_)
  simp only [hok, Option.getD_some]
  rw [if_pos (by decide)]
  show wpAny _ _ (if _ then _ else _) _ _ _
  rw [if_neg (by simpa using hw)]
  refine ret_T (T := T) ?_ hL hq
  rw [h0]
  exact e
theorem oct_o : OctF (PySem.Str.ofString "o") 32 62 none := ⟨by decide +kernel, by decide +kernel, spec_o, by decide⟩
theorem oct_06o : OctF (PySem.Str.ofString "06o") 48 61 (some 6) := ⟨by decide +kernel, by decide +kernel, spec_06o, by decide⟩
theorem octP_len (n k : Nat) (h : n < 8 ^ 30) : (octP n k).length ≤ 30 + k := by
  have := oct_len n h
  unfold octP
  rw [List.length_append, List.length_replicate]
  omega
theorem big {k : Nat} (h : k ≤ 100000) : k ≤ sizeLine := by rw [sizeLine_eq]; omega
section
variable {X : Cx}
/-- {x:..}: octal digits -/
def tFmtO (g : Nat → List Nat) (te : TE) : TE := fun σ H Q => te σ H fun x H1 => ∃ n : Nat, x = .int n ∧ n < 8 ^ 30 ∧ Q (.str ⟨(g n).toArray⟩) H1
theorem pe_oct {sp : PySem.Str} {fill align : Nat} {wd : Option Nat} (F : OctF sp fill align wd) {g : Nat → List Nat} (hg : ∀ n, intField' (octS fill align wd) false [] (octL n) [] 4 = ⟨(g n).toArray⟩)
    (hl : ∀ n, n < 8 ^ 30 → (g n).length ≤ 100000) (hs : sp.length ≤ sizeLine) {e es : Expr} {te : TE} {pos : Pos} (he : PE X e te) (hc : PE X es (tC (.str sp))) : PE X (.FormattedValue e (-1) (some es) pos) (tFmtO g te) := by
  refine ⟨fun pins s σ H Q I h => ?_⟩
  refine wpAny_FormattedValue_spec (thn (he.run pins s σ H _ I h) fun v s1 hv => ?_)
  obtain ⟨x, H1, I1, r1, n, rfl, hn, q⟩ := hv
  obtain ⟨t, rfl⟩ := r1
  refine thn (hc.run pins s1 σ H1 (fun y H2 => y = .str sp ∧ H2 = H1) I1 ⟨rfl, rfl⟩) fun v2 s2 hv2 => ?_
  obtain ⟨y, H2, I2, r2, rfl, rfl⟩ := hv2
  obtain ⟨t2, rfl⟩ := r2
  refine ⟨sp, t2, rfl, ?_⟩
  have hL : (⟨(g n).toArray⟩ : PySem.Str).length ≤ sizeLine := big (by simpa [PySem.Str.length] using hl n hn)
  have h0 : decide ((n : Int) < 0) = false := decide_eq_false (by omega)
  refine KXf.field_int (y := ⟨(g n).toArray⟩) (spec' := sp) rfl F.ne hs (fun u => ?_) fun t' k => ⟨.str _, _, I2.tok _, ⟨_, rfl⟩, q⟩
  exact fmt_oct F h0 (T := ⟨(g n).toArray⟩) (hg n) hL _ _
theorem pe_o {e es : Expr} {te : TE} {pos : Pos} (he : PE X e te) (hc : PE X es (tC (.str (PySem.Str.ofString "o")))) : PE X (.FormattedValue e (-1) (some es) pos) (tFmtO octL te) :=
  pe_oct oct_o (fun n => field_o rfl rfl rfl rfl rfl n 4) (fun n h => by have := oct_len n h; omega) (by decide +kernel) he hc
theorem pe_06o {e es : Expr} {te : TE} {pos : Pos} (he : PE X e te) (hc : PE X es (tC (.str (PySem.Str.ofString "06o")))) : PE X (.FormattedValue e (-1) (some es) pos) (tFmtO (octP · 6) te) :=
  pe_oct oct_06o (fun n => field_06o rfl rfl rfl rfl rfl n 4) (fun n h => by have := octP_len n 6 h; omega) (by decide +kernel) he hc
end
end Bt
/-! sum of bytes, bytes * int -/
namespace Bt
open PySem PySem.Spec PyProof.Rows L2 PySem.W
/-- the bytes as numbers -/
def nums (b : List UInt8) : List Int := b.map fun c => ((c.toNat : Nat) : Int)
theorem preSum_nums (b : List UInt8) : ∀ n, n ≤ b.length → preSum (fun i => (nums b).getD i 0) n = ((nums b).take n).sum := fun n _ => preSum_getD (nums b) n
section
variable {X : Cx}
/-- sum(b) -/
theorem cr_sumB (hc : X.calm = true := by rfl) : CallR X (.builtin "sum") (fun vs H Q => ∃ b : List UInt8, vs = [.byt b.toArray] ∧ Q (.int (nums b).sum) H) := by
  intro pins s σ H vs us Q I r h
  obtain ⟨b, rfl, q⟩ := h
  obtain ⟨u, rfl, rx⟩ := vals1 r
  obtain ⟨t, rfl⟩ := rx
  have hh : X.A.in1.handled = none := I.ok.hd hc
  refine call_sum_walkG (KBw.pyIter_bytes ?_)
  refine ⟨_, _, _, _, _, _, fun i => (nums b).getD i 0, rfl, KBw.walks hh s.heap.objs.size b.toArray t, ⟨_, Heap.get?_push_size _ rfl, rfl, rfl⟩, fun a ha => ?_, fun i v hv => ?_, fun h' tk t' hk => ?_⟩
  · have e := List.mem_singleton.mp ha
    subst e
    exact Heap.lt_size (Heap.get?_push_size _ rfl)
  · obtain ⟨c, w, hc, rfl⟩ := hv
    refine ⟨w, ?_⟩
    have e : (nums b).getD i 0 = (c.toNat : Int) := by
      unfold nums
      simp at hc
      simp [hc]
    exact congrArg (fun z => Value.int z w) e.symm
  · have e : preSum (fun i => (nums b).getD i 0) b.toArray.size = (nums b).sum := by
      rw [List.size_toArray, preSum_nums b _ (Nat.le_refl _), List.take_of_length_le (by simp [nums])]
    rw [e]
    exact ⟨.int _, H, I.kept (fun a o ho => hk a o (fun hm => absurd (List.mem_singleton.mp hm) (Nat.ne_of_lt (Heap.lt_size ho))) (Heap.get?_push_of_some _ ho)), ⟨_, rfl⟩, q⟩
/-- b * n, b not empty and short -/
theorem op_mulB : OpR X (binaryOp .Mult) (fun x y H Q => ∃ (b : List UInt8) (n : Int), x = .byt b.toArray ∧ y = .int n ∧ (b ≠ [] ∧ -1048576 ≤ n ∧ n ≤ 1048576 ∧ b.length ≤ 16) ∧ Q (.byt ((List.replicate n.toNat b).flatten).toArray) H) := by
  intro pins s σ H x y v u Q I rx ry h
  obtain ⟨b, n, rfl, rfl, ⟨h1, h2, h3, h4⟩, q⟩ := h
  obtain ⟨t, rfl⟩ := rx
  obtain ⟨t', rfl⟩ := ry
  exact bytes_mul_any h1 h2 h3 h4 fun t2 k => ⟨.byt _, H, I.tok _, ⟨_, rfl⟩, q⟩
end
end Bt
/-! list(b) of bytes -/
namespace Bt
open PySem PySem.Spec PyProof.Rows L2 PySem.W PySem.Builtin
/-- what stands at a place of the bytes -/
def ByAt (b : Array UInt8) (i : Nat) (v : Value) : Prop := ∃ c u, b[i]? = some c ∧ v = .int (c.toNat : Int) u
theorem sub_by : isSubtype (.type "bytes") (.type "bytes") = pure true := by rw [isSubtype_type]; kernel_rfl
section
variable {prog : Program} {w : World} {A : Around} {E : Value → Shared → Prop} {s : Shared} {b : Array UInt8} {t : Tok}
theorem hint_by {Q : Bool → Shared → Prop} (h : Q false s) : wpAny (model prog w) A (Builtin.List.listLengthHint (.bytes b t)) Q E s := by
  unfold Builtin.List.listLengthHint
  refine wpAny_bind (wpAny_specialOf (T := "bytes") (typeIs_bytes s b t) FB.slot_bytes_len.lookup ?_)
  wp_delta
  refine wpAny_bind (wpAny_isInstance (T := "bytes") (b := true) (typeIs_bytes s b t) sub_by ?_)
  show wpAny _ _ (typeOf (Value.bytes b t) >>= _) _ _ _
  refine wpAny_bind (wpAny_typeOf (T := "bytes") (typeIs_bytes s b t) ?_)
  exact wpAny_pure h
theorem more_by {R : Result → Shared → Prop} (hh : A.handled = none) (S : Addr) (c0 : Nat) (hS : s.heap.get? S = some { cls := .type "list", data := .seq #[] c0 })
    (hR : ∀ h' tk acc c, (∀ p o, p ≠ S → s.heap.get? p = some o → h'.get? p = some o) → h'.get? S = some { cls := .type "list", dict := none, data := .seq acc c, slots := #[] } → ItemsOf (ByAt b) acc b.size →
      R (.ok (.ret .none)) { s with heap := h', toks := tk }) (hn : b.size ≤ sizeLine) :
    wpAny (model prog w) A.in1 (Builtin.List.listExtendWith (.ref S) (.bytes b t) .none)
      (fun fin s' => match fin with | .done f => R (.ok f) s' | .again c' => c'.quiet = true ∧ codeAny (model prog w) A c' R s') (fun e s' => R (.error e) s') s := by
  have hlt := Heap.lt_size hS
  have hnew : S ∉ [s.heap.objs.size] := fun hm => absurd (List.mem_singleton.mp hm) (Nat.ne_of_lt hlt)
  unfold Builtin.List.listExtendWith
  refine wpAny_bind (wpAny_typeOf (T := "bytes") (typeIs_bytes s b t) ?_)
  simp only [show Builtin.List.listSameRef (.ref S) (.bytes b t) = false from rfl, show (Value.type "bytes" == Value.type "list") = false by decide, show (Value.type "bytes" == Value.type "tuple") = false by decide, Bool.or_false, Bool.false_eq_true, if_false]
  refine wpAny_bind (KBw.pyIter_bytes ?_)
  refine wpAny_bind (wpAny_holding (hint_by ?_))
  rw [if_neg (by decide)]
  refine wpAny_pure ⟨plainId_quiet F.plain_extend_loop _, codeAny_extend_loopS (KBw.walks (A := A.in1) hh s.heap.objs.size b t).toS hn S hnew .none b.size 0 _ _ _ rfl (Nat.zero_le _) ⟨_, Heap.get?_push_size _ rfl, rfl, rfl⟩
    (Heap.get?_push_of_some _ hS) (ItemsOf.nil _) fun s' acc c hm hS' hacc => ?_⟩
  rw [Moved.eq_with hm]
  refine hR s'.heap s'.toks acc c (fun p o hp ho => hm.heap p o (fun hin => ?_) (Heap.get?_push_of_some _ ho)) hS' hacc
  rcases List.mem_cons.mp hin with e | e
  · exact hp e
  · exact absurd (List.mem_singleton.mp e) (Nat.ne_of_lt (Heap.lt_size ho))
theorem init_by {R : Result → Shared → Prop} (hh : A.handled = none) (S : Addr) (hS : s.heap.get? S = some { cls := .type "list", data := .seq #[] })
    (hR : ∀ h' tk acc c, (∀ p o, p ≠ S → s.heap.get? p = some o → h'.get? p = some o) → h'.get? S = some { cls := .type "list", dict := none, data := .seq acc c, slots := #[] } → ItemsOf (ByAt b) acc b.size →
      R (.ok (.ret .none)) { s with heap := h', toks := tk }) (hn : b.size ≤ sizeLine) :
    wpAny (model prog w) A.in1 (Builtin.«list.__init__» ⟨[.ref S, .bytes b t], []⟩)
      (fun fin s' => match fin with | .done f => R (.ok f) s' | .again c' => c'.quiet = true ∧ codeAny (model prog w) A c' R s') (fun e s' => R (.error e) s') s := by
  show wpAny _ _ (do let old ← Builtin.List.listItems (.ref S); Builtin.List.listUpdate (.ref S) (fun _ => #[]); letGo old.toList.reverse; Builtin.List.listExtendWith (.ref S) (.bytes b t) .none) _ _ s
  refine wpAny_bind ?_
  unfold Builtin.List.listItems
  refine wpAny_bind (wpAny_seqItems hS rfl (wpAny_pure ?_))
  show wpAny _ _ (updateSeq S (fun _ => #[]) >>= fun _ => letGo (#[] : Array Value).toList.reverse >>= fun _ => Builtin.List.listExtendWith (.ref S) (.bytes b t) .none) _ _ s
  refine wpAny_bind (wpAny_updateSeq hS rfl (wpAny_bind (wpAny_letGo ?_)))
  exact more_by hh S _ (Heap.get?_update_self (Obj.mapSeq (fun _ => (#[] : Array Value))) hS rfl)
    (fun h' tk acc c hk => hR h' tk acc c fun p o hp ho => hk p o hp ((Heap.get?_update_other _ _ (Ne.symm hp)).trans ho)) hn
theorem list_by {Q : Value → Shared → Prop} (hh : A.handled = none) (hn : b.size ≤ sizeLine)
    (hQ : ∀ h' tk acc c, (∀ p o, s.heap.get? p = some o → h'.get? p = some o) → h'.get? s.heap.objs.size = some { cls := .type "list", dict := none, data := .seq acc c, slots := #[] } → ItemsOf (ByAt b) acc b.size →
      Q (.ref s.heap.objs.size) { s with heap := h', toks := tk }) :
    wpAny (model prog w) A (call (.type "list") [.bytes b t]) Q E s := by
  refine callType_codes (Q₁ := fun obj s₁ => obj = .ref s.heap.objs.size ∧ s₁ = { s with heap := s.heap.push { cls := .type "list", data := .seq #[] } }) F.called_list (F.typeCall_list_1 _) F.entry_list_init
    (code_list_new _ ⟨rfl, rfl⟩) fun obj s₁ h₁ => ?_
  obtain ⟨rfl, rfl⟩ := h₁
  have hS : (s.heap.push { cls := .type "list", data := .seq #[] }).get? s.heap.objs.size = some { cls := .type "list", data := .seq #[] } := Heap.get?_push_size _ rfl
  refine ⟨⟨_, hS, rfl⟩, F.args_list_init_2 _ _, init_by (A := A.in1) hh _ hS (fun h' tk acc c hk hS' hacc => ?_) hn⟩
  exact ⟨rfl, hQ h' tk acc c (fun p o ho => hk p o (Nat.ne_of_lt (Heap.lt_size ho)) (Heap.get?_push_of_some _ ho)) hS' hacc⟩
end
theorem vals_by (b : List UInt8) : ∀ (acc : List Value), acc.length = b.length → (∀ (j : Nat) v, acc[j]? = some v → ByAt b.toArray j v) → Vals ((nums b).map V.int) acc := by
  induction b with
  | nil =>
    intro acc hl _
    rw [List.length_eq_zero_iff.mp hl]
    exact .nil
  | cons c b ih =>
    intro acc hl h
    cases acc with
    | nil => cases hl
    | cons v acc =>
      refine .cons ?_ (ih acc (Nat.succ.inj hl) fun j v' hv => ?_)
      · obtain ⟨c', u, hc, rfl⟩ := h 0 v rfl
        simp at hc
        subst hc
        exact ⟨u, rfl⟩
      · obtain ⟨c', u, hc, e⟩ := h (j + 1) v' (by simpa using hv)
        exact ⟨c', u, by simpa using hc, e⟩
section
variable {X : Cx}
/-- list(b) -/
theorem call_listB (hc : X.calm = true := by rfl) : CallR X (.type "list") (fun xs H Q => ∃ b : List UInt8, xs = [.byt b.toArray] ∧ b.length ≤ 16777216 ∧ ∀ p, H p = none → Q (.ref p) (upd H p (.lst ((nums b).map V.int)))) := by
  intro pins s σ H xs us Q I r h
  obtain ⟨b, rfl, hz, q⟩ := h
  obtain ⟨u, rfl, rx⟩ := vals1 r
  obtain ⟨t, rfl⟩ := rx
  have hn : b.toArray.size ≤ sizeLine := by rw [List.size_toArray, sizeLine_eq]; exact hz
  refine list_by (I.ok.hd hc) hn fun h' tk acc c hk hS hacc => ?_
  have hv : Vals ((nums b).map V.int) acc.toList := vals_by b acc.toList (by rw [Array.length_toList, hacc.1, List.size_toArray]) fun j v hv => hacc.2 j v (by rw [← Array.getElem?_toList]; exact hv)
  have hl : ((nums b).map V.int).length ≤ sizeLine := by rw [List.length_map]; unfold nums; rw [List.length_map, sizeLine_eq]; exact hz
  exact ⟨.ref s.heap.objs.size, _, I.laid (t' := tk) hk (Nat.le_refl _) (show ObjOk X.prog X.w _ h' _ (.lst ((nums b).map V.int)) from ⟨hl, acc.toList, c, hv, hS⟩), rfl, q _ (I.hok.fresh (Nat.le_refl _))⟩
end
end Bt
/-! the octal digits, written from the last one on -/
namespace Bt
open PySem PySem.Spec PyProof.Rows L2
/-- k octal digits of n, the last one first -/
def digs : Nat → Nat → List Nat
  | 0, _ => []
  | k + 1, n => (48 + n % 8) :: digs k (n / 8)
theorem digs_zero : ∀ k, digs k 0 = List.replicate k 48
  | 0 => rfl
  | k + 1 => by
    rw [digs, List.replicate_succ]
    exact congrArg _ (digs_zero k)
theorem digit8 {d : Nat} (h : d < 8) : (Nat.digitChar d).toNat = 48 + d := by
  have : d = 0 ∨ d = 1 ∨ d = 2 ∨ d = 3 ∨ d = 4 ∨ d = 5 ∨ d = 6 ∨ d = 7 := by omega
  rcases this with rfl | rfl | rfl | rfl | rfl | rfl | rfl | rfl <;> rfl
theorem octL_small {n : Nat} (h : n < 8) : octL n = [48 + n] := by
  unfold octL
  rw [Nat.toDigits_of_lt_base h]
  exact congrArg (fun x => [x]) (digit8 h)
theorem octL_step {n : Nat} (h : 8 ≤ n) : octL n = octL (n / 8) ++ [48 + n % 8] := by
  unfold octL
  rw [Nat.toDigits_eq_if (by decide), if_neg (by omega), List.map_append]
  exact congrArg (fun x => _ ++ [x]) (digit8 (Nat.mod_lt _ (by decide)))
theorem oct_snoc {n k : Nat} (h : 8 ≤ n) : octP n (k + 1) = octP (n / 8) k ++ [48 + n % 8] := by
  unfold octP
  rw [octL_step h, List.length_append, List.append_assoc]
  have : k + 1 - ((octL (n / 8)).length + [48 + n % 8].length) = k - (octL (n / 8)).length := by simp
  rw [this]
/-- k digits from the front are those from the back, turned round -/
theorem digs_oct : ∀ (k n : Nat), 1 ≤ k → n < 8 ^ k → (digs k n).reverse = octP n k := by
  intro k
  induction k with
  | zero => intro n h; omega
  | succ k ih =>
    intro n _ hn
    rw [digs, List.reverse_cons]
    by_cases h8 : n < 8
    · have e : n / 8 = 0 := by omega
      have e2 : n % 8 = n := by omega
      rw [e, e2, digs_zero, List.reverse_replicate]
      unfold octP
      rw [octL_small h8]
      rfl
    · have h8' : 8 ≤ n := by omega
      rw [oct_snoc h8']
      rcases k with _ | k
      · omega
      · rw [ih (n / 8) (by omega) (by
          have : n < 8 ^ (k + 1) * 8 := by rw [← Nat.pow_succ]; exact hn
          omega)]
theorem octL_small_signs : ∀ (k n : Nat), n < 8 ^ k → ∀ c ∈ octL n, 48 ≤ c ∧ c < 56 := by
  intro k
  induction k with
  | zero =>
    intro n hn c hc
    have : n = 0 := by omega
    subst this
    rw [octL_small (by decide)] at hc
    have := List.mem_singleton.mp hc
    omega
  | succ k ih =>
    intro n hn c hc
    by_cases h8 : n < 8
    · rw [octL_small h8] at hc
      have := List.mem_singleton.mp hc
      omega
    · rw [octL_step (by omega)] at hc
      rcases List.mem_append.mp hc with h | h
      · exact ih (n / 8) (by
          have : n < 8 ^ k * 8 := by rw [← Nat.pow_succ]; exact hn
          omega) c h
      · have := List.mem_singleton.mp h
        omega
theorem lt_pow8 (n : Nat) : n < 8 ^ n := Nat.lt_pow_self (by decide)
theorem octL_signs (n : Nat) : ∀ c ∈ octL n, 48 ≤ c ∧ c < 56 := octL_small_signs n n (lt_pow8 n)
theorem octP_signs (n k : Nat) : ∀ c ∈ octP n k, 48 ≤ c ∧ c < 56 := by
  intro c hc
  unfold octP at hc
  rcases List.mem_append.mp hc with h | h
  · have := List.eq_of_mem_replicate h
    omega
  · exact octL_signs n c h
theorem octL_le (n k : Nat) (hk : 1 ≤ k) (h : n < 8 ^ k) : (octL n).length ≤ k := by
  unfold octL
  rw [List.length_map]
  exact (Nat.length_toDigits_le_iff (by decide) hk).mpr h
theorem octP_length {n k : Nat} (hk : 1 ≤ k) (h : n < 8 ^ k) : (octP n k).length = k := by
  have := octL_le n k hk h
  unfold octP
  rw [List.length_append, List.length_replicate]
  omega
theorem asc_oct (n k : Nat) : PySem.W.KSb.Asc ⟨(octP n k).toArray⟩ := fun c hc => by
  have := octP_signs n k c (by simpa using hc)
  omega
/-- zeros put before the digits -/
theorem zfill_oct {n k : Nat} : Txt.zfill ⟨(octL n).toArray⟩ (k : Int) = ⟨(octP n k).toArray⟩ := by
  unfold Txt.zfill
  have hl : (⟨(octL n).toArray⟩ : PySem.Str).length = (octL n).length := by simp [PySem.Str.length]
  rw [hl]
  split
  · rename_i h
    have e : k - (octL n).length = 0 := by omega
    unfold octP
    rw [e]
    rfl
  · unfold zfilled
    have hs := octL_signs n
    have hp : Builtin.Str.padded ⟨(octL n).toArray⟩ ((k : Int).toNat - (octL n).length) 0 48 = ⟨(octP n k).toArray⟩ := by
      unfold Builtin.Str.padded octP
      refine Str.ext' ?_
      apply Array.toList_inj.mp
      simp
    cases hL : octL n with
    | nil =>
      have := oct_ne n
      rw [hL] at this
      cases this
    | cons c l =>
      have hc := hs c (by rw [hL]; exact .head _)
      rw [hL] at hp
      have hg : (⟨(c :: l).toArray⟩ : PySem.Str).cps[0]? = some c := by simp
      rw [hg]
      have h43 : c ≠ 43 := by omega
      have h45 : c ≠ 45 := by omega
      split
      · rename_i heq; exact absurd (Option.some.inj heq) h43
      · rename_i heq; exact absurd (Option.some.inj heq) h45
      · exact hp
end Bt
/-! repr of bytes -/
namespace PySem.BtR
open PySem Builtin
end PySem.BtR
/-! repr of a list of own objects -/
namespace PySem.BtL
open PySem PySem.W
end PySem.BtL
/-! b.rstrip(b"\x00"), b.decode("ascii") of bytes below 128 -/
namespace Bt
open PySem PySem.Spec PyProof.Rows L2 PySem.Builtin PySem.W PySem.Calls
/-- the text of bytes -/
def txOf (b : Array UInt8) : PySem.Str := ⟨b.map fun c => c.toNat⟩
section
variable {M : Model} {A : Around} {E : Value → Shared → Prop} {s : Shared} {id : String} {b : Array UInt8}
theorem run_ascii {Q : Array Nat × Nat → Shared → Prop} (hb : ∀ c ∈ b, c.toNat < 128) (hz : b.size ≤ 16777216) (h : Q (b.map fun c => c.toNat, b.size) s) : wpAny M A (_codecs.runDecoder id _codecs.asciiDecoder none true b 0 []) Q E s := by
  unfold _codecs.runDecoder
  refine wpAny_bind ?_
  rw [KPc.range_list]
  refine wpAny_forIn_list _ (fun (rest : List Nat) (st : Nat × Array Nat × _codecs.Faults) s' => s' = s ∧ st.1 + rest.length = b.size ∧ st.2.1 = (b.extract 0 st.1).map fun c => c.toNat) _ ?_ ?_ _ _ ?_
  · intro x rest st3 s' h3
    obtain ⟨p, out, st⟩ := st3
    obtain ⟨hs, hp, ho⟩ := h3
    subst hs
    simp only [List.length_cons] at hp
    dsimp only at hp ho ⊢
    have hlt : p < b.size := by omega
    have hsz : out.size = p := by rw [ho]; simp; omega
    have hc : (b.getD p 0).toNat < 128 := by
      rw [Array.getD_eq_getD_getElem?, Array.getElem?_eq_getElem hlt]
      exact hb _ (Array.getElem_mem hlt)
    rw [if_neg (by rw [hsz, sizeLine_eq]; omega)]
    rw [if_neg (by omega)]
    have hf : _codecs.asciiDecoder.find true b p = .char (b.getD p 0).toNat (p + 1) := by
      unfold _codecs.asciiDecoder
      dsimp only
      rw [if_pos hc]
    rw [hf]
    refine wpAny_pure ⟨rfl, by show p + 1 + rest.length = _; omega, ?_⟩
    show out ++ [(b.getD p 0).toNat].toArray = (b.extract 0 (p + 1)).map fun c => c.toNat
    rw [ho]
    apply Array.toList_inj.mp
    simp only [Array.toList_append, Array.toList_map, Array.toList_extract, List.extract_eq_drop_take, List.drop_zero, Nat.sub_zero]
    rw [List.take_add_one, List.map_append]
    congr 1
    rw [Array.getElem?_toList, Array.getElem?_eq_getElem hlt, Array.getD_eq_getD_getElem?, Array.getElem?_eq_getElem hlt]
    rfl
  · intro st3 s' h3
    obtain ⟨p, out, st⟩ := st3
    obtain ⟨hs, hp, ho⟩ := h3
    subst hs
    simp only [List.length_nil, Nat.add_zero] at hp
    dsimp only at hp ho ⊢
    refine wpAny_pure ?_
    rw [ho, hp]
    have e : b.extract 0 b.size = b := by simp
    rw [e]
    exact h
  · exact ⟨rfl, by simp, by simp⟩
end
theorem dec_road (id : String) (b : Array UInt8) : _codecs.decodeRoad id b (PySem.Str.ofString "ascii") none [] = (_codecs.runDecoder id _codecs.asciiDecoder none true b 0 [] >>= fun r => mkStr ⟨r.1⟩) := by kernel_rfl
section
variable {prog : Program} {w : World} {A : Around} {E : Value → Shared → Prop} {s : Shared} {b : Array UInt8} {t u : Tok}
theorem dec_text {t1 t2 : Tok} {d : PySem.Str} (hb : ∀ c ∈ b, c.toNat < 128) (hz : b.size ≤ 16777216) : Meets («_codecs.decode.text» ⟨[.bytes b t, .str (PySem.Str.ofString "ascii") t1, .none, .str d t2], []⟩) (fun _ R s => R (.ok (.ret (.str (txOf b) s.toks))) { s with toks := s.toks + 1 }) := by
  refine .of_wp fun prog w A R s h => ?_
  show wpAny _ _ (Bytes.bytesLike _ (.bytes b t) >>= fun r => _) _ _ s
  refine wpAny_bind (wpAny_of_eq KBd.like_eq ?_)
  refine wpAny_bind (wpAny_of_eq KBd.held_eq ?_)
  show wpAny _ _ (_codecs.decodeRoad _ b (PySem.Str.ofString "ascii") none [] >>= fun v => _) _ _ s
  rw [dec_road]
  refine wpAny_bind (wpAny_bind (run_ascii hb hz ?_))
  exact wpAny_mkStr (wpAny_pure ⟨_, rfl, h⟩) (by show (b.map _).size ≤ _; rw [Array.size_map, sizeLine_eq]; exact hz)
theorem dec_entry0 : «bytes.decode» ⟨[.bytes #[] t, .str (PySem.Str.ofString "ascii") u], []⟩ = (rule "bytes.decode.empty" >>= fun _ => mkStr PySem.Str.empty >>= fun v => ret v) := by first | kernel_rfl | rfl
theorem dec_entry {c : UInt8} {cs : List UInt8} : «bytes.decode» ⟨[.bytes (c :: cs).toArray t, .str (PySem.Str.ofString "ascii") u], []⟩ = (mkStr (PySem.Str.ofString "utf-8") >>= fun _ => mkStr (PySem.Str.ofString "ascii") >>= fun e => mkStr (PySem.Str.ofString "bytes.decode") >>= fun d =>
    call (.builtin "_codecs.decode.text") [.bytes (c :: cs).toArray t, e, .none, d] >>= fun v => ret v) := by kernel_rfl
theorem dec_args (a c : Value) : argsOk "bytes.decode" ⟨[a, c], []⟩ := by unfold argsOk; kernel_rfl
theorem meets_dec (hb : ∀ c ∈ b, c.toNat < 128) (hz : b.size ≤ 16777216) : Meets («bytes.decode» ⟨[.bytes b t, .str (PySem.Str.ofString "ascii") u], []⟩) (fun _ R s => ∀ t' k, R (.ok (.ret (.str (txOf b) t'))) { s with toks := k }) := by
  refine .of_wp fun prog w A R s h => ?_
  obtain ⟨l, rfl⟩ : ∃ l : List UInt8, b = l.toArray := ⟨b.toList, by simp⟩
  cases l with
  | nil =>
    rw [dec_entry0]
    refine wpAny_bind (wpAny_rule ?_)
    have e0 : txOf (List.toArray ([] : List UInt8)) = PySem.Str.empty := by first | rfl | decide +kernel
    have h0 := h
    rw [e0] at h0
    exact wpAny_bind (wpAny_mkStr (wpAny_pure ⟨_, rfl, h0 _ _⟩) (by decide))
  | cons c cs =>
    rw [dec_entry]
    refine wpAny_bind (wpAny_mkStr ?_ (by decide))
    refine wpAny_bind (wpAny_mkStr ?_ (by decide))
    refine wpAny_bind (wpAny_mkStr ?_ (by decide))
    exact wpAny_bind (call_function_meets KBd.kind_text KBd.plain_text KBd.entry_text (KBd.args_text _ _ _ _) (dec_text hb hz) (wpAny_pure ⟨_, rfl, h _ _⟩))
end
section
variable {X : Cx}
def rDec : V → List V → Hp → VK → Prop := fun x xs H Q => ∃ b : Array UInt8, x = .byt b ∧ xs = [.str (PySem.Str.ofString "ascii")] ∧ (∀ c ∈ b, c.toNat < 128) ∧ b.size ≤ 16777216 ∧ Q (.str (txOf b)) H
theorem mt_dec : MtR X "bytes.decode" rDec := fun pins s σ H x xs v us Q I rx rxs h => by
  obtain ⟨b, rfl, rfl, hb, hz, q⟩ := h
  obtain ⟨t, rfl⟩ := (show ∃ t, v = Value.bytes b t from rx)
  obtain ⟨u, rfl, ru⟩ := vals1 rxs
  obtain ⟨t2, rfl⟩ := (show ∃ t, u = Value.str (PySem.Str.ofString "ascii") t from ru)
  exact call_meets FB.slot_bytes_decode (PySem.W.typeIs_bytes s b t) FB.entry_bytes_decode (dec_args _ _) (meets_dec hb hz) (fun t' k => ⟨.str _, H, I.tok k, ⟨_, rfl⟩, q⟩)
/-! ### b.rstrip(b"\x00") -/
def stripB (b : Array UInt8) : Array UInt8 := ((b.toList.reverse.dropWhile fun c => c == 0).reverse).toArray
end
theorem slot_rs : Slot "bytes" "rstrip" "bytes.rstrip" :=
  .of (owner := "bytes") (n := "rstrip") (by rw [typeLookup_type, builtinLookup_eq_fast]; kernel_rfl) (by decide +kernel) (by decide +kernel) (by decide +kernel)
    (by first | exact .inl (by decide +kernel) | exact .inr (by decide +kernel)) (by rw [isSubtype_type]; kernel_rfl)
theorem type_rs : typeOf (.builtin "bytes.rstrip") = pure (.type "method_descriptor") := by show builtinType _ = _; rw [builtinType_eq_fast]; kernel_rfl
theorem entry_rs : entryFor table "bytes.rstrip" = some Builtin.«bytes.rstrip» := entryFor_of_tree (by kernel_rfl)
theorem args_rs (a c : Value) : argsOk "bytes.rstrip" ⟨[a, c], []⟩ := by unfold argsOk; kernel_rfl
section
variable {b : Array UInt8} {t u : Tok}
theorem rs_tree : «bytes.rstrip» ⟨[.bytes b t, .bytes #[0] u], []⟩ = (Bytes.bytesLike "bytes.rstrip" (.bytes #[0] u) >>= fun set => Bytes.payload (.bytes b t) >>= fun b' =>
    if ((b'.toList.reverse.dropWhile set.contains).reverse.length == b'.size) = true then rule "bytes.rstrip.unchanged" >>= fun _ => Bytes.Kind.bytes.same (.bytes b t) >>= fun v => ret v else Bytes.Kind.bytes.new (b'.toList.reverse.dropWhile set.contains).reverse.toArray >>= fun v => ret v) := by
  first | kernel_rfl | rfl
theorem meets_rs (hz : b.size ≤ 16777216) : Meets («bytes.rstrip» ⟨[.bytes b t, .bytes #[0] u], []⟩) (fun _ R s => ∀ t' k, R (.ok (.ret (.bytes (stripB b) t'))) { s with toks := k }) := by
  refine .of_wp fun prog w A R s h => ?_
  rw [rs_tree]
  refine wpAny_bind (wpAny_of_eq KBd.like_eq ?_)
  refine wpAny_bind (wpAny_of_eq (a := b) rfl ?_)
  have e : (#[(0 : UInt8)]).contains = fun c => c == 0 := by
    funext c
    show ([(0 : UInt8)].toArray).contains c = _
    rw [List.contains_toArray]
    simp
    rfl
  rw [e]
  have eS : (b.toList.reverse.dropWhile fun c => c == 0).reverse.toArray = stripB b := rfl
  by_cases hl : ((b.toList.reverse.dropWhile fun c => c == 0).reverse.length == b.size) = true
  · rw [if_pos hl]
    have eb : stripB b = b := by
      have h1 : (b.toList.reverse.dropWhile fun c => c == 0).length = b.toList.reverse.length := by
        have := beq_iff_eq.mp hl
        rw [List.length_reverse] at this
        rw [List.length_reverse, Array.length_toList]
        exact this
      have h2 := (List.dropWhile_suffix (l := b.toList.reverse) (fun c => c == 0)).eq_of_length h1
      unfold stripB
      rw [h2]
      simp
    refine wpAny_bind (wpAny_rule ?_)
    refine wpAny_bind (wpAny_of_eq (a := .bytes b t) rfl ?_)
    rw [eb] at h
    exact wpAny_pure ⟨_, rfl, h t _⟩
  · rw [if_neg hl, eS]
    have hs : (stripB b).size ≤ b.size := by
      unfold stripB
      simp only [List.size_toArray, List.length_reverse]
      have := (List.dropWhile_suffix (l := b.toList.reverse) (fun c => c == 0)).length_le
      rw [List.length_reverse, Array.length_toList] at this
      exact this
    refine wpAny_bind (wpAny_mkBytes (wpAny_pure ⟨_, rfl, h _ _⟩) (by rw [sizeLine_eq]; omega))
end
section
variable {X : Cx}
def rRs : V → List V → Hp → VK → Prop := fun x xs H Q => ∃ b : Array UInt8, x = .byt b ∧ xs = [.byt #[0]] ∧ b.size ≤ 16777216 ∧ Q (.byt (stripB b)) H
theorem mt_rs : MtR X "bytes.rstrip" rRs := fun pins s σ H x xs v us Q I rx rxs h => by
  obtain ⟨b, rfl, rfl, hz, q⟩ := h
  obtain ⟨t, rfl⟩ := (show ∃ t, v = Value.bytes b t from rx)
  obtain ⟨u, rfl, ru⟩ := vals1 rxs
  obtain ⟨t2, rfl⟩ := (show ∃ t, u = Value.bytes #[0] t from ru)
  exact call_meets slot_rs (PySem.W.typeIs_bytes s b t) entry_rs (args_rs _ _) (meets_rs hz) (fun t' k => ⟨.byt _, H, I.tok k, ⟨_, rfl⟩, q⟩)
end
end Bt
/-! int(t, 8) of octal digits -/
namespace Ox
open PySem PySem.Spec PyProof.Rows L2 PySem.NumText PySem.Calls L2.Hx
def IsOct (c : Nat) : Prop := 48 ≤ c ∧ c ≤ 55
def octNum (l : List Nat) : Nat := l.foldl (fun a c => a * 8 + (c - 48)) 0
theorem hexOf {c : Nat} (h : IsOct c) : IsHex c := .inl ⟨h.1, Nat.le_trans h.2 (by decide)⟩
theorem hexAll {cs : List Nat} (h : ∀ c ∈ cs, IsOct c) : ∀ c ∈ cs, IsHex c := fun c hc => hexOf (h c hc)
theorem hv_oct {c : Nat} (h : IsOct c) : hv c = c - 48 := by
  unfold hv
  rw [if_pos (Nat.le_trans h.2 (by decide))]
/-- one digit -/
theorem step8 {ds : Array Nat} {b : Bool} {c : Nat} (h : IsOct c) : PySem.NumText.step 8 (ds, b) c = some (ds.push (c - 48), true) := by
  have h1 := h.1
  have h2 := h.2
  unfold PySem.NumText.step
  rw [if_neg (by rw [beq_iff_eq]; omega), digit_hex (hexOf h), hv_oct h]
  exact if_pos (by omega)
theorem fold8 : ∀ (cs : List Nat) (ds : Array Nat), (∀ c ∈ cs, IsOct c) → cs.foldlM (PySem.NumText.step 8) (ds, true) = some (cs.foldl (fun acc c => acc.push (c - 48)) ds, true)
  | [], _, _ => rfl
  | c :: cs, ds, h => by
    rw [List.foldlM_cons, step8 (h c List.mem_cons_self)]
    exact fold8 cs (ds.push (c - 48)) fun d hd => h d (List.mem_cons_of_mem c hd)
theorem digits8 {c : Nat} {cs : List Nat} (h : ∀ d ∈ c :: cs, IsOct d) : digits? 8 (c :: cs) = some ((c :: cs).foldl (fun acc c => acc.push (c - 48)) #[]) := by
  unfold digits?
  rw [List.foldlM_cons, step8 (h c List.mem_cons_self)]
  show (cs.foldlM (PySem.NumText.step 8) ((#[] : Array Nat).push (c - 48), true)).bind _ = _
  rw [fold8 cs _ fun d hd => h d (List.mem_cons_of_mem c hd)]
  rfl
theorem push8 : ∀ (cs : List Nat) (ds : Array Nat), (cs.foldl (fun acc c => acc.push (c - 48)) ds).foldl (fun acc d => acc * 8 + d) 0 = cs.foldl (fun a c => a * 8 + (c - 48)) (ds.foldl (fun acc d => acc * 8 + d) 0)
  | [], _ => rfl
  | c :: cs, ds => by
    rw [List.foldl_cons, push8 cs (ds.push (c - 48)), List.foldl_cons]
    congr 1
    simp
theorem oct_lit {a : Nat} (h : IsOct a) : a = 48 ∨ a = 49 ∨ a = 50 ∨ a = 51 ∨ a = 52 ∨ a = 53 ∨ a = 54 ∨ a = 55 := by
  have h1 := h.1
  have h2 := h.2
  omega
theorem based8 {cs : List Nat} (h : ∀ c ∈ cs, IsOct c) : based 8 cs = (8, false, cs) := by
  unfold based
  split
  · rename_i p e
    exfalso
    match cs, h, e with
    | [], _, e => exact absurd (show (none : Option Nat) = some p from e) (fun z => by cases z)
    | [a], h, e =>
      rcases oct_lit (h a List.mem_cons_self) with rfl | rfl | rfl | rfl | rfl | rfl | rfl | rfl <;> exact absurd (show (none : Option Nat) = some p from e) (fun z => by cases z)
    | a :: c :: r, h, e =>
      have hc := h c (List.mem_cons_of_mem _ List.mem_cons_self)
      have h1 := hc.1
      have h2 := hc.2
      rcases oct_lit (h a List.mem_cons_self) with rfl | rfl | rfl | rfl | rfl | rfl | rfl | rfl
      · have e2 : (if (c == 120 || c == 88) = true then some 16 else if (c == 111 || c == 79) = true then some 8 else if (c == 98 || c == 66) = true then some 2 else none) = some p := e
        rw [if_neg (by rw [Bool.or_eq_true, beq_iff_eq, beq_iff_eq]; omega), if_neg (by rw [Bool.or_eq_true, beq_iff_eq, beq_iff_eq]; omega), if_neg (by rw [Bool.or_eq_true, beq_iff_eq, beq_iff_eq]; omega)] at e2
        cases e2
      all_goals exact absurd (show (none : Option Nat) = some p from e) (fun z => by cases z)
  · exact if_neg (by decide)
theorem read8 {cs : List Nat} (h : ∀ c ∈ cs, IsOct c) (hne : cs ≠ []) : (int_private% "readNumeral") 0 8 cs = (int_private% "Numeral.value") ((octNum cs : Nat) : Int) := by
  have hr : ∀ c ∈ cs.reverse, IsHex c := fun c hc => hexAll h c (List.mem_reverse.mp hc)
  refine (readNumeral_eq 0 8 cs).trans ?_
  rw [dropB (hexAll h), signH (hexAll h)]
  show judge 0 false (based 8 cs).1 (based 8 cs).2.1 (digits? (based 8 cs).1 (((based 8 cs).2.2.reverse.dropWhile blank).reverse)) = _
  rw [based8 h]
  show judge 0 false 8 false (digits? 8 ((cs.reverse.dropWhile blank).reverse)) = _
  rw [dropB hr, List.reverse_reverse]
  cases cs with
  | nil => exact absurd rfl hne
  | cons c cs =>
    rw [digits8 h]
    show (int_private% "Numeral.value") ((((c :: cs).foldl (fun acc c => acc.push (c - 48)) (#[] : Array Nat)).foldl (fun acc d => acc * 8 + d) 0 : Nat) : Int) = _
    have z : (#[] : Array Nat).foldl (fun acc d => acc * 8 + d) 0 = 0 := by first | rfl | simp
    rw [push8, z] <;> rfl
set_option maxHeartbeats 4000000 in
theorem gives8 {x : PySem.Str} {u t : Tok} (hl : x.length ≤ 640) (h : ∀ c ∈ x.cps.toList, IsOct c) (hne : x.cps.toList ≠ []) :
    Gives (Builtin.«int.__new__» ⟨[.type "int", .str x u, .int 8 t], []⟩) (.int ((octNum x.cps.toList : Nat) : Int)) :=
  .of_wp fun M A E s Q hQ => by
    obtain ⟨hp, g, d, tk, os⟩ := s
    have f1 := F.conv_sub_int
    have f2 := F.madeHere_int
    have f6 : typeOf (.str x u) = pure (.type "str") := rfl
    obtain ⟨e1, e2⟩ := seen_hex (hexAll h)
    have hk := Hid.mk (And.intro (show (numSeenOf x).length ≤ 640 by rw [e2, Array.length_toList]; exact hl) (And.intro (show (int_private% "readNumeral") 0 8 (numSeenOf x) = (int_private% "Numeral.value") ((octNum x.cps.toList : Nat) : Int) by rw [e2]; exact read8 h hne)
      (show ((numSeenOf x).length == (numTextOf x).length) = true by rw [e1, e2]; exact beq_self_eq_true _)))
    clear e1 e2 hl hne h
    repeat (any_goals (first
      | assumption
      | ((with_reducible show wpAny _ _ ((int_private% "intFromText") _ _ _) _ _ _); refine wp_textB hk.out.1 hk.out.2.1 hk.out.2.2 ?_)
      | wp_step))
    all_goals first | exact ⟨_, rfl, hQ⟩ | skip
def rInt8 : List V → Hp → VK → Prop := fun xs H Q => ∃ x : Str, xs = [.str x, .int 8] ∧ x.cps.toList ≠ [] ∧ x.length ≤ 640 ∧ (∀ c ∈ x.cps.toList, IsOct c) ∧ Q (.int ((octNum x.cps.toList : Nat) : Int)) H
theorem call_int8 {X : Cx} : CallR X (.type "int") rInt8 := by
  intro pins s σ H xs us Q I r h
  obtain ⟨x, rfl, hne, hl, hx, q⟩ := h
  obtain ⟨u, w', rfl, r1, r2⟩ := vals2 r
  obtain ⟨t1, rfl⟩ := r1
  obtain ⟨t2, rfl⟩ := r2
  exact callType_new F.called_int F.newNe_int (typeCall_int_2 _ _) (newCall_int_2 _ _) (fun obj => F.initArgs_range_2 obj _ _) F.entry_int_new (gives8 hl hx hne).meets (show (Made.int ((octNum x.cps.toList : Nat) : Int)).post _ s from ⟨rfl, .int _, H, I.tok _, ⟨_, rfl⟩, q⟩)
end Ox
/-! a byte's number in bytes; bytes walked -/
namespace Bt
open PySem PySem.Spec PyProof.Rows L2
def rInIB : R2 := fun x y H Q => ∃ (n : Nat) (b : Array UInt8), x = .int (n : Int) ∧ n < 256 ∧ y = .byt b ∧ Q (.bl ((nums b.toList).contains (n : Int))) H
theorem op_inIB {X : Cx} : OpR X (compareOp .In) rInIB := by
  intro pins s σ H x y v u Q I rx ry h
  obtain ⟨n, b, rfl, hn, rfl, q⟩ := h
  obtain ⟨t, rfl⟩ := (show ∃ t, v = Value.int (n : Int) t from rx)
  obtain ⟨t', rfl⟩ := (show ∃ t, u = Value.bytes b t from ry)
  exact PySem.W.KBi.in_K (b := b) (ks := nums b.toList) rfl (by omega) (by omega) ⟨.bl _, H, I, rfl, q⟩
/-- b[i] of bytes -/
def rIxB : R2 := fun x y H Q => ∃ (xs : List Nat) (i : Int) (c : Nat), x = .byt (byOf xs) ∧ y = .int i ∧ xs.length ≤ 100000 ∧ (∀ k ∈ xs, k < 256) ∧ atI xs i = some c ∧ Q (.int (c : Int)) H
theorem ix_bytN {X : Cx} : IxR X rIxB := by
  intro value slice pins s σ H x y v u Q I rx ry h hs
  obtain ⟨xs, i, c, rfl, rfl, hz, hx, he, q⟩ := h
  obtain ⟨t, rfl⟩ := (show ∃ t, v = Value.bytes (byOf xs) t from rx)
  obtain ⟨t', rfl⟩ := (show ∃ t, u = Value.int i t from ry)
  obtain ⟨j, h1, h2, h3, h4, h5⟩ := atI_get he
  have hn := line63
  have hsz : (byOf xs).size = xs.length := by simp [byOf]
  have hc : (byOf xs)[j]? = some c.toUInt8 := by
    unfold byOf
    rw [List.getElem?_toArray, List.getElem?_map, h2]
    rfl
  have hlt : c < 256 := hx c (List.mem_of_getElem? h2)
  have hv : (c.toUInt8.toNat : Int) = (c : Int) := by
    rw [Nat.toUInt8, UInt8.toNat_ofNat']
    omega
  refine tail_any (PySem.W.typeIs_bytes s _ t) PySem.W.FB.slot_bytes_getitem.lookup (getItem_gives (PySem.W.typeIs_bytes s _ t) (by decide) PySem.W.FB.slot_bytes_getitem PySem.W.FB.entry_bytes_getitem (PySem.W.FB.args_bytes_getitem_2 _ _) (PySem.W.gives_bytes_getitem _ i t t' c.toUInt8 ?_ ?_) ?_) hs
  · unfold Builtin.Bytes.fitsIndex
    simp only [Bool.and_eq_true, decide_eq_true_eq]
    omega
  · rw [hsz, h1]
    exact hc
  · rw [hv]
    exact ⟨.int (c : Int), H, I.tok _, ⟨_, rfl⟩, q⟩
/-- bytes walked -/
theorem walk_byOf {xs : List Nat} (hx : ∀ k ∈ xs, k < 256) : Walk (Itb (byOf xs)) (xs.map fun (k : Nat) => V.int (k : Int)).length (fun _ => True) (YAt (xs.map fun (k : Nat) => V.int (k : Int))) := by
  have hsz : (byOf xs).size = xs.length := by simp [byOf]
  rw [List.length_map]
  refine ⟨fun i H hi _ => ?_, fun H _ => ?_, fun i H x H' hi _ y => ?_⟩
  · show i < (byOf xs).size
    omega
  · show (byOf xs).size ≤ xs.length
    omega
  · obtain ⟨e, c, hc, rfl⟩ := y
    refine ⟨e, ?_⟩
    unfold byOf at hc
    rw [List.getElem?_toArray, List.getElem?_map] at hc
    rw [List.getElem?_map]
    cases h : xs[i]? with
    | none =>
      rw [h] at hc
      cases hc
    | some k =>
      rw [h] at hc
      have hk := hx k (List.mem_of_getElem? h)
      cases hc
      show some (V.int (k : Int)) = some (V.int _)
      congr 2
      show (k : Int) = ((k.toUInt8.toNat : Nat) : Int)
      rw [Nat.toUInt8, UInt8.toNat_ofNat']
      omega
end Bt
/-! a dict of the module: d.get(k, x), k not in d -/
/-! a dict of the module whose keys are texts, asked by a text or None -/
namespace Dk
open PySem PySem.Spec PyProof.Rows L2
def leafV : V → Option Leaf
  | .str z => some (.text z)
  | .non => some .none
  | _ => none
/-- what the dict at a has for the key x -/
def GetA (K : PySem.W.Frag) (w : World) (a : Addr) (x : V) (r : Option V) : Prop :=
  ∃ es n, K.lookup a = some ⟨.type "dict", none, .dict es n, #[]⟩ ∧ PySem.W.KeysLit w.params es.toList ∧ (a == sysModules) = false ∧
    ((∃ z, x = .str z ∧ ∃ u : Option Value, PySem.W.nsIn K a z = some u ∧ ((r = none ∧ u = none) ∨ ∃ v y, r = some v ∧ u = some y ∧ RelV v y)) ∨ (x = .non ∧ r = none))
theorem leaf_is {prog : Program} {w : World} {x : V} {u : Value} {l : Leaf} (rx : RelV x u) (hl : leafV x = some l) : (leafKind prog w).is l u = true := by
  cases x with
  | str z =>
    obtain ⟨t, rfl⟩ := (show ∃ t, u = Value.str z t from rx)
    cases hl
    exact strKind_is prog w z t
  | non =>
    obtain rfl : u = Value.none := rx
    cases hl
    rfl
  | _ => cases hl
theorem mapOf_L {prog : Program} {w : World} {h : Heap} {K : PySem.W.Frag} {a : Addr} {es : Array DictEntry} {n : Nat} (X : K.In h) (hl : K.lookup a = some ⟨.type "dict", none, .dict es n, #[]⟩) (hk : PySem.W.KeysLit w.params es.toList) : h.MapOf (leafKind prog w) a (fun k => findBy Leaf.isOf es k) :=
  ⟨_, es, n, X _ _ hl, ⟨rfl, rfl, rfl⟩, rfl, fun e he => by
    obtain ⟨x, t, e1, e2⟩ := hk.all e (Array.mem_toList_iff.mpr he)
    exact ⟨.text x, by rw [e1]; exact leaf_is (x := .str x) (⟨t, rfl⟩ : ∃ t', Value.str x t = Value.str x t') rfl, e2⟩, fun _ => rfl⟩
theorem find_L {K : PySem.W.Frag} {w : World} {a : Addr} {es : Array DictEntry} {n : Nat} {x : V} {l : Leaf} {r : Option V} (hl : K.lookup a = some ⟨.type "dict", none, .dict es n, #[]⟩) (hk : PySem.W.KeysLit w.params es.toList) (hx : leafV x = some l)
    (g : (∃ z, x = .str z ∧ ∃ u : Option Value, PySem.W.nsIn K a z = some u ∧ ((r = none ∧ u = none) ∨ ∃ v y, r = some v ∧ u = some y ∧ RelV v y)) ∨ (x = .non ∧ r = none)) :
    (r = none ∧ findBy Leaf.isOf es l = none) ∨ ∃ v y, r = some v ∧ findBy Leaf.isOf es l = some y ∧ RelV v y := by
  rcases g with ⟨z, rfl, u, hu, hr⟩ | ⟨rfl, rfl⟩
  · cases hx
    have e : findBy Leaf.isOf es (.text z) = u := by
      rw [← PySem.W.find_K hl hu]
      unfold findBy
      congr 2
    rw [e]
    exact hr
  · cases hx
    refine .inl ⟨rfl, ?_⟩
    unfold findBy
    have e : es.find? (fun d => Leaf.isOf .none d.key) = none := by
      rw [Array.find?_eq_none]
      intro d hd
      obtain ⟨x, t, e1, e2⟩ := hk.all d (Array.mem_toList_iff.mpr hd)
      rw [e1]
      exact Bool.false_ne_true
    rw [e]
    rfl
/-- x not in d -/
def rNotInA (K : PySem.W.Frag) (w : World) : R2 := fun x y H Q => ∃ (a : Addr) (l : Leaf) (r : Option V), y = .ref a ∧ leafV x = some l ∧ GetA K w a x r ∧ Q (.bl r.isNone) H
theorem op_notInA {X : Cx} : OpR X (compareOp .NotIn) (rNotInA X.K X.w) := by
  intro pins s σ H x y v u Q I rx ry h
  obtain ⟨a, l, r, rfl, hx, ⟨es, n, hl, hk, low, g⟩, q⟩ := h
  obtain rfl : u = Value.ref a := ry
  refine wpAny_notIn_of (leaf_is (prog := X.prog) (w := X.w) rx hx) low (mapOf_L (prog := X.prog) I.kIn hl hk) ?_
  have e : (!(findBy Leaf.isOf es l).isSome) = r.isNone := by
    rcases find_L hl hk hx g with ⟨rfl, e⟩ | ⟨v, y, rfl, e, _⟩ <;> rw [e] <;> rfl
  refine ⟨.bl r.isNone, H, I.tok _, ?_, q⟩
  rw [← e]
  rfl
def op_notInAK {X : Cx} (K : PySem.W.Frag) (w : World) (h1 : X.K = K := by rfl) (h2 : X.w = w := by rfl) : OpR X (compareOp .NotIn) (rNotInA K w) := h1 ▸ h2 ▸ op_notInA
/-- d.get(k, x) -/
def tGetA (K : PySem.W.Frag) (w : World) (td ty tx : TE) : TE := fun σ H Q => td σ H fun x H1 => ∃ a, x = .ref a ∧ (∃ y r, GetA K w a y r) ∧ ty σ H1 fun y H2 => tx σ H2 fun d H3 => ∃ (l : Leaf) (r : Option V), leafV y = some l ∧ GetA K w a y r ∧ Q (r.getD d) H3
theorem pe_getA {X : Cx} {o e f : Expr} {apos cpos : Pos} {td ty tx : TE} (ho : PE X o td) (he : PE X e ty) (hf : PE X f tx) (m : M2 X o "get" apos e f cpos) : PE X (.Call (.Attribute o "get" apos) [e, f] [] cpos) (tGetA X.K X.w td ty tx) := by
  refine ⟨fun pins s σ H Q I h => ?_⟩
  refine wpAny_Call_method m.base m.few m.line PySem.F.plainAttrs_dict PySem.F.slot_dict_get PySem.F.type_dict_get (thn (ho.run pins s σ H _ I h) fun u s1 ⟨x, H1, I1, rx, a, ex, ⟨y0, r0, es0, n0, hl0, hk0, _, _⟩, q1⟩ => ?_)
  subst ex
  obtain rfl : u = Value.ref a := rx
  have mo := PySem.W.mapOf_K (prog := X.prog) (w := X.w) I1.kIn hl0 hk0
  refine ⟨mo.typeIs, fun b q => ?_, ?_⟩
  · cases q
    exact ⟨_, I1.kIn _ _ hl0, rfl⟩
  rw [m.trees]
  refine Calls.callWith_builtin rfl (Calls.evalArgs_plain (Calls.spliced_cons (thn (he.run pins s1 σ H1 _ I1 q1) fun iv s2 ⟨y, H2, I2, ry, q2⟩ =>
    Calls.spliced_cons (thn (hf.run pins s2 σ H2 _ I2 q2) fun fv s3 ⟨d, H3, I3, rz, l, r, hx, ⟨es, n, hl, hk, low, g⟩, q3⟩ => Calls.spliced_nil ?_))))
  have mo3 := mapOf_L (prog := X.prog) (w := X.w) I3.kIn hl hk
  refine call_meetsIn PySem.F.slot_dict_get mo3.typeIs PySem.F.entry_dict_get (PySem.F.args_dict_get_3 _ _ _) (meets_dict_get_default (leafKind X.prog X.w) a (leaf_is (prog := X.prog) (w := X.w) ry hx) low fv) ⟨_, mo3, ?_⟩
  rcases find_L hl hk hx g with ⟨rfl, e⟩ | ⟨v, z, rfl, e, rv⟩
  · rw [e]
    exact ⟨d, H3, I3.tok _, rz, q3⟩
  · rw [e]
    exact ⟨v, H3, I3.tok _, rv, q3⟩
def pe_getAK {X : Cx} (K : PySem.W.Frag) (w : World) {o e f : Expr} {apos cpos : Pos} {td ty tx : TE} (ho : PE X o td) (he : PE X e ty) (hf : PE X f tx) (h1 : X.K = K := by rfl) (h2 : X.w = w := by rfl)
    (m : M2 X o "get" apos e f cpos := by exact ⟨rfl, rfl, rfl, rfl⟩) : PE X (.Call (.Attribute o "get" apos) [e, f] [] cpos) (tGetA K w td ty tx) := h1 ▸ h2 ▸ pe_getA ho he hf m
end Dk
/-! f(e, .., *y, k = v): a star among the arguments, and keywords -/
namespace Sk
open PySem PySem.Spec PyProof.Rows PySem.W
section
variable {M : Model} {A : Around} {E : Value → Shared → Prop} {s : Shared}
theorem call_starK {f : Value} {first : List Value} {pos : Pos} {Q : Value → Shared → Prop} {P : Heap → Prop} {args : List (Bool × Sem Value)} {keywords : List (Option Str × Sem Value)} (hst : args.any (·.1) = true)
    (hk : ∀ h, P h → ∃ k, (k = Keeper.frame ∨ k = Keeper.machine ∨ k = Keeper.boundFrame) ∧ Looks M h (keeperOf f) k)
    (h : wpAny M A (evalArgs f true args keywords) (fun a s₁ => P s₁.heap ∧ wpAny M A (call f (first ++ a.pos) a.kw) Q E s₁) E s) : wpAny M A (callWith pos f first args keywords) Q E s := by
  unfold callWith
  refine wpAny_bind (wpAny_holding (wpAny_mono h (fun a s₁ h₁ => wpAny_bind (wpAny_standAt ?_)) fun _ _ x => x))
  obtain ⟨k, hk', L⟩ := hk _ h₁.1
  simp only [hst, Bool.true_or]
  refine wpAny_bind (L.here ?_)
  have tail : ∀ {t : Sem Value}, wpAny M A t Q E s₁ → wpAny M A (t >>= fun r => holding [r] point >>= fun _ => pure r) Q E s₁ :=
    fun ht => wpAny_bind (wpAny_mono ht (fun r s₂ hr => wpAny_bind (wpAny_holding (wpAny_point (wpAny_pure hr)))) fun _ _ x => x)
  have marked (mk : Value) : wpAny M A (callMarked mk f (first ++ a.pos) a.kw) Q E s₁ := by unfold callMarked; exact Calls.wpAny_keep h₁.2
  rcases hk' with rfl | rfl | rfl <;> dsimp only <;> first | exact tail (marked _) | exact tail (wpAny_operating h₁.2)
theorem callWith_KWS {K : Frag} {h₀ : Heap} {env : Env} {pos : Pos} {f : Value} {first : List Value} {Q : Value → Shared → Prop} {e : Expr} {rest : List Expr} {kws : List Keyword} (_X : K.In h₀) (hk : keepIn K f = true) (hall : (backToKw pos (keywordEach kws env)).all (·.1.isSome) = true)
    (h : wpAny M A (spliced (backTo pos (starEach (e :: rest) env))) (fun vs s₁ => wpAny M A (evalAll ((backToKw pos (keywordEach kws env)).map (·.2)))
      (fun ks s₂ => K.In s₂.heap ∧ wpAny M A (call f (first ++ vs) (((backToKw pos (keywordEach kws env)).filterMap (·.1)).zip ks)) Q E s₂) E s₁) E s)
    (hst : (backTo pos (starEach (e :: rest) env)).any (·.1) = true := by rfl) (he : starEach (e :: rest) env = (false, eval e env) :: starEach rest env := by rfl) :
    wpAny M A (callWith pos f first (backTo pos (starEach (e :: rest) env)) (backToKw pos (keywordEach kws env))) Q E s :=
  call_starK hst (keeps_K hk) (evalArgs_kw2 hall h he)
end
end Sk
/-! bytes() -/
namespace PySem
open Sem (wp)
namespace Y0
theorem typeCall : checkTypeCall "bytes" ⟨[], []⟩ = pure () := by first | kernel_rfl | rfl
theorem newCall : checkBuiltinCall "bytes.__new__" ⟨[.type "bytes"], []⟩ = pure () := by first | kernel_rfl | rfl
theorem bind0 : Builtin.Bytes.bindOptional "bytes.__new__" "bytes" ["source", "encoding", "errors"] [] [] = pure [none, none, none] := by first | kernel_rfl | rfl
section
variable {prog : Program} {w : World} {A : Around} {E : Value → Shared → Prop} {s : Shared}
theorem bm_new0 {Q : Value → Shared → Prop} (hQ : ∀ t k, Q (.bytes #[] t) { s with toks := k }) :
    codeAny (model prog w) A (.call (.builtin "bytes.__new__") ⟨[.type "bytes"], []⟩) (wants Q E) s := by
  refine codeAny_of_tree ?_
  show wpAny _ A.in1 (do checkBuiltinCall "bytes.__new__" ⟨[.type "bytes"], []⟩; again (.builtin "bytes.__new__" ⟨[.type "bytes"], []⟩)) _ _ s
  refine wpAny_bind (wpAny_of_eq newCall (wpAny_pure ⟨plainId_quiet F.bm_plain _, codeAny_builtin F.bm_entry ?_⟩))
  rw [Around.under_plainId F.bm_plain _]
  unfold Builtin.«bytes.__new__»
  refine wpAny_bind (wpAny_of_eq (a := true) rfl ?_)
  refine bm_if_false rfl ?_
  refine wpAny_bind (wpAny_of_eq F.bm_sub ?_)
  refine bm_if_false rfl ?_
  refine wpAny_bind (wpAny_of_eq bind0 ?_)
  refine wpAny_bind (wpAny_of_eq (a := ()) rfl ?_)
  refine wpAny_bind (wpAny_of_eq (a := ()) rfl ?_)
  refine bm_if_false rfl ?_
  refine wpAny_bind (wpAny_mkBytes ?_ (by decide))
  show wpAny _ _ (if (Value.type "bytes" == Value.type "bytes") = true then _ else _) _ _ _
  refine bm_if_true (by decide) ?_
  first
    | exact wpAny_pure (hQ _ _)
    | exact wpAny_bind (wpAny_pure (wpAny_pure (hQ _ _)))
theorem call_bytes0 {Q : Value → Shared → Prop} (hQ : ∀ t k, Q (.bytes #[] t) { s with toks := k }) : wpAny (model prog w) A (call (.type "bytes") []) Q E s := by
  refine callType_codes (Q₁ := fun obj s₁ => s₁.TypeIs obj "bytes" ∧ Q obj s₁) F.bm_called typeCall F.entry_object_init
    (bm_new0 fun t k => ⟨PySem.W.typeIs_bytes _ _ _, hQ t k⟩) fun obj s₁ h₁ => ?_
  exact ⟨h₁.1, F.args_object_init_1 obj, object_init_meets F.bm_called.init.lookup F.bm_called.made (by decide) prog w A.in1 _ s₁ ⟨h₁.1, rfl, h₁.2⟩⟩
end
end Y0
end PySem
namespace Bt
open PySem PySem.Spec PyProof.Rows L2
def rBytes0 : List V → Hp → VK → Prop := fun xs H Q => xs = [] ∧ Q (.byt (Bt.byOf [])) H
theorem call_rBytes0 {X : Cx} : CallR X (.type "bytes") rBytes0 := by
  intro pins s σ H xs us Q I r h
  obtain ⟨rfl, q⟩ := h
  cases r
  exact PySem.Y0.call_bytes0 fun t' k => ⟨.byt (Bt.byOf []), H, I.tok k, ⟨_, rfl⟩, q⟩
end Bt
/-! != of lists by an own __eq__; == inside lists by an own __eq__ with both answers -/
namespace GQ
open PySem PySem.SeqAt
open AutoSeq1 (wpAny_loadPart')
open MeetsSeq MeetsSeq2 MeetsSeq3 SeqRoads2
section
variable {prog : Program} {w : World} {A : Around} {R : Result → Shared → Prop}
theorem ne_loopG (l b : Addr) (N : Nat) (I : Nat → Shared → Prop) (hl : ListI prog w A (fun e s' => R (.error e) s') l b N I)
    (fin : ∀ s, I N s → R (.ok (.ret (.bool false))) s) (k : Nat) :
    ∀ i : Nat, N - i = k → i ≤ N → ∀ s, I i s →
      wpAny (model prog w) A.in1 (Builtin.«list.__eq__.loop» ⟨[.ref l, .ref b, rawInt i, rawInt 3], []⟩) (FinOf prog w A R) (fun e s' => R (.error e) s') s := by
  induction k with
  | zero =>
    intro i hk hi s h
    obtain ⟨items, items2, n, n2, hl1, hb1, hs1, hs2, _⟩ := hl _ _ h
    have hi' : i = N := by omega
    have hR : R (.ok (.ret (.bool false))) s := fin s (hi' ▸ h)
    obtain ⟨hp, g, d, tk, os⟩ := s
    wp_walk using wpAny_loadPart' hl1, wpAny_loadPart' hb1
    have hi1 : items[((i : Nat) : Int).toNat]? = none := by simp; omega
    have hi2 : items2[((i : Nat) : Int).toNat]? = none := by simp; omega
    rw [hi1, hi2]
    wp_walk using wpAny_loadPart' hl1, wpAny_loadPart' hb1
    show R (.ok (.ret (.bool (items.size != items2.size)))) _
    rw [hs1, hs2]
    simpa using hR
  | succ k ih =>
    intro i hk hi s h
    obtain ⟨items, items2, n, n2, hl1, hb1, hs1, hs2, turn⟩ := hl _ _ h
    have hlt : i < items.size := by omega
    have hlt2 : i < items2.size := by omega
    have ht := turn hlt hlt2
    obtain ⟨hp, g, d, tk, os⟩ := s
    wp_walk using wpAny_loadPart' hl1, wpAny_loadPart' hb1
    have hi1 : items[((i : Nat) : Int).toNat]? = some items[i] := by simp [hlt]
    have hi2 : items2[((i : Nat) : Int).toNat]? = some items2[i] := by simp [hlt2]
    have hc : ((i : Int) + 1) = ((i + 1 : Nat) : Int) := by omega
    rw [hi1, hi2]
    refine wpAny_bind (wpAny_mono ht (fun r s2 h2 => ?_) fun _ _ x => x)
    obtain ⟨hr, h2⟩ := h2
    subst hr
    have hrec := ih (i + 1) (by omega) (by omega) s2 h2
    obtain ⟨hp2, g2, d2, tk2, os2⟩ := s2
    wp_walk
    rw [hc]
    exact ⟨plainId_quiet plain_eq_loop _, codeAny_builtin entry_eq_loop (by
      rw [Around.under_plainId plain_eq_loop _]
      exact hrec)⟩
theorem list_neG (l b : Addr) (N : Nat) (I : Nat → Shared → Prop) (hl : ListI prog w A (fun e s' => R (.error e) s') l b N I)
    (fin : ∀ s, I N s → R (.ok (.ret (.bool false))) s) {s : Shared} (h : I 0 s) :
    wpAny (model prog w) A.in1 (Builtin.«list.__ne__» ⟨[.ref l, .ref b], []⟩) (FinOf prog w A R) (fun e s' => R (.error e) s') s := by
  obtain ⟨items, items2, n, n2, hl1, hb1, hs1, hs2, _⟩ := hl _ _ h
  have hrec := ne_loopG (A := A) (R := R) l b N I hl fin _ 0 rfl (Nat.zero_le _) s h
  obtain ⟨hp, g, d, tk, os⟩ := s
  have f3 := AutoSeq1.sub_list_list
  have hne : ¬ (items.size != items2.size) = true := by simp [hs1, hs2]
  wp_walk using wpAny_loadPart' hl1, wpAny_loadPart' hb1
  exact ⟨plainId_quiet plain_eq_loop _, codeAny_builtin entry_eq_loop (by
    rw [Around.under_plainId plain_eq_loop _]
    exact hrec)⟩
end
section
variable {prog : Program} {w : World} {A : Around} {E : Value → Shared → Prop} {s : Shared}
theorem rc_neListG {l b : Addr} {N : Nat} {Q : Value → Shared → Prop} (hu : A.units < cLine) (I : Nat → Shared → Prop) (hl : ListI prog w A E l b N I)
    (fin : ∀ s, I N s → Q (.bool false) s) (h : I 0 s) : wpAny (model prog w) A (richCompare .NotEq (.ref l) (.ref b)) Q E s := by
  obtain ⟨items, items2, n, n2, hl1, hb1, _, _, _⟩ := hl _ _ h
  refine wpAny_richCompare_same_room (op := .NotEq) ⟨_, hl1, rfl⟩ ⟨_, hb1, rfl⟩ F.slot_list_ne (call_here F.slot_list_ne ⟨_, hl1, rfl⟩ F.entry_list_ne (F.args_list_ne_2 _ _) ?_) hu
  exact list_neG (R := wants (fun v s' => v ≠ .notImplemented ∧ Q v s') E) l b N I hl (fun s' q => ⟨(fun x => nomatch x), fin s' q⟩) h
end
end GQ
namespace L2
open PySem PySem.Spec PyProof.Rows
section
variable {X : Cx} {n m : Nat} {D D' : Eqv}
theorem RcG.mono (h : RcG X n D) (hn : n ≤ m) : RcG X m D := fun A pins s σ H x y u v sb => h A pins s σ H x y u v (sb.mono hn)
/-- x != y as an expression, of what D says to be equal -/
def rNeG (D : Eqv) : R2 := fun x y H Q => D x y H ∧ ∀ H', Ext H H' → Q (.bl false) H'
theorem op_neGL (hD : Mon D) (h : EqG X n D) (hr : Room (n + 1) X.A) : OpR X (compareOp .NotEq) (rNeG (DList D)) := by
  intro pins s σ H x y v u Q I rx ry hq
  obtain ⟨⟨a, b, xs, ys, rfl, rfl, ha, hb, p⟩, q⟩ := hq
  cases (show v = Value.ref a from rx)
  cases (show u = Value.ref b from ry)
  have sb : Sub X (n + 1) X.A := ⟨hr, rfl⟩
  show wpAny (model X.prog X.w) X.A (richCompare .NotEq (.ref a) (.ref b)) (EP X pins σ Q) X.xe s
  refine GQ.rc_neListG (N := xs.length) sb.room.units0 (fun _ s' => LoopI X pins σ H s') (fun i s' q => ?_) (fun s' q2 => ?_) ⟨H, I, Ext.rfl'⟩
  · obtain ⟨H1, I1, e1⟩ := id q
    obtain ⟨z, its, k, r, e⟩ := I1.hok a _ (e1 _ _ ha)
    obtain ⟨z2, its2, k2, r2, e2⟩ := I1.hok b _ (e1 _ _ hb)
    refine ⟨its.toArray, its2.toArray, k, k2, e, e2, by rw [List.size_toArray, ← r.length], by rw [List.size_toArray, ← r2.length, ← p.1], fun h1 h2 => ?_⟩
    exact turnG hD h sb p r r2 i h1 h2 s' q
  · obtain ⟨H1, I1, e1⟩ := q2
    exact ⟨.bl false, H1, I1, rfl, q H1 e1⟩
/-- == inside a list of objects whose own __eq__ answers True and leaves the abstract heap -/
theorem rcG_own {CX : CXT} {C f : Addr} {sp : Sp} {R : Addr → Addr → Hp → Prop} {E : XK} (F : FnR X.prog X.w X.K X.mg X.base CX n f sp) (hp : ∀ a b H (Q : VK) E, R a b H → Q (.bl true) H → sp [.ref a, .ref b] H Q E)
    (hs : PySem.W.findIn X.K (.ref C) "__eq__" = some (some (.ref f))) (hf : PySem.W.isFn X.K (.ref f) = true) (hx : Passes CX X E) : RcG X n (DIns C R) := by
  intro A pins s σ H x y u v sb I rx ry d
  obtain ⟨a, b, dx, dy, fs, gs, rfl, rfl, ha, hb', hr⟩ := d
  cases rx
  cases ry
  obtain ⟨mA, J, _⟩ := ins_get I.hok ha
  obtain ⟨mB, J', _⟩ := ins_get I.hok hb'
  obtain ⟨od, J, _⟩ := J.look
  obtain ⟨od', J', _⟩ := J'.look
  obtain ⟨m, hF⟩ := I.fr
  refine PySem.W.cmp_K (op := .Eq) (tb := .ref C) sb.room.units0 hF I.ok.mod.kin J J'.type (by simp [PySem.W.notFirst]) hs hf ?_
  have e0 : Env0 X.prog X.w X.K X.mg X.base A X.stack s H := by
    have e := I.env0
    exact ⟨by rw [sb.fr]; exact e.frames, e.mod, e.bs, e.bsz, e.funs, e.frf, e.hok, e.bare⟩
  refine wpAny_mono (wpAny_call (SlX.run_at (us := [.ref a, .ref b]) (ws := [.ref a, .ref b]) (Q := fun z H' => z = .bl true ∧ H' = H) (E := E) F sb.room e0 hx I (.cons rfl (.cons rfl .nil)) (hp a b H _ _ hr ⟨rfl, rfl⟩))) (fun w s' z => ?_) fun _ _ x => x
  obtain ⟨z', H', I', rz, rfl, rfl⟩ := z
  cases rz
  exact ⟨rfl, H', I', Ext.rfl'⟩
end
end L2
/-! != of tuples whose items are equal, by their own __eq__ too -/
namespace L2
open PySem PySem.Spec PyProof.Rows
end L2
/-! list(range(i, j, c)); sorted(ints) -/
namespace L2
open PySem PySem.Spec PyProof.Rows
end L2
namespace Th
open PySem PySem.Spec PyProof.Rows L2
/-- the goal that a head by facts leaves, from the law's promise -/
theorem walkGE {l : PySem.W.OpenLaw} {n k : Nat} {q : Program} {loose : List Str} {XP : (Str → Option Value) → Heap → Prop} {YP : World → Heap → Prop} {d : DefRec} {sp : World → PySem.W.Frag → Sp} {x : Str}
    (hn : l.most = some n) (hn2 : n ≤ sizeLine) (hdf : d.params.defaults = []) (room : Room k callerA)
    (F : ∀ (w : World) (mg : Str → Option Value) (fa : Addr) (h : Heap), YP w h → h.Ns mainGlobals mg → mg d.name = some (.ref fa) →
      ∃ K : PySem.W.Frag, K.In h ∧ ∃ fd : FuncData, (∀ (s : Shared) (u : Value), BindsTo s fd ⟨[u], []⟩ [(x, u)]) ∧ ∀ base : Heap, K.In base → base.Ns mainGlobals mg → FnG l.prog w K mg base k fa fd [x] (sp w K))
    (hsp : ∀ (w : World) (K : PySem.W.Frag) (H : Hp) (a : Addr) (ns : List Int), ns.length ≤ n → Only H → SqL K H a (ns.map V.int) → sp w K [.ref a] H (fun v _ => v = .bl true) fun _ _ _ => False) :
    PySem.W.WalkO q loose XP YP l.row.toRowW d [] (fun f vs => PySem.call f vs) := by
  apply Att.attach_call hn hdf
  intro w s₀ s₁ mg mb fa o pm cd doc a vs ns G Y ho hd hcd hmg hobj hints hlen hg
  obtain ⟨K, KX, fd, bnd, every⟩ := F w mg fa _ Y G.T.g hmg
  exact lawG KX G.T.g G.T.b G.T.builtins G.T.nolimit hg hobj hints (Nat.le_trans hlen hn2) room every bnd (fun H only sq => hsp w K H a ns hlen only sq)
end Th
namespace Th
open PySem PySem.Spec PyProof.Rows L2
local macro_rules | `(tactic| walk_at "lk") => `(tactic| first
  | assumption
  | exact upd_same
  | (refine upd_old (by assumption) ?_; walk_at "lk")
  | (refine upd_diff (by assumption) ?_; walk_at "lk")
  | (refine upd_diff (Ne.symm (by assumption)) ?_; walk_at "lk"))
local macro_rules | `(tactic| walk_at "cnd") => `(tactic| first
  | omega
  | (refine ⟨by omega, by omega⟩)
  | (refine ⟨by omega, by omega, by omega⟩)
  | (refine .inl ⟨by omega, by omega⟩)
  | (refine .inr ⟨by omega, by omega⟩)
  | (exact (show CPow _ _ from ⟨by decide, by decide, by omega⟩))
  | decide +kernel
  | (unfold CMulW; decide +kernel)
  | (exact wide_div (b := 64) (by omega) (by omega) (by decide) (by decide)))
local macro_rules | `(tactic| walk_at "rd1") => `(tactic| first
  | (with_reducible refine r_seq ?_)
  | (with_reducible refine r_asg ?_)
  | (with_reducible refine r_ret ?_)
  | (with_reducible refine r_if ?_)
  | (with_reducible refine r_gname ?_)
  | ((with_reducible refine' r_var ?hv ?_); (case hv => exact rfl))
  | (with_reducible refine r_c ?_)
  | (with_reducible refine r_op ?_)
  | (with_reducible refine r_I0 ?_)
  | ((with_reducible refine r_I ?hc ?_); (case hc => walk_at "cnd"))
  | (with_reducible refine r_test ?_)
  | (with_reducible refine r_tB ?_)
  | (with_reducible refine r_bl ?_)
  | (with_reducible refine r_not ?_)
  | (with_reducible refine r_and ?_)
  | (with_reducible refine r_or ?_)
  | (with_reducible refine r_ifE ?_)
  | (with_reducible refine r_notV ?_)
  | (with_reducible refine r_andV ?_)
  | (with_reducible refine r_orV ?_)
  | (with_reducible refine r_chain ?_)
  | (with_reducible refine r_cb ?_)
  | (with_reducible refine r_call ?_)
  | (with_reducible refine r_callN ?_)
  | (with_reducible refine r_nil ?_)
  | (with_reducible refine r_cons ?_)
  | ((with_reducible refine r_lst ?_))
  | ((with_reducible refine r_tup ?_))
  | ((with_reducible refine r_new ?_ ?_); (exact Nat.le_of_ble_eq_true rfl); (intro p hp))
  | (with_reducible refine r_rInt1 ?_)
  | (with_reducible refine r_rIntB ?_)
  | (with_reducible refine r_rAbs ?_)
  | (with_reducible refine r_rMin2 ?_)
  | (with_reducible refine r_rMax2 ?_)
  | ((with_reducible refine r_rLenZ ?hz ?_); (case hz => first | assumption | exact Nat.le_of_ble_eq_true rfl | (refine Nat.le_trans ?_ (by decide : 100000 ≤ sizeLine); omega)))
  | ((with_reducible refine r_addZ ?hz ?_); (case hz => (refine Nat.le_trans ?_ (by decide : 100000 ≤ sizeLine); first | omega | (simp only [Str.length] at *; simp; omega))))
  | ((with_reducible refine r_mulZ ?hz ?h0 ?h1 ?_); (case hz => first | omega | exact Nat.le_of_ble_eq_true rfl); (case h0 => omega); (case h1 => omega))
  | ((with_reducible refine' r_rLenQ ?h1 ?_); (case h1 => first | (exact .inl (by assumption)) | (exact .inr (by assumption)) | (exact .inl (SqL.of (by walk_at "lk"))) | (exact .inr (SqT.of (by walk_at "lk")))))
  | ((with_reducible refine r_eq ?hs ?_); (case hs => exact rfl))
  | ((with_reducible refine r_ne ?hs ?_); (case hs => exact rfl))
  | (with_reducible refine r_inC ?_)
  | ((with_reducible refine' r_cat ?h1 ?h2 ?h3 ?_); (case h1 => walk_at "lk"); (case h2 => walk_at "lk"); (case h3 => exact Nat.le_of_ble_eq_true rfl); (intro p hp))
  | ((with_reducible refine' r_rep ?h1 ?h2 ?h3 ?h4 ?_); (case h1 => walk_at "lk"); (case h2 => omega); (case h3 => omega); (case h4 => exact Nat.le_of_ble_eq_true rfl); (intro p hp))
  | ((with_reducible refine' r_append ?h1 ?h2 ?_); (case h1 => walk_at "lk"); (case h2 => first | exact (show _ + 1 ≤ sizeLine from Nat.le_of_ble_eq_true rfl) | exact Nat.lt_of_le_of_lt (by omega : _ ≤ 100000) (by decide)))
  | (with_reducible refine r_bm ?_)
  | ((with_reducible refine' r_tyL ?h1 ?_); (case h1 => walk_at "lk"))
  | ((with_reducible refine' r_ixL ?h1 ?h2 ?_); (case h1 => first | assumption | exact SqL.of (by walk_at "lk")); (case h2 => exact rfl))
  | ((with_reducible refine' r_ixT ?h1 ?h2 ?_); (case h1 => first | assumption | exact SqT.of (by walk_at "lk")); (case h2 => exact rfl))
  | (with_reducible refine r_gsub ?_)
  | ((with_reducible refine' r_setL ?h1 ?h2 ?_); (case h1 => walk_at "lk"); (case h2 => exact rfl))
  | (with_reducible refine r_un ?_)
  | (with_reducible refine r_neg ?_)
  | (with_reducible refine r_iteT ?_)
  | (with_reducible refine r_iteNT ?_)
  | (with_reducible refine r_iteNF ?_)
  | (with_reducible refine r_iteF ?_)
  | (with_reducible refine r_next ?_)
  | (with_reducible refine r_drop ?_)
  | (with_reducible refine r_cont ?_)
  | (with_reducible refine r_brk ?_))
local macro_rules | `(tactic| walk_at "ty") => `(tactic| first
  | assumption
  | exact .base (.int _)
  | exact .base (.str _)
  | exact .base (.bl _)
  | exact .base .non
  | exact .byt _
  | exact .base (.lst (by walk_at "lk"))
  | exact .base (.tup (by walk_at "lk")))
local macro_rules | `(tactic| walk_at "rd2") => `(tactic| first
  | walk_at "rd1"
  | ((with_reducible refine' r_isi true ?ht ?hk ?_); (case ht => walk_at "ty"); (case hk => first | assumption | decide +kernel))
  | ((with_reducible refine' r_isi false ?ht ?hk ?_); (case ht => walk_at "ty"); (case hk => first | assumption | decide +kernel))
  | ((with_reducible refine' r_isiT2 true true ?hT ?ht ?hk ?hk2 ?_); (case hT => walk_at "lk"); (case ht => walk_at "ty"); (case hk => decide +kernel); (case hk2 => decide +kernel))
  | ((with_reducible refine' r_isiT2 true false ?hT ?ht ?hk ?hk2 ?_); (case hT => walk_at "lk"); (case ht => walk_at "ty"); (case hk => decide +kernel); (case hk2 => decide +kernel))
  | ((with_reducible refine' r_isiT2 false true ?hT ?ht ?hk ?hk2 ?_); (case hT => walk_at "lk"); (case ht => walk_at "ty"); (case hk => decide +kernel); (case hk2 => decide +kernel))
  | ((with_reducible refine' r_isiT2 false false ?hT ?ht ?hk ?hk2 ?_); (case hT => walk_at "lk"); (case ht => walk_at "ty"); (case hk => decide +kernel); (case hk2 => decide +kernel))
  | (with_reducible refine r_iteNT ?_)
  | ((show (if (!true) = true then _ else _)); refine r_iteNT ?_)
  | (with_reducible refine r_r1 ?_)
  | (with_reducible refine r_maks ?_)
  | (with_reducible refine r_sfld ?_)
  | ((with_reducible refine' r_sfldE ?h1 ?h2 ?h3 ?h4 ?_); (case h1 => walk_at "lk"); (case h2 => assumption); (case h3 => assumption); (case h4 => exact (show _ + 1 ≤ 1000 from Nat.le_of_ble_eq_true rfl)))
  | (with_reducible refine r_fld ?_)
  | (with_reducible refine r_join ?_)
  | (with_reducible refine r_jcons ?_)
  | (with_reducible refine r_jnil ?_)
  | ((with_reducible refine r_rLenY ?hz ?_); (case hz => first | assumption | (refine Nat.le_trans ?_ (by decide : 100000 ≤ sizeLine); omega)))
  | (with_reducible refine r_par ?_)
  | (with_reducible refine r_pair ?_)
  | (with_reducible refine r_par3 ?_)
  | (with_reducible refine r_trip ?_)
  | ((with_reducible refine' r_gtup ?h1 ?h2 ?_); (case h1 => first | assumption | exact SqT.of (by walk_at "lk")); (case h2 => exact rfl))
  | (with_reducible refine r_gcons ?_)
  | (with_reducible refine r_gnil ?_)
  | ((with_reducible refine' r_slL ?h1 ?_); (case h1 => first | assumption | exact SqL.of (by walk_at "lk")); (intro p hp))
  | (with_reducible refine r_iTup ?_)
  | ((with_reducible refine' r_tupE ?h1 ?_); (case h1 => first | assumption | exact SqT.of (by walk_at "lk")))
  | (with_reducible refine r_m1 ?_)
  | (with_reducible refine r_isZ ?_)
  | (with_reducible refine r_sl ?_)
  | (with_reducible refine r_noPart ?_)
  | (with_reducible refine r_part ?_)
  | (with_reducible refine r_partE ?_)
  | ((with_reducible refine r_slS ?hz ?_); (case hz => first | assumption | (refine Nat.le_trans ?_ (by decide : 100000 ≤ sizeLine); omega)))
  | ((with_reducible refine' r_inT ?h1 ?h2 ?h3 ?_); (case h1 => first | assumption | (exact SqT.of (by walk_at "lk"))); (case h2 => exact rfl); (case h3 => exact rfl))
  | ((with_reducible refine' r_inL ?h1 ?h2 ?h3 ?_); (case h1 => first | assumption | (exact SqL.of (by walk_at "lk"))); (case h2 => exact rfl); (case h3 => exact rfl))
  | (with_reducible refine r_lc ?_)
  | (with_reducible refine r_for ?_)
  | (with_reducible refine r_iStr ?_)
  | (with_reducible refine r_strE ?_)
  | (with_reducible refine r_iList ?_)
  | ((with_reducible refine' r_listE ?h1 ?_); (case h1 => first | assumption | exact SqL.of (by walk_at "lk")))
  | (with_reducible refine r_iRng1 ?_)
  | ((with_reducible refine' r_rngE ?h0 ?h1 ?_); (case h0 => first | omega | (split <;> omega)); (case h1 => first | omega | (split <;> omega))))
local macro_rules | `(tactic| walk_at "rd") => `(tactic| (repeat walk_at "rd2"))
local macro_rules | `(tactic| walk_at "st") => `(tactic| (repeat (first
  | (with_reducible refine r_gname ?_)
  | (with_reducible refine r_next ?_)
  | (with_reducible refine r_seq ?_)
  | (with_reducible refine r_asg ?_)
  | (with_reducible refine r_ret ?_)
  | (with_reducible refine r_for ?_)
  | (with_reducible refine r_iRng1 ?_)
  | (with_reducible refine r_iList ?_)
  | (with_reducible refine r_cons ?_)
  | (with_reducible refine r_par ?_)
  | (with_reducible refine r_par3 ?_))))
def topS (i : Nat) : Stmt := PySem.Challenge.pw_tarhouse_k40_archives_edited.main.body.getD i (.Pass ⟨0, 0, 0, 0⟩)
abbrev s_is_integer : Stmt := topS 5
abbrev N_is_integer : List Str := ["thing"]
theorem sc_is_integer : FnScope N_is_integer ["thing"] (defScope s_is_integer) := ⟨rfl, rfl, rfl, by decide +kernel, rfl, by decide +kernel, by decide +kernel⟩
abbrev s_is_integer_within : Stmt := topS 6
abbrev N_is_integer_within : List Str := ["thing", "least", "most"]
theorem sc_is_integer_within : FnScope N_is_integer_within ["thing", "least", "most"] (defScope s_is_integer_within) := ⟨rfl, rfl, rfl, by decide +kernel, rfl, by decide +kernel, by decide +kernel⟩
abbrev s_is_name : Stmt := topS 31
abbrev N_is_name : List Str := ["thing", "character"]
theorem sc_is_name : FnScope N_is_name ["thing"] (defScope s_is_name) := ⟨rfl, rfl, rfl, by decide +kernel, rfl, by decide +kernel, by decide +kernel⟩
abbrev s_blob : Stmt := topS 100
abbrev N_blob : List Str := ["numbers"]
theorem sc_blob : FnScope N_blob ["numbers"] (defScope s_blob) := ⟨rfl, rfl, rfl, by decide +kernel, rfl, by decide +kernel, by decide +kernel⟩
abbrev s_is_row_of_bytes : Stmt := topS 101
abbrev N_is_row_of_bytes : List Str := ["thing", "number"]
theorem sc_is_row_of_bytes : FnScope N_is_row_of_bytes ["thing"] (defScope s_is_row_of_bytes) := ⟨rfl, rfl, rfl, by decide +kernel, rfl, by decide +kernel, by decide +kernel⟩
abbrev s__law_source : Stmt := topS 103
abbrev N__law_source : List Str := ["_law_script", "_law_at", "_law_cell", "_law_great", "_law_mixed"]
theorem sc__law_source : FnScope N__law_source ["_law_script", "_law_at"] (defScope s__law_source) := ⟨rfl, rfl, rfl, by decide +kernel, rfl, by decide +kernel, by decide +kernel⟩
abbrev s__law_draw : Stmt := topS 104
abbrev N__law_draw : List Str := ["_law_source_here", "_law_many", "_law_digit", "_law_primes", "_law_turn", "_law_base", "_law_found"]
theorem sc__law_draw : FnScope N__law_draw ["_law_source_here", "_law_many"] (defScope s__law_draw) := ⟨rfl, rfl, rfl, by decide +kernel, rfl, by decide +kernel, by decide +kernel⟩
abbrev s__law_stamps : Stmt := topS 107
abbrev N__law_stamps : List Str := ["_law_source_here"]
theorem sc__law_stamps : FnScope N__law_stamps ["_law_source_here"] (defScope s__law_stamps) := ⟨rfl, rfl, rfl, by decide +kernel, rfl, by decide +kernel, by decide +kernel⟩
abbrev s_law : Stmt := topS 118
abbrev N_law : List Str := ["_law_script", "_law_at", "_law_source_here", "_law_names_here", "_law_members", "_law_editor", "_law_turn", "_law_before", "_law_found", "_law_spec_here"]
theorem sc_law : FnScope N_law ["_law_script"] (defScope s_law) := ⟨rfl, rfl, rfl, by decide +kernel, rfl, by decide +kernel, by decide +kernel⟩
abbrev s_File___init__ : Stmt := inClass (topS 45) 1
abbrev N_File___init__ : List Str := ["self", "name", "data", "mode", "time"]
theorem sc_File___init__ : FnScope N_File___init__ ["self", "name", "data", "mode", "time"] (defScope s_File___init__) := ⟨rfl, rfl, rfl, by decide +kernel, rfl, by decide +kernel, by decide +kernel⟩
abbrev s_Directory___init__ : Stmt := inClass (topS 47) 1
abbrev N_Directory___init__ : List Str := ["self", "name", "mode", "time"]
theorem sc_Directory___init__ : FnScope N_Directory___init__ ["self", "name", "mode", "time"] (defScope s_Directory___init__) := ⟨rfl, rfl, rfl, by decide +kernel, rfl, by decide +kernel, by decide +kernel⟩
abbrev s_Symlink___init__ : Stmt := inClass (topS 48) 1
abbrev N_Symlink___init__ : List Str := ["self", "name", "target", "mode", "time"]
theorem sc_Symlink___init__ : FnScope N_Symlink___init__ ["self", "name", "target", "mode", "time"] (defScope s_Symlink___init__) := ⟨rfl, rfl, rfl, by decide +kernel, rfl, by decide +kernel, by decide +kernel⟩
abbrev s_Link___init__ : Stmt := inClass (topS 49) 1
abbrev N_Link___init__ : List Str := ["self", "name", "target", "mode", "time"]
theorem sc_Link___init__ : FnScope N_Link___init__ ["self", "name", "target", "mode", "time"] (defScope s_Link___init__) := ⟨rfl, rfl, rfl, by decide +kernel, rfl, by decide +kernel, by decide +kernel⟩
abbrev s_Sparse___init__ : Stmt := inClass (topS 46) 1
abbrev N_Sparse___init__ : List Str := ["self", "name", "size", "mode", "time", "pieces"]
theorem sc_Sparse___init__ : FnScope N_Sparse___init__ ["self", "name", "size", "mode", "time", "pieces"] (defScope s_Sparse___init__) := ⟨rfl, rfl, rfl, by decide +kernel, rfl, by decide +kernel, by decide +kernel⟩
abbrev s_check_name : Stmt := topS 39
abbrev N_check_name : List Str := ["thing"]
theorem sc_check_name : FnScope N_check_name ["thing"] (defScope s_check_name) := ⟨rfl, rfl, rfl, by decide +kernel, rfl, by decide +kernel, by decide +kernel⟩
abbrev s_check_data_members : Stmt := topS 40
abbrev N_check_data_members : List Str := ["thing"]
theorem sc_check_data_members : FnScope N_check_data_members ["thing"] (defScope s_check_data_members) := ⟨rfl, rfl, rfl, by decide +kernel, rfl, by decide +kernel, by decide +kernel⟩
abbrev s_check_pieces : Stmt := topS 42
abbrev N_check_pieces : List Str := ["size", "pieces"]
theorem sc_check_pieces : FnScope N_check_pieces ["size", "pieces"] (defScope s_check_pieces) := ⟨rfl, rfl, rfl, by decide +kernel, rfl, by decide +kernel, by decide +kernel⟩
abbrev s_are_pieces : Stmt := topS 36
abbrev N_are_pieces : List Str := ["size", "pieces", "offset", "data", "piece"]
theorem sc_are_pieces : FnScope N_are_pieces ["size", "pieces"] (defScope s_are_pieces) := ⟨rfl, rfl, rfl, by decide +kernel, rfl, by decide +kernel, by decide +kernel⟩
abbrev s_is_piece : Stmt := topS 37
abbrev N_is_piece : List Str := ["thing"]
theorem sc_is_piece : FnScope N_is_piece ["thing"] (defScope s_is_piece) := ⟨rfl, rfl, rfl, by decide +kernel, rfl, by decide +kernel, by decide +kernel⟩
abbrev s_check_mode_and_time : Stmt := topS 43
abbrev N_check_mode_and_time : List Str := ["mode", "time"]
theorem sc_check_mode_and_time : FnScope N_check_mode_and_time ["mode", "time"] (defScope s_check_mode_and_time) := ⟨rfl, rfl, rfl, by decide +kernel, rfl, by decide +kernel, by decide +kernel⟩
abbrev s_header : Stmt := topS 58
abbrev N_header : List Str := ["kind", "name", "mode", "size", "time", "target", "front", "back"]
theorem sc_header : FnScope N_header ["kind", "name", "mode", "size", "time", "target"] (defScope s_header) := ⟨rfl, rfl, rfl, by decide +kernel, rfl, by decide +kernel, by decide +kernel⟩
abbrev s_checksum : Stmt := topS 59
abbrev N_checksum : List Str := ["block"]
theorem sc_checksum : FnScope N_checksum ["block"] (defScope s_checksum) := ⟨rfl, rfl, rfl, by decide +kernel, rfl, by decide +kernel, by decide +kernel⟩
abbrev s_checksum_field : Stmt := topS 60
abbrev N_checksum_field : List Str := ["block"]
theorem sc_checksum_field : FnScope N_checksum_field ["block"] (defScope s_checksum_field) := ⟨rfl, rfl, rfl, by decide +kernel, rfl, by decide +kernel, by decide +kernel⟩
abbrev s_text_field : Stmt := topS 61
abbrev N_text_field : List Str := ["text", "data"]
theorem sc_text_field : FnScope N_text_field ["text"] (defScope s_text_field) := ⟨rfl, rfl, rfl, by decide +kernel, rfl, by decide +kernel, by decide +kernel⟩
abbrev s_octal_field : Stmt := topS 62
abbrev N_octal_field : List Str := ["number", "size"]
theorem sc_octal_field : FnScope N_octal_field ["number", "size"] (defScope s_octal_field) := ⟨rfl, rfl, rfl, by decide +kernel, rfl, by decide +kernel, by decide +kernel⟩
abbrev s_padded : Stmt := topS 3
abbrev N_padded : List Str := ["data"]
theorem sc_padded : FnScope N_padded ["data"] (defScope s_padded) := ⟨rfl, rfl, rfl, by decide +kernel, rfl, by decide +kernel, by decide +kernel⟩
abbrev s_target_of : Stmt := topS 50
abbrev N_target_of : List Str := ["member"]
theorem sc_target_of : FnScope N_target_of ["member"] (defScope s_target_of) := ⟨rfl, rfl, rfl, by decide +kernel, rfl, by decide +kernel, by decide +kernel⟩
abbrev s_map_block : Stmt := topS 77
abbrev N_map_block : List Str := ["size", "spans", "numbers", "offset", "length", "text", "number"]
theorem sc_map_block : FnScope N_map_block ["size", "spans"] (defScope s_map_block) := ⟨rfl, rfl, rfl, by decide +kernel, rfl, by decide +kernel, by decide +kernel⟩
abbrev s__law_made : Stmt := topS 110
abbrev N__law_made : List Str := ["_law_spec_here", "_law_size", "_law_pieces_here", "_law_some", "_law_offset", "_law_numbers_here"]
theorem sc__law_made : FnScope N__law_made ["_law_spec_here"] (defScope s__law_made) := ⟨rfl, rfl, rfl, by decide +kernel, rfl, by decide +kernel, by decide +kernel⟩
abbrev s_packed : Stmt := topS 93
abbrev N_packed : List Str := ["member", "target", "stored", "head"]
theorem sc_packed : FnScope N_packed ["member"] (defScope s_packed) := ⟨rfl, rfl, rfl, by decide +kernel, rfl, by decide +kernel, by decide +kernel⟩
abbrev s_stored_bytes : Stmt := topS 94
abbrev N_stored_bytes : List Str := ["member", "spans", "offset", "data", "piece"]
theorem sc_stored_bytes : FnScope N_stored_bytes ["member"] (defScope s_stored_bytes) := ⟨rfl, rfl, rfl, by decide +kernel, rfl, by decide +kernel, by decide +kernel⟩
abbrev s_long_part : Stmt := topS 95
abbrev N_long_part : List Str := ["kind", "text", "stored"]
theorem sc_long_part : FnScope N_long_part ["kind", "text"] (defScope s_long_part) := ⟨rfl, rfl, rfl, by decide +kernel, rfl, by decide +kernel, by decide +kernel⟩
/-- the state of the drawing: three ints -/
def Src (H : Hp) (a : Addr) : Prop := ∃ l m c : Int, H a = some (.lst [.int l, .int m, .int c]) ∧ True
/-- no more than n draws until now -/
def SrcB (n : Nat) (H : Hp) (a : Addr) : Prop := ∃ l m : Int, ∃ c : Nat, H a = some (.lst [.int l, .int m, .int (c : Int)]) ∧ 0 ≤ l ∧ 0 ≤ m ∧ m < 2305843009213693951 ∧ c ≤ n
theorem SrcB.src {n : Nat} {H : Hp} {a : Addr} (h : SrcB n H a) : Src H a := by
  obtain ⟨l, m, c, g, _⟩ := h
  exact ⟨_, _, _, g, True.intro⟩
theorem SrcB.mono {n m : Nat} {H : Hp} {a : Addr} (h : SrcB n H a) (e : n ≤ m) : SrcB m H a := by
  obtain ⟨l, q, c, g, a1, a2, a3, a4⟩ := h
  exact ⟨l, q, c, g, a1, a2, a3, Nat.le_trans a4 e⟩
def CPowW (i j : Int) : Prop := 0 ≤ j ∧ ((Builtin.Int.intBits i : Nat) : Int) * j ≤ 2 ^ 27
theorem op_powW {X : Cx} : OpR X (binaryOp .Pow) (rI CPowW fun i j => V.int (i ^ j.toNat)) := opI fun _ _ _ _ _ _ _ hc q => pow_int hc.1 hc.2 q
theorem bits_le {a : Int} {b : Nat} (h : a.natAbs < 2 ^ b) : Builtin.Int.intBits a ≤ b := by
  unfold Builtin.Int.intBits
  split
  · exact Nat.zero_le _
  · rename_i e
    have : a.natAbs ≠ 0 := fun g => e (by rw [Int.natAbs_eq_zero.mp g]; rfl)
    exact (Nat.log2_lt this).mpr h
theorem base_ok {m : Int} {c : Nat} (h0 : 0 ≤ m) (h1 : m < 2305843009213693951) (h2 : c ≤ 1000000) : CPowW ((m + 50021 * ((c : Int) + 1)) * (2 * ((c : Int) + 1) + 3) + 6151 * ((c : Int) + 1) * ((c : Int) + 1)) 3 := by
  obtain ⟨A, ea⟩ : ∃ A, m + 50021 * ((c : Int) + 1) = A := ⟨_, rfl⟩
  obtain ⟨B, eb⟩ : ∃ B, 2 * ((c : Int) + 1) + 3 = B := ⟨_, rfl⟩
  obtain ⟨D, ed⟩ : ∃ D, 6151 * ((c : Int) + 1) = D := ⟨_, rfl⟩
  obtain ⟨F, ef⟩ : ∃ F, (c : Int) + 1 = F := ⟨_, rfl⟩
  rw [ea, eb, ed, ef]
  have p1 : A * B ≤ 4611686018427387904 * 2097152 := Int.mul_le_mul (by omega) (by omega) (by omega) (by decide)
  have p0 : 0 ≤ A * B := Int.mul_nonneg (by omega) (by omega)
  have p2 : D * F ≤ 4611686018427387904 * 2097152 := Int.mul_le_mul (by omega) (by omega) (by omega) (by decide)
  have p3 : 0 ≤ D * F := Int.mul_nonneg (by omega) (by omega)
  have t : (A * B + D * F).natAbs < 2 ^ 100 := by
    generalize A * B = X at *
    generalize D * F = Y at *
    omega
  have := bits_le t
  exact ⟨by decide, by omega⟩
def primes7 : List Int := [2147483647, 2147483629, 2147483587, 2147483579, 2147483563, 2147483549, 2147483543]
theorem prime7 {k : Int} (h0 : 0 ≤ k) (h1 : k < 7) : ∃ v : Int, atI (primes7.map V.int) k = some (.int v) ∧ 2147483543 ≤ v ∧ v ≤ 2147483647 := by
  rcases (by omega : k = 0 ∨ k = 1 ∨ k = 2 ∨ k = 3 ∨ k = 4 ∨ k = 5 ∨ k = 6) with rfl | rfl | rfl | rfl | rfl | rfl | rfl <;> exact ⟨_, rfl, by decide, by decide⟩
def spDraw : Sp := fun vs H Q _ => ∃ (a : Addr) (n : Int) (u : Nat), vs = [.ref a, .int n] ∧ SrcB u H a ∧ u < 1000000 ∧ 0 < n ∧ n < 1000000000000 ∧ ∀ (d : Int) H', 0 ≤ d → d < n → SrcB (u + 1) H' a → But a H H' → Q (.int d) H'
theorem sp_draw {a : Addr} {n : Int} {u : Nat} {H : Hp} {Q : VK} {E : XK} (h : SrcB u H a) (hu : u < 1000000) (h0 : 0 < n) (h1 : n < 1000000000000) (k : ∀ (d : Int) H', 0 ≤ d → d < n → SrcB (u + 1) H' a → But a H H' → Q (.int d) H') : spDraw ([.ref a, .int n] ++ []) H Q E := ⟨a, n, u, rfl, h, hu, h0, h1, k⟩
section
variable {P : Program} {w : World} {K : PySem.W.Frag} {mg : Str → Option Value} {base : Heap}
theorem ok_draw {f : Addr} {fd : FuncData} {k : Nat} (F : Fun K "_law_draw" "_law_draw" s__law_draw f fd) (mi : mg "int" = none) : FnOk P w K mg base CX0 (k + 2) f fd ["_law_source_here", "_law_many"] spDraw := by
  refine F.ok sc__law_draw (fun vs H Q E h => ?_) (fun cdv A outer s H vs Q E hr h => ?_)
  · obtain ⟨a, n, u, rfl, _⟩ := h
    rfl
  · obtain ⟨a, n, u, rfl, ⟨l, m, c, ha, hl0, hm0, hm1, hcu⟩, hu9, hn0, hn1, q⟩ := h
    have hu := hu_of hr
    have nd := sc__law_draw.nd
    refine ⟨_, (pss_cons (ps_if (pt_cmpR op_gt (pe_ix (ix_listK K) (pv 0) pe_int (fun _ _ => rfl)) pe_int (nomark _))
        (pss_cons (ps_set (i := 2) nd rfl (Or.inl rfl) (pe_op op_mod (pe_callTy call_rInt1 (by rfl) (by assumption) (by decide +kernel) (pa_cons (pe_ix (ix_listK K) (pv 0) pe_int (fun _ _ => rfl)) pa_nil)) (pv 1)))
      (pss_cons (ps_asg (pe_op op_fdivW (pe_ix (ix_listK K) (pv 0) pe_int (fun _ _ => rfl)) (pv 1)) (pg_sub (pv 0) pe_int set_list))
      (pss_one (ps_ret (pv 2)))))
        pss_nil)
      (pss_cons (ps_set (i := 3) nd rfl (Or.inl rfl) (pe_tup (pa_cons pe_int (pa_cons pe_int (pa_cons pe_int (pa_cons pe_int (pa_cons pe_int (pa_cons pe_int (pa_cons pe_int pa_nil)))))))))
      (pss_cons (ps_asg (pe_op op_add (pe_ix (ix_listK K) (pv 0) pe_int (fun _ _ => rfl)) pe_int) (pg_sub (pv 0) pe_int set_list))
      (pss_cons (ps_set (i := 4) nd rfl (Or.inl rfl) (pe_ix (ix_listK K) (pv 0) pe_int (fun _ _ => rfl)))
      (pss_cons (ps_set (i := 5) nd rfl (Or.inl rfl) (pe_op op_add (pe_op op_mul (pe_op op_add (pe_ix (ix_listK K) (pv 0) pe_int (fun _ _ => rfl)) (pe_op op_mul pe_int (pv 4))) (pe_op op_add (pe_op op_mul pe_int (pv 4)) pe_int)) (pe_op op_mul (pe_op op_mul pe_int (pv 4)) (pv 4))))
      (pss_cons (ps_set (i := 6) nd rfl (Or.inl rfl) (pe_op op_mod (pe_callTy call_rInt1 (by rfl) (by assumption) (by decide +kernel) (pa_cons (pe_op op_powW (pv 5) pe_int) pa_nil)) (pe_ix (ix_tupK K) (pv 3) (pe_op op_mod (pe_callTy call_rInt1 (by rfl) (by assumption) (by decide +kernel) (pa_cons (pv 4) pa_nil)) pe_int) (fun _ _ => rfl))))
      (pss_cons (ps_set (i := 6) nd rfl (Or.inl rfl) (pe_op op_mod (pe_callTy call_rInt1 (by rfl) (by assumption) (by decide +kernel) (pa_cons (pe_op op_mul (pv 6) (pe_op op_add (pe_op op_add (pe_op op_fdivW (pv 6) pe_int) (pe_op op_mul pe_int (pv 4))) pe_int)) pa_nil)) (pe_ix (ix_tupK K) (pv 3) (pe_op op_mod (pe_callTy call_rInt1 (by rfl) (by assumption) (by decide +kernel) (pa_cons (pe_op op_add (pv 4) pe_int) pa_nil)) pe_int) (fun _ _ => rfl))))
      (pss_one (ps_ret (pe_op op_mod (pe_callTy call_rInt1 (by rfl) (by assumption) (by decide +kernel) (pa_cons (pe_op op_fdivW (pv 6) pe_int) pa_nil)) (pv 1))))))))))), ?_⟩
    walk_at "rd"
    refine r_iteD (fun h0 => ?_) (fun h0 => ?_)
    · walk_at "rd"
      refine q _ _ (Int.emod_nonneg _ (by omega)) (Int.emod_lt_of_pos _ hn0) ⟨l / n, m, c, upd_same, Int.ediv_nonneg hl0 (by omega), hm0, hm1, by omega⟩ (fun b o nb e => by rw [upd_ne nb]; exact e)
    · walk_at "rd"
      rename_i p hp
      have npa : p ≠ a := fun e => by rw [e, ha] at hp; cases hp
      have hb := base_ok hm0 hm1 (by omega : c ≤ 1000000)
      generalize (m + 50021 * ((c : Int) + 1)) * (2 * ((c : Int) + 1) + 3) + 6151 * ((c : Int) + 1) * ((c : Int) + 1) = X at hb ⊢
      refine r_I hb ?_
      walk_at "rd"
      obtain ⟨v, hv, v1, v2⟩ := prime7 (k := ((c : Int) + 1) % 7) (Int.emod_nonneg _ (by decide)) (Int.emod_lt_of_pos _ (by decide))
      refine r_ixT (SqT.of (by rw [upd_ne npa, upd_same]; rfl)) hv ?_
      walk_at "rd"
      have y0 : 0 ≤ X ^ Int.toNat 3 % v := Int.emod_nonneg _ (by omega)
      have y1 : X ^ Int.toNat 3 % v < v := Int.emod_lt_of_pos _ (by omega)
      generalize X ^ Int.toNat 3 % v = Y at y0 y1 ⊢
      refine r_I (.inl ⟨by omega, by omega⟩) ?_
      walk_at "rd"
      obtain ⟨v', hv', v1', v2'⟩ := prime7 (k := ((c : Int) + 1 + 2) % 7) (Int.emod_nonneg _ (by decide)) (Int.emod_lt_of_pos _ (by decide))
      refine r_ixT (SqT.of (by rw [upd_ne npa, upd_same]; rfl)) hv' ?_
      walk_at "rd"
      have e1 : ((c : Int) + 1) = ((c + 1 : Nat) : Int) := by push_cast; rfl
      refine q _ _ (Int.emod_nonneg _ (by omega)) (Int.emod_lt_of_pos _ hn0) ⟨l, m, c + 1, by rw [upd_same]; rfl, hl0, hm0, hm1, by omega⟩ (fun b o nb e => by rw [upd_ne nb, upd_ne (fun g => by rw [g, hp] at e; cases e)]; exact e)
/-! ### the program's defs -/
def spIsI : Sp := fun vs H Q _ => ∃ i : Int, vs = [.int i] ∧ Q (.bl true) H
theorem sp_isI {i : Int} {H : Hp} {Q : VK} {E : XK} (k : Q (.bl true) H) : spIsI ([.int i] ++ []) H Q E := ⟨i, rfl, k⟩
theorem ok_isI {f : Addr} {fd : FuncData} {k : Nat} (F : Fun K "is_integer" "is_integer" s_is_integer f fd) (m1 : mg "isinstance" = none) (m2 : mg "bool" = none) (m3 : mg "int" = none) : FnOk P w K mg base CX0 (k + 1) f fd ["thing"] spIsI := by
  refine F.ok sc_is_integer (fun vs H Q E h => ?_) (fun cdv A outer s H vs Q E hr h => ?_)
  · obtain ⟨i, rfl, _⟩ := h
    rfl
  · obtain ⟨i, rfl, q⟩ := h
    have hu := hu_of hr
    have nd := sc_is_integer.nd
    refine ⟨_, (pss_one (ps_ret (pe_and (pe_callB (call_isiK1 K) (by rfl) (by assumption) (by decide +kernel) (pa_cons (pv 0) (pa_cons (pe_bltn (v := .ty "int") (by rfl) (by assumption) (by decide +kernel) rfl) pa_nil))) (pe_one (pe_not (pe_callB (call_isiK1 K) (by rfl) (by assumption) (by decide +kernel) (pa_cons (pv 0) (pa_cons (pe_bltn (v := .ty "bool") (by rfl) (by assumption) (by decide +kernel) rfl) pa_nil)))))))), ?_⟩
    walk_at "rd"
    exact q
def spWithin : Sp := fun vs H Q _ => ∃ (i lo hi : Int), vs = [.int i, .int lo, .int hi] ∧ Q (.bl (decide (lo ≤ i) && decide (i ≤ hi))) H
theorem ok_within {f : Addr} {fd : FuncData} {k : Nat} (F : Fun K "is_integer_within" "is_integer_within" s_is_integer_within f fd) (c_isI : CalT P w K mg base 1 "is_integer" spIsI) : FnOk P w K mg base CX0 (k + 2) f fd ["thing", "least", "most"] spWithin := by
  refine F.ok sc_is_integer_within (fun vs H Q E h => ?_) (fun cdv A outer s H vs Q E hr h => ?_)
  · obtain ⟨i, lo, hi, rfl, _⟩ := h
    rfl
  · obtain ⟨i, lo, hi, rfl, q⟩ := h
    have hu := hu_of hr
    have nd := sc_is_integer_within.nd
    refine ⟨_, (pss_one (ps_ret (pe_and (pe_cc c_isI hr (by omega) (by rfl) (pa_cons (pv 0) pa_nil)) (pe_one (pe_chain op_le op_le (pv 1) (pv 0) (pv 2)))))), ?_⟩
    walk_at "rd"
    refine sp_isI ?_
    walk_at "rd"
    refine r_iteD (fun h1 => ?_) (fun h1 => ?_)
    · walk_at "rd"
      rw [decide_eq_true h1, Bool.true_and] at q
      exact q
    · walk_at "rd"
      rw [decide_eq_false h1, Bool.false_and] at q
      exact q
theorem sp_within {i lo hi : Int} {H : Hp} {Q : VK} {E : XK} (k : Q (.bl (decide (lo ≤ i) && decide (i ≤ hi))) H) : spWithin ([.int i, .int lo, .int hi] ++ []) H Q E := ⟨i, lo, hi, rfl, k⟩
end
section
variable {P : Program} {w : World} {K : PySem.W.Frag} {mg : Str → Option Value} {base : Heap}
def inByte (i : Int) : Bool := decide (0 ≤ i) && decide (i ≤ 255)
def spRow : Sp := fun vs H Q _ => ∃ (a : Addr) (ns : List Int), vs = [.ref a] ∧ H a = some (.lst (ns.map V.int)) ∧ ns.length ≤ 70000 ∧ ∀ H', Same H H' → Q (.bl (ns.all inByte)) H'
theorem ok_row {f : Addr} {fd : FuncData} {k : Nat} (F : Fun K "is_row_of_bytes" "is_row_of_bytes" s_is_row_of_bytes f fd) (c_within : CalT P w K mg base 2 "is_integer_within" spWithin)
    (m1 : mg "isinstance" = none) (m2 : mg "list" = none) (m3 : mg "tuple" = none) (m4 : mg "all" = none) : FnOk P w K mg base CX0 (k + 3) f fd ["thing"] spRow := by
  refine F.ok sc_is_row_of_bytes (fun vs H Q E h => ?_) (fun cdv A outer s H vs Q E hr h => ?_)
  · obtain ⟨a, ns, rfl, _⟩ := h
    rfl
  · obtain ⟨a, ns, rfl, ha, hz, q⟩ := h
    have hu := hu_of hr
    have nd := sc_is_row_of_bytes.nd
    refine ⟨_, (pss_cons (ps_if (pt_not (pt_val (pe_callB (call_isiK2 K) (by rfl) (by assumption) (by decide +kernel) (pa_cons (pv 0) (pa_cons (pe_tup (pa_cons (pe_bltn (v := .ty "list") (by rfl) (by assumption) (by decide +kernel) rfl) (pa_cons (pe_bltn (v := .ty "tuple") (by rfl) (by assumption) (by decide +kernel) rfl) pa_nil))) pa_nil)))))
        (pss_one (ps_ret pe_bl))
        pss_nil)
      (pss_one (ps_ret (pe_callB (call_allK K) (by rfl) (by assumption) (by decide +kernel) (pa_cons (pe_lc (own := [("number", 1)]) (g := (gName 1)) (tt := tYes) rfl nd (pi_list (pv 0)) (blkOk_by (N := N_is_row_of_bytes) (sc := defScope s_is_row_of_bytes) (by decide +kernel)) (fun _ _ _ _ _ => (pg_name (i := 1) nd rfl (Or.inl rfl))) (fun _ _ _ _ _ => pts_nil) (fun _ _ _ _ _ => (pe_cc c_within hr (by omega) (by rfl) (pa_cons (pv 1) (pa_cons pe_int (pa_cons pe_int pa_nil)))))) pa_nil))))), ?_⟩
    walk_at "rd"
    intro D hD
    refine lc_map (cs := ns) (enc := V.int) (f := fun i => V.bl (inByte i)) walk_list hD (Nat.lt_of_le_of_lt hz (by decide)) (fun H' e => SqL.of (e _ _ (by walk_at "lk"))) (fun x => rfl) ?_ ?_
    · intro c hc H' e Q' k'
      walk_at "rd"
      exact sp_within (k' _ (Same.refl _))
    · intro H' e hl
      walk_at "rd"
      refine r_all (bs := ns.map inByte) (by rw [List.map_map]; exact SqL.of hl) ?_
      have e2 : (ns.map inByte).all id = ns.all inByte := by rw [List.all_map]; rfl
      rw [e2]
      exact q H' (fun b o x => e b o (by walk_at "lk"))
theorem sp_row {a : Addr} {ns : List Int} {H : Hp} {Q : VK} {E : XK} (ha : H a = some (.lst (ns.map V.int))) (hz : ns.length ≤ 70000) (k : ∀ H', Same H H' → Q (.bl (ns.all inByte)) H') : spRow ([.ref a] ++ []) H Q E := ⟨a, ns, rfl, ha, hz, k⟩
def spBlob : Sp := fun vs H Q _ => ∃ (a : Addr) (ns : List Int), vs = [.ref a] ∧ H a = some (.lst (ns.map V.int)) ∧ ns.length ≤ 70000 ∧ ns.all inByte = true ∧ ∀ H', Same H H' → Q (.byt (byteArr ns)) H'
theorem sp_blob {a : Addr} {ns : List Int} {H : Hp} {Q : VK} {E : XK} (ha : H a = some (.lst (ns.map V.int))) (hz : ns.length ≤ 70000) (hb : ns.all inByte = true) (k : ∀ H', Same H H' → Q (.byt (byteArr ns)) H') : spBlob ([.ref a] ++ []) H Q E := ⟨a, ns, rfl, ha, hz, hb, k⟩
theorem ok_blob {f : Addr} {fd : FuncData} {k : Nat} (F : Fun K "blob" "blob" s_blob f fd) (c_row : CalT P w K mg base 3 "is_row_of_bytes" spRow) (m1 : mg "bytes" = none) : FnOk P w K mg base CX0 (k + 4) f fd ["numbers"] spBlob := by
  refine F.ok sc_blob (fun vs H Q E h => ?_) (fun cdv A outer s H vs Q E hr h => ?_)
  · obtain ⟨a, ns, rfl, _⟩ := h
    rfl
  · obtain ⟨a, ns, rfl, ha, hz, hb, q⟩ := h
    have hu := hu_of hr
    have nd := sc_blob.nd
    refine ⟨_, (pss_cons (ps_if (pt_not (pt_val (pe_cc c_row hr (by omega) (by rfl) (pa_cons (pv 0) pa_nil))))
        (pss_one ps_never)
        pss_nil)
      (pss_one (ps_ret (pe_bytesOf rfl (by rfl) (by assumption) (pv 0))))), ?_⟩
    walk_at "rd"
    refine sp_row ha hz (fun H' e => ?_)
    rw [hb]
    walk_at "rd"
    refine r_bytesL (SqL.of (e _ _ ha)) (fun n hn => ?_) (q H' e)
    have h1 := List.all_eq_true.mp hb n hn
    unfold inByte at h1
    simp only [Bool.and_eq_true, decide_eq_true_eq] at h1
    omega
/-! ### names -/
def NC : Str := "abcdefghijklmnopqrstuvwxyz0123456789._-/"
def nameB (z : Str) : Bool := decide (1 ≤ z.length) && decide (z.length ≤ 250) && z.cps.toList.all (fun c => decide (c ∈ NC.cps.toList))
def nameV : V → Bool
  | .str z => nameB z
  | _ => false
/-- a text of up to 5000 signs, or a value of another kind -/
def AnyS (K : PySem.W.Frag) (H : Hp) (x : V) : Prop := (∃ z : Str, x = .str z ∧ z.length ≤ 5000) ∨ (nameV x = false ∧ ∃ T, TyX K H x (.type T) ∧ kitB T "str" = some false)
theorem AnyS.same {H H' : Hp} {x : V} (e : Same H H') (h : AnyS K H x) : AnyS K H' x := by
  rcases h with h | ⟨h, T, h1, h2⟩
  · exact .inl h
  · exact .inr ⟨h, T, same_tyB e h1, h2⟩
def spName (K : PySem.W.Frag) : Sp := fun vs H Q _ => ∃ x, vs = [x] ∧ AnyS K H x ∧ ∀ H', Same H H' → Q (.bl (nameV x)) H'
theorem sp_name {x : V} {H : Hp} {Q : VK} {E : XK} (ha : AnyS K H x) (k : ∀ H', Same H H' → Q (.bl (nameV x)) H') : spName K ([x] ++ []) H Q E := ⟨x, rfl, ha, k⟩
theorem ok_name {f : Addr} {fd : FuncData} {k : Nat} {t1 t2 : Tok} (F : Fun K "is_name" "is_name" s_is_name f fd) (m1 : mg "isinstance" = none) (m2 : mg "str" = none) (m3 : mg "len" = none) (m4 : mg "all" = none)
    (m_MOST : mg "MOST_CHARACTERS" = some (.int 250 t1)) (m_NC : mg "NAME_CHARACTERS" = some (.str NC t2)) : FnOk P w K mg base CX0 (k + 2) f fd ["thing"] (spName K) := by
  refine F.ok sc_is_name (fun vs H Q E h => ?_) (fun cdv A outer s H vs Q E hr h => ?_)
  · obtain ⟨x, rfl, _⟩ := h
    rfl
  · obtain ⟨x, rfl, hx, q⟩ := h
    have hu := hu_of hr
    have nd := sc_is_name.nd
    refine ⟨_, (pss_cons (ps_if (PW.pt (pw_or (pt_not (pt_val (pe_callB (call_isiK1 K) (by rfl) (by assumption) (by decide +kernel) (pa_cons (pv 0) (pa_cons (pe_bltn (v := .ty "str") (by rfl) (by assumption) (by decide +kernel) rfl) pa_nil))))) (pw_or1 (pt_not (pt_chain op_le op_le pe_int (pe_callB call_rLenZ (by rfl) (by assumption) (by decide +kernel) (pa_cons (pv 0) pa_nil)) (pe_glob (v := .int 250) (by rfl) m_MOST (by first | exact rfl | exact ⟨_, rfl⟩)))))))
        (pss_one (ps_ret pe_bl))
        pss_nil)
      (pss_one (ps_ret (pe_callB (call_allK K) (by rfl) (by assumption) (by decide +kernel) (pa_cons (pe_lc (own := [("character", 1)]) (g := (gName 1)) (tt := tYes) rfl nd (pi_str (pv 0)) (blkOk_by (N := N_is_name) (sc := defScope s_is_name) (by decide +kernel)) (fun _ _ _ _ _ => (pg_name (i := 1) nd rfl (Or.inl rfl))) (fun _ _ _ _ _ => pts_nil) (fun _ _ _ _ _ => (pe_cmpR op_inSign (pv 1) (pe_glob (v := .str NC) (by rfl) m_NC (by first | exact rfl | exact ⟨_, rfl⟩)) (by rfl)))) pa_nil))))), ?_⟩
    rcases hx with ⟨z, rfl, hz⟩ | ⟨hx, T, h1, h2⟩
    · have hz' : z.length ≤ sizeLine := Nat.le_trans hz (by decide)
      have q' : ∀ H', Same H H' → Q (.bl (nameB z)) H' := q
      unfold nameB at q'
      walk_at "rd"
      refine r_iteD (fun h1 => ?_) (fun h1 => ?_)
      · walk_at "rd"
        refine r_iteN (fun h2 => ?_) (fun h2 => ?_)
        · walk_at "rd"
          have h3 : ¬ z.length ≤ 250 := by have := of_decide_eq_false h2; omega
          rw [decide_eq_false h3, Bool.and_false, Bool.false_and] at q'
          exact q' _ (Same.refl _)
        · walk_at "rd"
          intro D hD
          refine lc_map (cs := z.cps.toList) (enc := fun c => V.str ⟨#[c]⟩) (f := fun c => V.bl (decide (c ∈ NC.cps.toList))) walk_strC hD (by have : z.cps.size ≤ 5000 := hz; rw [Array.length_toList]; exact Nat.lt_of_le_of_lt this (by decide)) (fun H' e => True.intro) (fun x => rfl) ?_ ?_
          · intro c hc H' e Q' k'
            walk_at "rd"
            exact k' _ (Same.refl _)
          · intro H' e hl
            walk_at "rd"
            refine r_all (bs := z.cps.toList.map fun c => decide (c ∈ NC.cps.toList)) (by rw [List.map_map]; exact SqL.of hl) ?_
            have h3 : z.length ≤ 250 := by have := of_decide_eq_true h2; omega
            have h1' : 1 ≤ z.length := by omega
            rw [decide_eq_true h3, decide_eq_true h1', Bool.true_and, Bool.true_and] at q'
            have e2 : (z.cps.toList.map fun c => decide (c ∈ NC.cps.toList)).all id = z.cps.toList.all fun c => decide (c ∈ NC.cps.toList) := by rw [List.all_map]; rfl
            rw [e2]
            exact q' H' e
      · walk_at "rd"
        have h3 : ¬ 1 ≤ z.length := by omega
        rw [decide_eq_false h3, Bool.false_and, Bool.false_and] at q'
        exact q' _ (Same.refl _)
    · walk_at "rd"
      rw [hx] at q
      exact q _ (Same.refl _)
end
section
variable {P : Program} {w : World} {K : PySem.W.Frag} {mg : Str → Option Value} {base : Heap}
def spSource (K : PySem.W.Frag) : Sp := fun vs H Q _ => ∃ (a : Addr) (ns : List Int) (i : Nat), vs = [.ref a, .int (i : Int)] ∧ SqL K H a (ns.map V.int) ∧ ns.length ≤ 63 ∧ i ≤ 63 ∧ ∀ p H', H p = none → Same H H' → SrcB 0 H' p → Q (.ref p) H'
theorem sp_source {a : Addr} {ns : List Int} {i : Nat} {H : Hp} {Q : VK} {E : XK} (hs : SqL K H a (ns.map V.int)) (hz : ns.length ≤ 63) (hi : i ≤ 63) (k : ∀ p H', H p = none → Same H H' → SrcB 0 H' p → Q (.ref p) H') : spSource K ([.ref a, .int (i : Int)] ++ []) H Q E := ⟨a, ns, i, rfl, hs, hz, hi, k⟩
theorem ints_at {ns : List Int} {i : Nat} (h : i < ns.length) : (ns.map V.int)[i]? = some (.int ns[i]) := by rw [List.getElem?_map, List.getElem?_eq_getElem h]; rfl
theorem ok_source {f : Addr} {fd : FuncData} {k : Nat} (F : Fun K "_law_source" "_law_source" s__law_source f fd) (m1 : mg "len" = none) (m2 : mg "int" = none) (m3 : mg "abs" = none) :
    FnOk P w K mg base CX0 (k + 2) f fd ["_law_script", "_law_at"] (spSource K) := by
  refine F.ok sc__law_source (fun vs H Q E h => ?_) (fun cdv A outer s H vs Q E hr h => ?_)
  · obtain ⟨a, ns, i, rfl, _⟩ := h
    rfl
  · obtain ⟨a, ns, i, rfl, hS, hz, hi, q⟩ := h
    have hu := hu_of hr
    have nd := sc__law_source.nd
    have hml : (ns.map V.int).length = ns.length := List.length_map ..
    refine ⟨_, (pss_cons (ps_set (i := 2) nd rfl (Or.inl rfl) (pe_ifExp (pt_cmpR op_lt (pv 1) (pe_callB (call_lenK K) (by rfl) (by assumption) (by decide +kernel) (pa_cons (pv 0) pa_nil)) (nomark _)) (pe_ix (ix_listK K) (pv 0) (pv 1) (fun _ _ => rfl)) pe_int))
      (pss_cons (ps_set (i := 3) nd rfl (Or.inl rfl) (pe_ifExp (pt_cmpR op_ge (pe_callB call_rAbs (by rfl) (by assumption) (by decide +kernel) (pa_cons (pv 2) pa_nil)) (pe_op op_pow pe_int pe_int) (nomark _)) (pe_callB call_rAbs (by rfl) (by assumption) (by decide +kernel) (pa_cons (pv 2) pa_nil)) pe_int))
      (pss_cons (ps_set (i := 4) nd rfl (Or.inl rfl) (pe_op op_add (pe_op op_add (pe_op op_add (pe_op op_mod (pe_callTy call_rInt1 (by rfl) (by assumption) (by decide +kernel) (pa_cons (pv 2) pa_nil)) pe_int) (pe_op op_mul (pe_op op_mul pe_int (pv 1)) (pv 1))) (pe_op op_mul pe_int (pv 1))) pe_int))
      (pss_one (ps_ret (pe_lst (pa_cons (pv 3) (pa_cons (pe_op op_mod (pe_callTy call_rInt1 (by rfl) (by assumption) (by decide +kernel) (pa_cons (pv 4) pa_nil)) pe_int) (pa_cons pe_int pa_nil))))))))), ?_⟩
    walk_at "rd"
    refine r_joinI (fun _ => True) (fun cell _ => ?_) (fun Q' k h1 => ?_) (fun Q' k h1 => ?_)
    · walk_at "rd"
      refine r_joinI (fun large => 0 ≤ large) (fun large hl => ?_) (fun Q' k h1 => ?_) (fun Q' k h1 => ?_)
      · walk_at "rd"
        rename_i p hp
        exact q p _ hp (same_new hp) ⟨large, _, 0, upd_same, hl, Int.emod_nonneg _ (by decide), Int.emod_lt_of_pos _ (by decide), Nat.le_refl _⟩
      · walk_at "rd"
        exact k _ (by omega)
      · walk_at "rd"
        exact k _ (by decide)
    · have hi' : i < ns.length := by omega
      walk_at "rd"
      refine r_ixL hS (atI_nat (ints_at hi')) ?_
      exact k _ True.intro
    · walk_at "rd"
      exact k _ True.intro
end
theorem But.refl (a : Addr) (H : Hp) : But a H H := fun _ _ _ e => e
theorem But.trans {a : Addr} {H H1 H2 : Hp} (x : But a H H1) (y : But a H1 H2) : But a H H2 := fun b o n e => y b o n (x b o n e)
theorem But.new {a p : Addr} {H H' : Hp} {o : HO} (hp : H p = none) (y : But a (upd H p o) H') : But a H H' := fun b u n e => y b u n (upd_old hp e)
theorem Same.but {a : Addr} {H H' : Hp} (e : Same H H') : But a H H' := fun b o _ h => e b o h
theorem Src.same {H H' : Hp} {a : Addr} (e : Same H H') (h : Src H a) : Src H' a := by
  obtain ⟨l, m, c, h1, h2⟩ := h
  exact ⟨l, m, c, e _ _ h1, h2⟩
theorem SrcB.same {n : Nat} {H H' : Hp} {a : Addr} (e : Same H H') (h : SrcB n H a) : SrcB n H' a := by
  obtain ⟨l, m, c, h1, h2⟩ := h
  exact ⟨l, m, c, e _ _ h1, h2⟩
theorem SrcB.new {n : Nat} {H : Hp} {a p : Addr} {o : HO} (hp : H p = none) (h : SrcB n H a) : SrcB n (upd H p o) a := h.same (same_new hp)
theorem SrcB.ne {n : Nat} {H : Hp} {a p : Addr} (h : SrcB n H a) (hp : H p = none) : p ≠ a := by
  obtain ⟨l, m, c, h1, h2⟩ := h
  exact (ne_of_none h1 hp).symm
theorem Src.new {H : Hp} {a p : Addr} {o : HO} (hp : H p = none) (h : Src H a) : Src (upd H p o) a := h.same (same_new hp)
theorem Src.ne {H : Hp} {a p : Addr} (h : Src H a) (hp : H p = none) : p ≠ a := by
  obtain ⟨l, m, c, h1, h2⟩ := h
  exact (ne_of_none h1 hp).symm
theorem pick_at {xs : List V} {d : Int} (h0 : 0 ≤ d) (h1 : d < (xs.length : Int)) : ∃ v, v ∈ xs ∧ atI xs d = some v := by
  have hd : d.toNat < xs.length := by omega
  refine ⟨xs[d.toNat], List.getElem_mem hd, ?_⟩
  have e : d = (d.toNat : Int) := by omega
  have h := atI_nat (List.getElem?_eq_getElem hd)
  rw [← e] at h
  exact h
section
variable {K : PySem.W.Frag} {σ : L2.St} {H : Hp} {Q : VK}
/-- one of a written list, drawn -/
theorem r_pick {a : Addr} {i : Nat} {n : Int} {u : Nat} {ta : TA} (P : V → Prop) (hi : σ[i]? = some (some (.ref a))) (h0 : 0 < n) (h1 : n < 1000000) (hu : u < 1000000)
    (hta : ∀ Q' : List V → Hp → Prop, (∀ xs H1, (xs.length : Int) = n → (∀ v ∈ xs, P v) → SrcB u H1 a → But a H H1 → Q' xs H1) → ta σ H Q') (k : ∀ v H', P v → SrcB (u + 1) H' a → But a H H' → Q v H') :
    tOp (rIxL K) (tLst ta) (tCall spDraw [] E0 (tCons (tVar i) (tCons (tC (.int n)) tNil))) σ H Q := by
  refine r_op (r_lst (hta _ fun xs H1 hl hp hs hb => ?_))
  refine ⟨Nat.le_trans (by omega : xs.length ≤ 1000000) (by decide), fun p hp0 => ?_⟩
  refine r_call (r_cons (r_var hi (r_cons (r_c (r_nil ?_)))))
  refine sp_draw (hs.new hp0) hu h0 (by omega) (fun d H' d0 d1 hs' hb' => ?_)
  obtain ⟨v, hv, e⟩ := pick_at (xs := xs) d0 (by omega)
  exact r_ixL (SqL.of (hb' p _ (hs.src.ne hp0) upd_same)) e (k v H' (hp v hv) hs' (hb.trans (hb'.new hp0)))
end
def intIn (lo hi : Int) (v : V) : Prop := ∃ i : Int, v = .int i ∧ lo ≤ i ∧ i ≤ hi
def intB (lo hi : Int) : V → Bool
  | .int i => decide (lo ≤ i) && decide (i ≤ hi)
  | _ => false
theorem int_all {lo hi : Int} {xs : List V} (h : xs.all (intB lo hi) = true) : ∀ v ∈ xs, intIn lo hi v := fun v hv => by
  have h1 := List.all_eq_true.mp h v hv
  cases v with
  | int i =>
    have h2 : (decide (lo ≤ i) && decide (i ≤ hi)) = true := h1
    simp only [Bool.and_eq_true, decide_eq_true_eq] at h2
    exact ⟨i, rfl, h2.1, h2.2⟩
  | _ => cases h1
theorem len_add (x y : Str) : (x ++ y).length = x.length + y.length := by
  rw [← SX.S_tl x, ← SX.S_tl y, SX.S_cat, SX.S_len, SX.S_len, SX.S_len, List.length_append]
/-! ### the signs of names -/
def charsB (z : Str) : Bool := z.cps.toList.all fun c => decide (c ∈ NC.cps.toList)
theorem charsB_add {x y : Str} (hx : charsB x = true) (hy : charsB y = true) : charsB (x ++ y) = true := by
  unfold charsB at *
  have e : (x ++ y).cps.toList = x.cps.toList ++ y.cps.toList := TL.tl_append x y
  rw [e, List.all_append, hx, hy]
  rfl
theorem name_of {z : Str} (h1 : 1 ≤ z.length) (h2 : z.length ≤ 250) (hc : charsB z = true) : nameB z = true := by
  unfold nameB
  unfold charsB at hc
  rw [decide_eq_true h1, decide_eq_true h2, hc]
  rfl
theorem of_name {z : Str} (h : nameB z = true) : 1 ≤ z.length ∧ z.length ≤ 250 ∧ charsB z = true := by
  unfold nameB at h
  simp only [Bool.and_eq_true, decide_eq_true_eq] at h
  exact ⟨h.1.1, h.1.2, h.2⟩
def nmS (m : Nat) (v : V) : Prop := ∃ z : Str, v = .str z ∧ 1 ≤ z.length ∧ z.length ≤ m ∧ charsB z = true
def nmB (m : Nat) : V → Bool
  | .str z => decide (1 ≤ z.length) && decide (z.length ≤ m) && charsB z
  | _ => false
theorem nm_all {m : Nat} {xs : List V} (h : xs.all (nmB m) = true) : ∀ v ∈ xs, nmS m v := fun v hv => by
  have h1 := List.all_eq_true.mp h v hv
  cases v with
  | str z =>
    have h2 : (decide (1 ≤ z.length) && decide (z.length ≤ m) && charsB z) = true := h1
    simp only [Bool.and_eq_true, decide_eq_true_eq] at h2
    exact ⟨z, rfl, h2.1.1, h2.1.2, h2.2⟩
  | _ => cases h1
theorem inB {i : Int} (h0 : 0 ≤ i) (h1 : i < 256) : inByte i = true := by
  unfold inByte
  rw [decide_eq_true h0, decide_eq_true (by omega : i ≤ 255)]
  rfl
section
variable {P : Program} {w : World} {K : PySem.W.Frag} {mg : Str → Option Value} {base : Heap}
theorem But.back {a p : Addr} {H H' : Hp} (hs : Src H a) (hs' : Src H' a) (b : But a H H') (hp : H' p = none) : H p = none := by
  cases q : H p with
  | none => rfl
  | some o =>
    by_cases e : p = a
    · obtain ⟨l, m, c, h1, _⟩ := hs'
      rw [e, h1] at hp
      cases hp
    · rw [b p o e q] at hp
      cases hp
end
section
variable {P : Program} {w : World} {K : PySem.W.Frag} {mg : Str → Option Value} {base : Heap}
def spStamps : Sp := fun vs H Q _ => ∃ (a : Addr) (u : Nat), vs = [.ref a] ∧ SrcB u H a ∧ u ≤ 900000 ∧ ∀ p (b t : Int) H', H p = none → H' p = some (.tup [.int b, .int t]) → 0 ≤ b → b ≤ 4095 → 0 ≤ t → t ≤ 8589934591 → SrcB (u + 2) H' a → But a H H' → Q (.ref p) H'
theorem sp_stamps {a : Addr} {u : Nat} {H : Hp} {Q : VK} {E : XK} (h : SrcB u H a) (hu : u ≤ 900000) (k : ∀ p (b t : Int) H', H p = none → H' p = some (.tup [.int b, .int t]) → 0 ≤ b → b ≤ 4095 → 0 ≤ t → t ≤ 8589934591 → SrcB (u + 2) H' a → But a H H' → Q (.ref p) H') : spStamps ([.ref a] ++ []) H Q E := ⟨a, u, rfl, h, hu, k⟩
theorem ok_stamps {f : Addr} {fd : FuncData} {k : Nat} (F : Fun K "_law_stamps" "_law_stamps" s__law_stamps f fd) (c_draw : CalT P w K mg base 2 "_law_draw" spDraw) :
    FnOk P w K mg base CX0 (k + 3) f fd ["_law_source_here"] spStamps := by
  refine F.ok sc__law_stamps (fun vs H Q E h => ?_) (fun cdv A outer s H vs Q E hr h => ?_)
  · obtain ⟨a, u, rfl, _⟩ := h
    rfl
  · obtain ⟨a, u, rfl, hs, hu9, q⟩ := h
    have hu := hu_of hr
    have nd := sc__law_stamps.nd
    refine ⟨_, (pss_one (ps_ret (pe_tup (pa_cons (pe_ix (ix_listK K) (pe_lst (pa_cons pe_int (pa_cons pe_int (pa_cons pe_int (pa_cons pe_int pa_nil))))) (pe_cc c_draw hr (by omega) (by rfl) (pa_cons (pv 0) (pa_cons pe_int pa_nil))) (fun _ _ => rfl)) (pa_cons (pe_ix (ix_listK K) (pe_lst (pa_cons pe_int (pa_cons pe_int (pa_cons pe_int pa_nil)))) (pe_cc c_draw hr (by omega) (by rfl) (pa_cons (pv 0) (pa_cons pe_int pa_nil))) (fun _ _ => rfl)) pa_nil))))), ?_⟩
    walk_at "st"
    refine r_pick (u := u) (intIn 0 4095) rfl (by decide) (by decide) (by omega) (fun Q' h => ?_) ?_
    · walk_at "rd"
      exact h _ _ rfl (int_all (by decide +kernel)) hs (.refl _ _)
    · rintro v H2 ⟨b, rfl, z0, z1⟩ hs2 hb2
      walk_at "st"
      trace_state
      refine r_pick (u := u + 1) (intIn 0 8589934591) rfl (by decide) (by decide) (by omega) (fun Q' h => ?_) ?_
      · walk_at "rd"
        exact h _ _ rfl (int_all (by decide +kernel)) hs2 (.refl _ _)
      · rintro v H3 ⟨t, rfl, t0, t1⟩ hs3 hb3
        walk_at "rd"
        rename_i p hp
        have hb : But a H H3 := hb2.trans hb3
        exact q p b t _ (But.back hs.src hs3.src hb hp) upd_same z0 z1 t0 t1 (hs3.new hp) (hb.trans (Same.but (same_new hp)))
end
/-! ### spans: pairs of an offset and a length -/
def SpanL (H : Hp) (L : Addr) (sp : List (Int × Int)) : Prop := ∃ as : List Addr, H L = some (.lst (as.map V.ref)) ∧ Paired (fun q (s : Int × Int) => H q = some (.tup [.int s.1, .int s.2])) as sp
def spansOk (size : Int) : Int → List (Int × Int) → Prop
  | _, [] => True
  | e, (b, n) :: r => e ≤ b ∧ 1 ≤ n ∧ b + n ≤ size ∧ spansOk size (b + n + 1) r
theorem SpanL.same {H H' : Hp} {L : Addr} {sp : List (Int × Int)} (e : Same H H') (h : SpanL H L sp) : SpanL H' L sp := by
  obtain ⟨as, h1, h2⟩ := h
  exact ⟨as, e _ _ h1, Paired.mapP h2 fun q s z => e _ _ z⟩
theorem paired_snoc {α β : Type} {R : α → β → Prop} : ∀ {xs : List α} {ys : List β} {x : α} {y : β}, Paired R xs ys → R x y → Paired R (xs ++ [x]) (ys ++ [y])
  | _, _, _, _, .nil, h => .cons h .nil
  | _, _, _, _, .cons r t, h => .cons r (paired_snoc t h)
abbrev s__law_path : Stmt := topS 105
abbrev N__law_path : List Str := ["_law_source_here", "_law_parts", "_law_turn"]
theorem sc__law_path : FnScope N__law_path ["_law_source_here"] (defScope s__law_path) := ⟨rfl, rfl, rfl, by decide +kernel, rfl, by decide +kernel, by decide +kernel⟩
abbrev s__law_numbers : Stmt := topS 106
abbrev N__law_numbers : List Str := ["_law_source_here", "_law_many", "_law_turn"]
theorem sc__law_numbers : FnScope N__law_numbers ["_law_source_here"] (defScope s__law_numbers) := ⟨rfl, rfl, rfl, by decide +kernel, rfl, by decide +kernel, by decide +kernel⟩
abbrev s__law_names : Stmt := topS 116
abbrev N__law_names : List Str := ["_law_source_here"]
theorem sc__law_names : FnScope N__law_names ["_law_source_here"] (defScope s__law_names) := ⟨rfl, rfl, rfl, by decide +kernel, rfl, by decide +kernel, by decide +kernel⟩
abbrev s__law_pieces : Stmt := topS 108
abbrev N__law_pieces : List Str := ["_law_source_here", "_law_one", "_law_two", "_law_pieces_here", "_law_end"]
theorem sc__law_pieces : FnScope N__law_pieces ["_law_source_here"] (defScope s__law_pieces) := ⟨rfl, rfl, rfl, by decide +kernel, rfl, by decide +kernel, by decide +kernel⟩
/-! ### the draws of names and numbers -/
theorem glue_ok : ∀ (r : List Str) (acc : Str), charsB acc = true → (∀ z ∈ r, charsB z = true) → charsB ⟨List.foldl (fun a p => a ++ ("/" : Str).cps ++ p.cps) acc.cps r⟩ = true ∧ (⟨List.foldl (fun a p => a ++ ("/" : Str).cps ++ p.cps) acc.cps r⟩ : Str).length = acc.length + (r.map fun z => z.length + 1).sum
  | [], acc, h, _ => ⟨h, rfl⟩
  | z :: r, acc, h, hz => by
    have g := glue_ok r (acc ++ "/" ++ z) (charsB_add (charsB_add h (by decide +kernel)) (hz z List.mem_cons_self)) fun y hy => hz y (List.mem_cons_of_mem _ hy)
    have e1 := len_add (acc ++ "/") z
    have e2 := len_add acc "/"
    have e3 : Str.length "/" = 1 := by decide +kernel
    refine ⟨g.1, ?_⟩
    show (⟨List.foldl (fun a p => a ++ ("/" : Str).cps ++ p.cps) (acc ++ "/" ++ z).cps r⟩ : Str).length = _
    rw [g.2, List.map_cons, List.sum_cons]
    omega
theorem sum_lens {m : Nat} : ∀ {r : List Str}, (∀ z ∈ r, z.length ≤ m) → (r.map fun z => z.length + 1).sum ≤ (m + 1) * r.length
  | [], _ => Nat.le_refl 0
  | z :: r, h => by
    have h1 := h z List.mem_cons_self
    have h2 := sum_lens fun y hy => h y (List.mem_cons_of_mem z hy)
    rw [List.map_cons, List.sum_cons, List.length_cons, Nat.mul_succ]
    omega
/-- parts joined are a name -/
theorem join_name {z : Str} {r : List Str} (h : ∀ y ∈ z :: r, charsB y = true) (h1 : 1 ≤ z.length) (h2 : z.length + (r.map fun z => z.length + 1).sum ≤ 250) : nameB (Txt.join "/" (z :: r)) = true := by
  have g := glue_ok r z (h z List.mem_cons_self) fun y hy => h y (List.mem_cons_of_mem _ hy)
  have e : Txt.join "/" (z :: r) = ⟨List.foldl (fun a p => a ++ ("/" : Str).cps ++ p.cps) z.cps r⟩ := rfl
  rw [e]
  exact name_of (by omega) (by omega) g.1
def rJoinS (K : PySem.W.Frag) : V → List V → Hp → VK → Prop := fun x xs H Q => ∃ a p, ∃ ys : List Str, x = .str a ∧ xs = [.ref p] ∧ (SqL K H p (ys.map V.str) ∨ SqT K H p (ys.map V.str)) ∧ (ys.map (·.length)).sum + ys.length * a.length ≤ 16777216 ∧ Q (.str (Txt.join a ys)) H
theorem mt_joinK {X : Cx} (K : PySem.W.Frag) (h : X.K = K := by rfl) : MtR X "str.join" (rJoinS K) := h ▸ mt_join
section
variable {P : Program} {w : World} {K : PySem.W.Frag} {mg : Str → Option Value} {base : Heap}
theorem join_at {L : Addr} {z : Str} {r : List Str} {H : Hp} {Q : VK} (h : H L = some (.lst ((z :: r).map V.str))) (hc : ∀ y ∈ z :: r, charsB y = true) (h1 : 1 ≤ z.length) (h2 : z.length + (r.map fun z => z.length + 1).sum ≤ 250) (q : nameB (Txt.join "/" (z :: r)) = true → Q (.str (Txt.join "/" (z :: r))) H) : rJoinS K (.str "/") [.ref L] H Q := by
  refine ⟨"/", L, z :: r, rfl, rfl, .inl (SqL.of h), ?_, q (join_name hc h1 h2)⟩
  have e3 : Str.length "/" = 1 := by decide +kernel
  have e4 : ∀ l : List Str, (l.map fun z => z.length + 1).sum = (l.map (·.length)).sum + l.length := by
    intro l
    induction l with
    | nil => rfl
    | cons y l ih =>
      rw [List.map_cons, List.map_cons, List.sum_cons, List.sum_cons, List.length_cons, ih]
      omega
  have := e4 r
  rw [List.map_cons, List.sum_cons, e3, List.length_cons]
  omega
def spPath : Sp := fun vs H Q _ => ∃ (a : Addr) (u : Nat), vs = [.ref a] ∧ SrcB u H a ∧ u ≤ 900000 ∧ ∀ (z : Str) H', nameB z = true → SrcB (u + 5) H' a → But a H H' → Q (.str z) H'
theorem ok_path {f : Addr} {fd : FuncData} {k : Nat} (F : Fun K "_law_path" "_law_path" s__law_path f fd) (m1 : mg "range" = none) (c_draw : CalT P w K mg base 2 "_law_draw" spDraw) :
    FnOk P w K mg base CX0 (k + 3) f fd ["_law_source_here"] spPath := by
  refine F.ok sc__law_path (fun vs H Q E h => ?_) (fun cdv A outer s H vs Q E hr h => ?_)
  · obtain ⟨a, u, rfl, _⟩ := h
    rfl
  · obtain ⟨a, u, rfl, hs, hu9, q⟩ := h
    have hu := hu_of hr
    have nd := sc__law_path.nd
    refine ⟨_, (pss_cons (ps_setLc (i := 1) (own := [("_law_turn", 2)]) (g := (gName 2)) (tt := tYes) rfl nd rfl rfl (sw_true rfl rfl rfl (by decide +kernel)) (pi_range1 (by rfl) (by assumption) (pa_cons (pe_op op_add pe_int (pe_cc c_draw hr (by omega) (by rfl) (pa_cons (pv 0) (pa_cons pe_int pa_nil)))) pa_nil)) (blkOk_by (N := N__law_path) (sc := defScope s__law_path) (by decide +kernel)) (fun _ _ _ _ _ => (pg_name (i := 2) nd rfl (Or.inl rfl))) (fun _ _ _ _ _ => pts_nil) (fun _ _ _ _ _ => (pe_ix (ix_listK K) (pe_lst (pa_cons pe_str (pa_cons pe_str (pa_cons pe_str (pa_cons pe_str (pa_cons pe_str (pa_cons pe_str pa_nil))))))) (pe_cc c_draw hr (by omega) (by rfl) (pa_cons (pv 0) (pa_cons pe_int pa_nil))) (fun _ _ => rfl))))
      (pss_cons (ps_if (pt_cmpR op_eq (pe_cc c_draw hr (by omega) (by rfl) (pa_cons (pv 0) (pa_cons pe_int pa_nil))) pe_int (nomark _))
        (pss_one (ps_expr (pe_bm PySem.F.plainAttrs_list PySem.F.slot_list_append PySem.F.type_list_append mt_append (pv 1) (pa_cons (pe_op op_mulS pe_str pe_int) pa_nil))))
        pss_nil)
      (pss_one (ps_ret (pe_bm PySem.F.plainAttrs_str PySem.F.slot_str_join PySem.F.type_str_join (mt_joinK K) pe_str (pa_cons (pv 1) pa_nil)))))), ?_⟩
    walk_at "rd"
    refine sp_draw hs (by omega) (by decide) (by decide) fun d H1 d0 d1 hs1 hb1 => ?_
    obtain ⟨n, rfl⟩ := Int.eq_ofNat_of_zero_le d0
    walk_at "rd"
    intro L hL
    have nL : L ≠ a := hs1.ne hL
    refine lc_it (walk_range (lo := 0) (n := _)) (fun i H' => SrcB (u + 1 + i) H' a ∧ But a H1 H' ∧ ∃ zs : List Str, H' L = some (.lst (zs.map V.str)) ∧ zs.length = i ∧ ∀ z ∈ zs, 1 ≤ z.length ∧ z.length ≤ 3 ∧ charsB z = true) ⟨hs1.new hL, Same.but (same_new hL), [], upd_same, rfl, fun _ h => nomatch h⟩ (fun _ _ _ _ => True.intro) ?_ ?_
    · rintro i v Hc H' hi ⟨hs', hb', zs, hL', hl', hz'⟩ ⟨rfl, hv⟩
      have hi3 : i < 3 := by omega
      walk_at "rd"
      refine ⟨rfl, ?_⟩
      unfold tYes
      dsimp only
      rw [if_pos rfl]
      walk_at "st"
      refine r_pick (u := u + 1 + i) (nmS 3) rfl (by decide) (by decide) (by omega) (fun Q' h => ?_) ?_
      · walk_at "rd"
        exact h _ _ rfl (nm_all (by decide +kernel)) hs' (.refl _ _)
      · rintro v H2 ⟨z, rfl, z1, z2, z3⟩ hs2 hb2
        have hL2 := hb2 _ _ nL hL'
        refine ⟨_, hL2, Nat.lt_of_le_of_lt (by rw [List.length_map]; omega : _ ≤ 10) (by decide), ?_, fun b o nb eo => ?_, zs ++ [z], by rw [upd_same, List.map_append]; rfl, by rw [List.length_append, hl']; rfl, fun y hy => ?_⟩
        · obtain ⟨l, m, c, g, r⟩ := hs2
          exact ⟨l, m, c, upd_diff nL.symm g, r⟩
        · rw [upd_ne (ne_of_none eo hL)]
          exact hb2 _ _ nb (hb' _ _ nb eo)
        · rcases List.mem_append.mp hy with hy | hy
          · exact hz' y hy
          · rw [List.mem_singleton.mp hy]
            exact ⟨z1, z2, z3⟩
    · rintro H3 ⟨hs', hb', zs, hL', hl', hz'⟩
      obtain ⟨z, r, rfl⟩ : ∃ z r, zs = z :: r := by
        cases zs with
        | nil => exact absurd hl' (by show ¬ 0 = _; omega)
        | cons z r => exact ⟨z, r, rfl⟩
      have hr2 : r.length ≤ 2 := by
        have : r.length + 1 = _ := hl'
        omega
      have hs3 : SrcB (u + 4) H3 a := hs'.mono (by omega)
      have hz := hz' z List.mem_cons_self
      have hsum := sum_lens (m := 3) fun y hy => (hz' y (List.mem_cons_of_mem z hy)).2.1
      walk_at "rd"
      refine sp_draw hs3 (by omega) (by decide) (by decide) fun d H4 d0 d1 hs4 hb4 => ?_
      have hL4 := hb4 _ _ nL hL'
      have bb : But a H H4 := (hb1.trans hb').trans hb4
      walk_at "rd"
      refine r_iteD (fun e => ?_) (fun e => ?_)
      · walk_at "rd"
        have q1 : (repZ "q" 101).length = 101 := by decide +kernel
        have q2 : charsB (repZ "q" 101) = true := by decide +kernel
        refine r_append hL4 (Nat.lt_of_le_of_lt (by rw [List.length_map, List.length_cons]; omega : _ ≤ 10) (by decide)) ?_
        walk_at "rd"
        refine ⟨rfl, ?_⟩
        walk_at "rd"
        refine join_at (z := z) (r := r ++ [repZ "q" 101]) (by rw [upd_same, List.map_cons, List.map_cons, List.map_append]; rfl) (fun y hy => ?_) hz.1 ?_ ?_
        · rcases List.mem_cons.mp hy with rfl | hy
          · exact hz.2.2
          · rcases List.mem_append.mp hy with hy | hy
            · exact (hz' y (List.mem_cons_of_mem z hy)).2.2
            · rw [List.mem_singleton.mp hy]
              exact q2
        · rw [List.map_append, List.sum_append, List.map_singleton, List.sum_singleton, q1]
          omega
        · intro hn
          refine q _ _ hn ?_ fun b o nb eo => ?_
          · obtain ⟨l, m, c, g, r⟩ := hs4
            exact ⟨l, m, c, upd_diff nL.symm g, r⟩
          · rw [upd_ne (ne_of_none eo (hb1.back hs.src hs1.src hL))]
            exact bb _ _ nb eo
      · walk_at "rd"
        refine ⟨rfl, ?_⟩
        walk_at "rd"
        refine join_at (z := z) (r := r) hL4 (fun y hy => (hz' y hy).2.2) hz.1 (by omega) fun hn => ?_
        exact q _ _ hn hs4 bb
def spNums : Sp := fun vs H Q _ => ∃ (a : Addr) (u : Nat), vs = [.ref a] ∧ SrcB u H a ∧ u ≤ 900000 ∧ ∀ p (ns : List Int) H', H p = none → H' p = some (.lst (ns.map V.int)) → ns.length ≤ 600 → ns.all inByte = true → SrcB (u + 601) H' a → But a H H' → Q (.ref p) H'
theorem ok_numbers {f : Addr} {fd : FuncData} {k : Nat} (F : Fun K "_law_numbers" "_law_numbers" s__law_numbers f fd) (m1 : mg "range" = none) (c_draw : CalT P w K mg base 2 "_law_draw" spDraw) :
    FnOk P w K mg base CX0 (k + 3) f fd ["_law_source_here"] spNums := by
  refine F.ok sc__law_numbers (fun vs H Q E h => ?_) (fun cdv A outer s H vs Q E hr h => ?_)
  · obtain ⟨a, u, rfl, _⟩ := h
    rfl
  · obtain ⟨a, u, rfl, hs, hu9, q⟩ := h
    have hu := hu_of hr
    have nd := sc__law_numbers.nd
    refine ⟨_, (pss_cons (ps_set (i := 1) nd rfl (Or.inl rfl) (pe_ix (ix_listK K) (pe_lst (pa_cons pe_int (pa_cons pe_int (pa_cons pe_int (pa_cons pe_int (pa_cons pe_int (pa_cons pe_int pa_nil))))))) (pe_cc c_draw hr (by omega) (by rfl) (pa_cons (pv 0) (pa_cons pe_int pa_nil))) (fun _ _ => rfl)))
      (pss_one (ps_ret (pe_lc (own := [("_law_turn", 2)]) (g := (gName 2)) (tt := tYes) rfl nd (pi_range1 (by rfl) (by assumption) (pa_cons (pv 1) pa_nil)) (blkOk_by (N := N__law_numbers) (sc := defScope s__law_numbers) (by decide +kernel)) (fun _ _ _ _ _ => (pg_name (i := 2) nd rfl (Or.inl rfl))) (fun _ _ _ _ _ => pts_nil) (fun _ _ _ _ _ => (pe_ix (ix_listK K) (pe_lst (pa_cons pe_int (pa_cons pe_int (pa_cons pe_int (pa_cons pe_int pa_nil))))) (pe_cc c_draw hr (by omega) (by rfl) (pa_cons (pv 0) (pa_cons pe_int pa_nil))) (fun _ _ => rfl))))))), ?_⟩
    walk_at "st"
    refine r_pick (u := u) (intIn 0 600) rfl (by decide) (by decide) (by omega) (fun Q' h => ?_) ?_
    · walk_at "rd"
      exact h _ _ rfl (int_all (by decide +kernel)) hs (.refl _ _)
    · rintro v H1 ⟨n, rfl, n0, n1⟩ hs1 hb1
      obtain ⟨n, rfl⟩ := Int.eq_ofNat_of_zero_le n0
      walk_at "rd"
      intro L hL
      have nL : L ≠ a := hs1.ne hL
      refine lc_it (walk_range (lo := 0) (n := _)) (fun i H' => SrcB (u + 1 + i) H' a ∧ But a H1 H' ∧ ∃ zs : List Int, H' L = some (.lst (zs.map V.int)) ∧ zs.length = i ∧ zs.all inByte = true) ⟨hs1.new hL, Same.but (same_new hL), [], upd_same, rfl, rfl⟩ (fun _ _ _ _ => True.intro) ?_ ?_
      · rintro i v Hc H' hi ⟨hs', hb', zs, hL', hl', hz'⟩ ⟨rfl, hv⟩
        have hi3 : i < 600 := by omega
        walk_at "rd"
        refine ⟨rfl, ?_⟩
        unfold tYes
        dsimp only
        rw [if_pos rfl]
        walk_at "st"
        refine r_pick (u := u + 1 + i) (intIn 0 255) rfl (by decide) (by decide) (by omega) (fun Q' h => ?_) ?_
        · walk_at "rd"
          exact h _ _ rfl (int_all (by decide +kernel)) hs' (.refl _ _)
        · rintro v H2 ⟨z, rfl, z1, z2⟩ hs2 hb2
          have hL2 := hb2 _ _ nL hL'
          refine ⟨_, hL2, Nat.lt_of_le_of_lt (by rw [List.length_map]; omega : _ ≤ 1000) (by decide), ?_, fun b o nb eo => ?_, zs ++ [z], by rw [upd_same, List.map_append]; rfl, by rw [List.length_append, hl']; rfl, ?_⟩
          · obtain ⟨l, m, c, g, r⟩ := hs2
            exact ⟨l, m, c, upd_diff nL.symm g, r⟩
          · rw [upd_ne (ne_of_none eo hL)]
            exact hb2 _ _ nb (hb' _ _ nb eo)
          · rw [List.all_append, hz', Bool.true_and, List.all_cons, List.all_nil, Bool.and_true]
            exact inB z1 (by omega)
      · rintro H3 ⟨hs', hb', zs, hL', hl', hz'⟩
        walk_at "rd"
        exact q L zs H3 (hb1.back hs.src hs1.src hL) hL' (by omega) hz' (hs'.mono (by omega)) (hb1.trans hb')
theorem sp_path {a : Addr} {u : Nat} {H : Hp} {Q : VK} {E : XK} (h : SrcB u H a) (hu : u ≤ 900000) (k : ∀ (z : Str) H', nameB z = true → SrcB (u + 5) H' a → But a H H' → Q (.str z) H') : spPath ([.ref a] ++ []) H Q E := ⟨a, u, rfl, h, hu, k⟩
theorem sp_nums {a : Addr} {u : Nat} {H : Hp} {Q : VK} {E : XK} (h : SrcB u H a) (hu : u ≤ 900000) (k : ∀ p (ns : List Int) H', H p = none → H' p = some (.lst (ns.map V.int)) → ns.length ≤ 600 → ns.all inByte = true → SrcB (u + 601) H' a → But a H H' → Q (.ref p) H') : spNums ([.ref a] ++ []) H Q E := ⟨a, u, rfl, h, hu, k⟩
def spNames : Sp := fun vs H Q _ => ∃ (a : Addr) (u : Nat), vs = [.ref a] ∧ SrcB u H a ∧ u ≤ 800000 ∧ ∀ p (zs : List Str) H', H p = none → H' p = some (.lst (zs.map V.str)) → zs.length = 6 → (∀ z ∈ zs, nameB z = true) → SrcB (u + 10) H' a → But a H H' → Q (.ref p) H'
theorem ok_names {f : Addr} {fd : FuncData} {k : Nat} (F : Fun K "_law_names" "_law_names" s__law_names f fd) (c_path : CalT P w K mg base 3 "_law_path" spPath) :
    FnOk P w K mg base CX0 (k + 4) f fd ["_law_source_here"] spNames := by
  refine F.ok sc__law_names (fun vs H Q E h => ?_) (fun cdv A outer s H vs Q E hr h => ?_)
  · obtain ⟨a, u, rfl, _⟩ := h
    rfl
  · obtain ⟨a, u, rfl, hs, hu9, q⟩ := h
    have hu := hu_of hr
    have nd := sc__law_names.nd
    refine ⟨_, (pss_one (ps_ret (pe_lst (pa_cons pe_str (pa_cons pe_str (pa_cons pe_str (pa_cons (pe_cc c_path hr (by omega) (by rfl) (pa_cons (pv 0) pa_nil)) (pa_cons (pe_cc c_path hr (by omega) (by rfl) (pa_cons (pv 0) pa_nil)) (pa_cons (pe_op op_mulS pe_str pe_int) pa_nil))))))))), ?_⟩
    walk_at "rd"
    refine sp_path hs (by omega) fun z1 H1 hz1 hs1 hb1 => ?_
    walk_at "rd"
    refine sp_path hs1 (by omega) fun z2 H2 hz2 hs2 hb2 => ?_
    walk_at "rd"
    rename_i p hp
    have hb := hb1.trans hb2
    refine q p ["a", "b/c", "..", z1, z2, repZ "w" 101] _ (But.back hs.src hs2.src hb hp) upd_same rfl (fun z hz => ?_) (hs2.new hp) (hb.trans (Same.but (same_new hp)))
    simp only [List.mem_cons, List.not_mem_nil, or_false] at hz
    rcases hz with rfl | rfl | rfl | rfl | rfl | rfl
    · decide +kernel
    · decide +kernel
    · decide +kernel
    · exact hz1
    · exact hz2
    · decide +kernel
/-- the tuple p of a size and pieces, new since H -/
def PcsN (H H' : Hp) (p : Addr) (z : Int) (sp : List (Int × List Int)) : Prop := ∃ (d : Addr) (as : List Addr), H p = none ∧ H d = none ∧ H' p = some (.tup [.int z, .ref d]) ∧ H' d = some (.lst (as.map V.ref)) ∧ Paired (fun q (s : Int × List Int) => H q = none ∧ ∃ e, H e = none ∧ H' q = some (.tup [.int s.1, .ref e]) ∧ H' e = some (.lst (s.2.map V.int))) as sp
def spPcs : Sp := fun vs H Q _ => ∃ (a : Addr) (u : Nat), vs = [.ref a] ∧ SrcB u H a ∧ u ≤ 900000 ∧ ∀ p z (sp : List (Int × List Int)) H', PcsN H H' p z sp → 0 ≤ z → z ≤ 4096 → sp.length ≤ 2 → spansOk z 0 (sp.map fun s => (s.1, (s.2.length : Int))) → (∀ s ∈ sp, s.2.all inByte = true ∧ s.2.length ≤ 3) → SrcB (u + 5) H' a → But a H H' → Q (.ref p) H'
theorem dp_ints {K : PySem.W.Frag} {H : Hp} : ∀ l : List Int, DpAll K H (l.map V.int) (l.map PyData.int)
  | [] => .nil
  | _ :: l => .cons (.int _) (dp_ints l)
theorem ok_pieces {f : Addr} {fd : FuncData} {k : Nat} (F : Fun K "_law_pieces" "_law_pieces" s__law_pieces f fd) (m1 : mg "len" = none) (c_draw : CalT P w K mg base 2 "_law_draw" spDraw) :
    FnOk P w K mg base CX0 (k + 3) f fd ["_law_source_here"] spPcs := by
  refine F.ok sc__law_pieces (fun vs H Q E h => ?_) (fun cdv A outer s H vs Q E hr h => ?_)
  · obtain ⟨a, u, rfl, _⟩ := h
    rfl
  · obtain ⟨a, u, rfl, hs, hu9, q⟩ := h
    have hu := hu_of hr
    have nd := sc__law_pieces.nd
    have hu64 : (A.deeper (envOfC "_law_pieces" (defScope s__law_pieces) s.heap.objs.size f cdv)).units + 64 < cLine := by have := hr.un; omega
    refine ⟨_, (pss_cons (ps_par (i := 1) (j := 2) rfl nd rfl rfl (by decide) rfl rfl (pa_cons (pe_cc c_draw hr (by omega) (by rfl) (pa_cons (pv 0) (pa_cons pe_int pa_nil))) (pa_cons (pe_op op_add pe_int (pe_cc c_draw hr (by omega) (by rfl) (pa_cons (pv 0) (pa_cons pe_int pa_nil)))) pa_nil)) (by rfl))
      (pss_cons (ps_set (i := 3) nd rfl (Or.inl rfl) (pe_slice (sl_listK K) (pe_lst (pa_cons (pe_tup (pa_cons (pv 1) (pa_cons (pe_op op_rep (pe_lst (pa_cons pe_int pa_nil)) (pv 2)) pa_nil))) (pa_cons (pe_tup (pa_cons (pe_op op_add (pe_op op_add (pe_op op_add (pv 1) (pv 2)) pe_int) (pe_cc c_draw hr (by omega) (by rfl) (pa_cons (pv 0) (pa_cons pe_int pa_nil)))) (pa_cons (pe_lst (pa_cons pe_int (pa_cons pe_int pa_nil))) pa_nil))) pa_nil))) po_none (po_some (pe_cc c_draw hr (by omega) (by rfl) (pa_cons (pv 0) (pa_cons pe_int pa_nil))))))
      (pss_cons (ps_set (i := 4) nd rfl (Or.inl rfl) (pe_ifExp (pt_cmpR (op_neD hu64) (pv 3) (pe_lst pa_nil) (nomark _)) (pe_op op_add (pe_ix (ix_tupK K) (pe_ix (ix_listK K) (pv 3) (pe_un un_neg pe_int) (fun _ _ => rfl)) pe_int (fun _ _ => rfl)) (pe_callB (call_lenK K) (by rfl) (by assumption) (by decide +kernel) (pa_cons (pe_ix (ix_tupK K) (pe_ix (ix_listK K) (pv 3) (pe_un un_neg pe_int) (fun _ _ => rfl)) pe_int (fun _ _ => rfl)) pa_nil))) pe_int))
      (pss_one (ps_ret (pe_tup (pa_cons (pe_op op_add (pv 4) (pe_ix (ix_listK K) (pe_lst (pa_cons pe_int (pa_cons pe_int (pa_cons pe_int pa_nil)))) (pe_cc c_draw hr (by omega) (by rfl) (pa_cons (pv 0) (pa_cons pe_int pa_nil))) (fun _ _ => rfl))) (pa_cons (pv 3) pa_nil)))))))), ?_⟩
    walk_at "rd"
    refine sp_draw hs (by omega) (by decide) (by decide) fun d1 H1 d10 d11 hs1 hb1 => ?_
    walk_at "rd"
    refine sp_draw hs1 (by omega) (by decide) (by decide) fun d2 H2 d20 d21 hs2 hb2 => ?_
    obtain ⟨n, hn⟩ : ∃ n : Nat, 1 + d2 = (n : Int) := ⟨(1 + d2).toNat, by omega⟩
    walk_at "rd"
    rename_i p0 hp0
    rw [hn]
    refine r_rep upd_same (by omega) (by omega) (Nat.le_trans (by simp; omega : _ ≤ 5000) (by decide)) fun p1 hp1 => ?_
    have e7 : (List.replicate (Int.toNat (n : Int)) [V.int 7]).flatten = (List.replicate n (7 : Int)).map V.int := by simp
    rw [e7]
    walk_at "rd"
    rename_i t1 ht1
    have k0 := same_new (o := HO.lst [V.int 7]) hp0
    have k1 := same_new (o := HO.lst ((List.replicate n (7 : Int)).map V.int)) hp1
    have k2 := same_new (o := HO.tup [V.int d1, V.ref p1]) ht1
    have kk := (k0.trans k1).trans k2
    have n1 : H2 p1 = none := k0.free hp1
    have n2 : H2 t1 = none := (k0.trans k1).free ht1
    have gT1 : upd (upd (upd H2 p0 (HO.lst [V.int 7])) p1 (HO.lst (List.map V.int (List.replicate n 7)))) t1 (HO.tup [V.int d1, V.ref p1]) t1 = some (.tup [V.int d1, V.ref p1]) := upd_same
    have gP1 : upd (upd (upd H2 p0 (HO.lst [V.int 7])) p1 (HO.lst (List.map V.int (List.replicate n 7)))) t1 (HO.tup [V.int d1, V.ref p1]) p1 = some (.lst ((List.replicate n (7 : Int)).map V.int)) := k2 _ _ upd_same
    generalize upd (upd (upd H2 p0 (HO.lst [V.int 7])) p1 (HO.lst (List.map V.int (List.replicate n 7)))) t1 (HO.tup [V.int d1, V.ref p1]) = HA at kk gT1 gP1 ⊢
    clear k0 k1 k2 hp1 ht1
    refine sp_draw (hs2.same kk) (by omega) (by decide) (by decide) fun d3 H3 d30 d31 hs3 hb3 => ?_
    have gT3 := hb3 _ _ (hs2.ne n2) gT1
    have gP3 := hb3 _ _ (hs2.ne n1) gP1
    have bb3 : But a H2 H3 := (Same.but kk).trans hb3
    walk_at "rd"
    rename_i p9 hp9 t2 ht2 l0 hl0
    have m0 := same_new (o := HO.lst [V.int 9, V.int 0]) hp9
    have m1 := same_new (o := HO.tup [V.int (d1 + (n : Int) + 1 + d3), V.ref p9]) ht2
    have m2 := same_new (o := HO.lst [V.ref t1, V.ref t2]) hl0
    have mm := (m0.trans m1).trans m2
    have n9 : H3 p9 = none := hp9
    have n3 : H3 t2 = none := m0.free ht2
    have n4 : H3 l0 = none := (m0.trans m1).free hl0
    have g9 : upd (upd (upd H3 p9 (HO.lst [V.int 9, V.int 0])) t2 (HO.tup [V.int (d1 + (n : Int) + 1 + d3), V.ref p9])) l0 (HO.lst [V.ref t1, V.ref t2]) p9 = some (.lst [V.int 9, V.int 0]) := m2 _ _ (m1 _ _ upd_same)
    have gT2 : upd (upd (upd H3 p9 (HO.lst [V.int 9, V.int 0])) t2 (HO.tup [V.int (d1 + (n : Int) + 1 + d3), V.ref p9])) l0 (HO.lst [V.ref t1, V.ref t2]) t2 = some (.tup [V.int (d1 + (n : Int) + 1 + d3), V.ref p9]) := m2 _ _ upd_same
    have gL0 : upd (upd (upd H3 p9 (HO.lst [V.int 9, V.int 0])) t2 (HO.tup [V.int (d1 + (n : Int) + 1 + d3), V.ref p9])) l0 (HO.lst [V.ref t1, V.ref t2]) l0 = some (.lst [V.ref t1, V.ref t2]) := upd_same
    have gT4 := mm _ _ gT3
    have gP4 := mm _ _ gP3
    generalize upd (upd (upd H3 p9 (HO.lst [V.int 9, V.int 0])) t2 (HO.tup [V.int (d1 + (n : Int) + 1 + d3), V.ref p9])) l0 (HO.lst [V.ref t1, V.ref t2]) = HB at mm g9 gT2 gL0 gT4 gP4 ⊢
    clear m0 m1 m2 hp9 ht2 hl0
    refine sp_draw (hs3.same mm) (by omega) (by decide) (by decide) fun d4 H4 d40 d41 hs4 hb4 => ?_
    have bb4 : But a H2 H4 := (bb3.trans (Same.but mm)).trans hb4
    have bAll : But a H H4 := (hb1.trans hb2).trans bb4
    have a9 := hb4 _ _ (hs3.ne n9) g9
    have aT2 := hb4 _ _ (hs3.ne n3) gT2
    have aL0 := hb4 _ _ (hs3.ne n4) gL0
    have aT1 := hb4 _ _ (hs2.ne n2) gT4
    have aP1 := hb4 _ _ (hs2.ne n1) gP4
    have f1 : H p1 = none := But.back hs.src hs2.src (hb1.trans hb2) n1
    have f2 : H t1 = none := But.back hs.src hs2.src (hb1.trans hb2) n2
    have f9 : H p9 = none := But.back hs.src hs3.src ((hb1.trans hb2).trans bb3) n9
    have f3 : H t2 = none := But.back hs.src hs3.src ((hb1.trans hb2).trans bb3) n3
    walk_at "rd"
    rename_i L hL e hE
    have fL : H L = none := But.back hs.src hs4.src bAll hL
    have w0 := same_new (o := HO.lst (cutV [V.ref t1, V.ref t2] none (some d4))) hL
    have w1 := same_new (o := HO.lst []) hE
    have ww := w0.trans w1
    have gL : upd (upd H4 L (HO.lst (cutV [V.ref t1, V.ref t2] none (some d4)))) e (HO.lst []) L = some (.lst (cutV [V.ref t1, V.ref t2] none (some d4))) := w1 _ _ upd_same
    have gE : upd (upd H4 L (HO.lst (cutV [V.ref t1, V.ref t2] none (some d4)))) e (HO.lst []) e = some (.lst []) := upd_same
    have sE := hs4.same ww
    have bE := bAll.trans (Same.but ww)
    replace a9 := ww _ _ a9
    replace aT2 := ww _ _ aT2
    replace aT1 := ww _ _ aT1
    replace aP1 := ww _ _ aP1
    generalize upd (upd H4 L (HO.lst (cutV [V.ref t1, V.ref t2] none (some d4)))) e (HO.lst []) = HC at gL gE sE bE a9 aT2 aT1 aP1 ⊢
    clear w0 w1 ww hL hE
    have fin : ∀ (en z : Int) (sp : List (Int × List Int)) (as : List Addr) (H5 : Hp) (p : Addr), 0 ≤ en → en ≤ 2000 → 0 ≤ z → z ≤ 30 → SrcB (u + 1 + 1 + 1 + 1 + 1) H5 a → But a HC H5 → H5 p = none → HC L = some (.lst (as.map V.ref)) → Paired (fun q (s : Int × List Int) => H q = none ∧ ∃ e, H e = none ∧ HC q = some (.tup [.int s.1, .ref e]) ∧ HC e = some (.lst (s.2.map V.int))) as sp → sp.length ≤ 2 → (∀ z, en ≤ z → spansOk z 0 (sp.map fun s => (s.1, (s.2.length : Int)))) → (∀ s ∈ sp, s.2.all inByte = true ∧ s.2.length ≤ 3) →
        Q (.ref p) (upd H5 p (.tup [.int (en + z), .ref L])) := by
      intro en z sp as H5 p e0 e1 z0 z1 s5 b5 hp gLL gp hl2 hso hall
      have y0 := same_new (o := HO.tup [V.int (en + z), V.ref L]) hp
      have fa : ∀ b o, H b = none → HC b = some o → upd H5 p (.tup [.int (en + z), .ref L]) b = some o := fun b o hn ho => y0 _ _ (b5 _ _ (hs.ne hn) ho)
      exact q p (en + z) sp _ ⟨L, as, But.back hs.src s5.src (bE.trans b5) hp, fL, upd_same, fa _ _ fL gLL, Paired.mapP gp fun q s ⟨k1, e, k2, k3, k4⟩ => ⟨k1, e, k2, fa _ _ k1 k3, fa _ _ k2 k4⟩⟩ (by omega) (by omega) hl2 (hso _ (by omega)) hall (s5.same y0) ((bE.trans b5).trans (Same.but y0))
    have d4c : d4 = 0 ∨ d4 = 1 ∨ d4 = 2 := by omega
    have n3c : n = 1 ∨ n = 2 ∨ n = 3 := by omega
    have r7 : (List.replicate n (7 : Int)).all inByte = true ∧ (List.replicate n (7 : Int)).length ≤ 3 := by rcases n3c with rfl | rfl | rfl <;> decide
    rcases d4c with rfl | rfl | rfl
    · have gL' : HC L = some (.lst []) := gL
      refine ⟨.list [], .list [], .lst (SqL.of gL') .nil, .lst (SqL.of gE) .nil, by decide, by decide, ?_⟩
      walk_at "rd"
      rename_i pl hpl
      refine sp_draw (sE.new hpl) (by omega) (by decide) (by decide) fun d5 H5 d50 d51 hs5 hb5 => ?_
      obtain ⟨v, hv, hat⟩ := pick_at (xs := [V.int 0, V.int 1, V.int 30]) d50 d51
      obtain ⟨z, rfl, z0, z1⟩ := int_all (lo := 0) (hi := 30) (by decide +kernel) v hv
      refine r_ixL (SqL.of (hb5 pl _ (sE.ne hpl) upd_same)) hat ?_
      walk_at "rd"
      rename_i p hp
      exact fin 0 z [] [] H5 p (by decide) (by decide) z0 z1 hs5 ((Same.but (same_new hpl)).trans hb5) hp gL' .nil (Nat.zero_le _) (fun _ _ => True.intro) (fun _ h => nomatch h)
    · have gL' : HC L = some (.lst [.ref t1]) := gL
      refine ⟨.list [.tuple [.int d1, .list ((List.replicate n (7 : Int)).map PyData.int)]], .list [], .lst (SqL.of gL') (.cons (.tup (SqT.of aT1) (.cons (.int _) (.cons (.lst (SqL.of aP1) (dp_ints _)) .nil))) .nil), .lst (SqL.of gE) .nil, ?_, by decide, ?_⟩
      · rcases n3c with rfl | rfl | rfl <;> simp [SeqAt.shaped, PyData.canLay0, PyData.depth, PyData.canLayAll0, PyData.depthAll, List.replicate]
      rw [show PyData.eqv (.list [.tuple [.int d1, .list ((List.replicate n (7 : Int)).map PyData.int)]]) (.list []) = false by simp [PyData.eqv, PyData.eqvAll]]
      walk_at "rd"
      rename_i pl hpl
      refine sp_draw (sE.new hpl) (by omega) (by decide) (by decide) fun d5 H5 d50 d51 hs5 hb5 => ?_
      obtain ⟨v, hv, hat⟩ := pick_at (xs := [V.int 0, V.int 1, V.int 30]) d50 d51
      obtain ⟨z, rfl, z0, z1⟩ := int_all (lo := 0) (hi := 30) (by decide +kernel) v hv
      refine r_ixL (SqL.of (hb5 pl _ (sE.ne hpl) upd_same)) hat ?_
      rw [List.length_map, List.length_replicate]
      walk_at "rd"
      rename_i p hp
      exact fin (d1 + (n : Int)) z [(d1, List.replicate n 7)] [t1] H5 p (by omega) (by omega) z0 z1 hs5 ((Same.but (same_new hpl)).trans hb5) hp gL' (.cons ⟨f2, p1, f1, aT1, aP1⟩ .nil) (show 1 ≤ 2 by decide) (fun z hz => ⟨d10, by rw [List.length_replicate]; omega, by rw [List.length_replicate]; omega, True.intro⟩) (fun s hs => by rw [List.mem_singleton.mp hs]; exact r7)
    · have gL' : HC L = some (.lst [.ref t1, .ref t2]) := gL
      refine ⟨.list [.tuple [.int d1, .list ((List.replicate n (7 : Int)).map PyData.int)], .tuple [.int (d1 + (n : Int) + 1 + d3), .list [.int 9, .int 0]]], .list [], .lst (SqL.of gL') (.cons (.tup (SqT.of aT1) (.cons (.int _) (.cons (.lst (SqL.of aP1) (dp_ints _)) .nil))) (.cons (.tup (SqT.of aT2) (.cons (.int _) (.cons (.lst (SqL.of a9) (.cons (.int _) (.cons (.int _) .nil))) .nil))) .nil)), .lst (SqL.of gE) .nil, ?_, by decide, ?_⟩
      · rcases n3c with rfl | rfl | rfl <;> simp [SeqAt.shaped, PyData.canLay0, PyData.depth, PyData.canLayAll0, PyData.depthAll, List.replicate]
      rw [show PyData.eqv (.list [.tuple [.int d1, .list ((List.replicate n (7 : Int)).map PyData.int)], .tuple [.int (d1 + (n : Int) + 1 + d3), .list [.int 9, .int 0]]]) (.list []) = false by simp [PyData.eqv, PyData.eqvAll]]
      walk_at "rd"
      rename_i pl hpl
      refine sp_draw (sE.new hpl) (by omega) (by decide) (by decide) fun d5 H5 d50 d51 hs5 hb5 => ?_
      obtain ⟨v, hv, hat⟩ := pick_at (xs := [V.int 0, V.int 1, V.int 30]) d50 d51
      obtain ⟨z, rfl, z0, z1⟩ := int_all (lo := 0) (hi := 30) (by decide +kernel) v hv
      refine r_ixL (SqL.of (hb5 pl _ (sE.ne hpl) upd_same)) hat ?_
      walk_at "rd"
      rename_i p hp
      exact fin (d1 + (n : Int) + 1 + d3 + 2) z [(d1, List.replicate n 7), (d1 + (n : Int) + 1 + d3, [9, 0])] [t1, t2] H5 p (by omega) (by omega) z0 z1 hs5 ((Same.but (same_new hpl)).trans hb5) hp gL' (.cons ⟨f2, p1, f1, aT1, aP1⟩ (.cons ⟨f3, p9, f9, aT2, a9⟩ .nil)) (show 2 ≤ 2 by decide) (fun z hz => ⟨d10, by rw [List.length_replicate]; omega, by rw [List.length_replicate]; omega, by rw [List.length_replicate]; omega, show (1 : Int) ≤ 2 by decide, by show d1 + (n : Int) + 1 + d3 + 2 ≤ z; omega, True.intro⟩) (fun s hs => by
        rcases List.mem_cons.mp hs with rfl | hs
        · exact r7
        · rw [List.mem_singleton.mp hs]
          exact (show ([9, 0] : List Int).all inByte = true ∧ ([9, 0] : List Int).length ≤ 3 by decide))
end
abbrev s__law_spec : Stmt := topS 109
abbrev N__law_spec : List Str := ["_law_source_here", "_law_name", "_law_names_here", "_law_bits", "_law_time_here", "_law_kind"]
theorem sc__law_spec : FnScope N__law_spec ["_law_source_here", "_law_name", "_law_names_here"] (defScope s__law_spec) := ⟨rfl, rfl, rfl, by decide +kernel, rfl, by decide +kernel, by decide +kernel⟩
/-! ### a drawn member, as data -/
inductive Mem where
  | file (n : Str) (b t : Int) (ns : List Int)
  | sparse (n : Str) (b t z : Int) (sp : List (Int × List Int))
  | dir (n : Str) (b t : Int)
  | sym (n : Str) (b t : Int) (g : Str)
  | lnk (n : Str) (b t : Int) (g : Str)
def PiecesL (H : Hp) (d : Addr) (sp : List (Int × List Int)) : Prop := ∃ as : List Addr, H d = some (.lst (as.map V.ref)) ∧ Paired (fun q (s : Int × List Int) => ∃ e, H q = some (.tup [.int s.1, .ref e]) ∧ H e = some (.lst (s.2.map V.int))) as sp
theorem PiecesL.same {H H' : Hp} {d : Addr} {sp : List (Int × List Int)} (e : Same H H') (h : PiecesL H d sp) : PiecesL H' d sp := by
  obtain ⟨as, h1, h2⟩ := h
  exact ⟨as, e _ _ h1, Paired.mapP h2 fun q s ⟨x, z1, z2⟩ => ⟨x, e _ _ z1, e _ _ z2⟩⟩
def Mem.At (H : Hp) (p : Addr) : Mem → Prop
  | .file n b t ns => ∃ d, H p = some (.lst [.str "file", .str n, .int b, .int t, .ref d]) ∧ H d = some (.lst (ns.map V.int))
  | .sparse n b t z sp => ∃ d, H p = some (.lst [.str "sparse", .str n, .int b, .int t, .int z, .ref d]) ∧ PiecesL H d sp
  | .dir n b t => H p = some (.lst [.str "directory", .str n, .int b, .int t])
  | .sym n b t g => H p = some (.lst [.str "symlink", .str n, .int b, .int t, .str g])
  | .lnk n b t g => H p = some (.lst [.str "link", .str n, .int b, .int t, .str g])
theorem Mem.At.same {H H' : Hp} {p : Addr} {m : Mem} (e : Same H H') (h : m.At H p) : m.At H' p := by
  cases m with
  | file n b t ns => obtain ⟨d, h1, h2⟩ := h; exact ⟨d, e _ _ h1, e _ _ h2⟩
  | sparse n b t z sp => obtain ⟨d, h1, h2⟩ := h; exact ⟨d, e _ _ h1, h2.same e⟩
  | dir n b t => exact e _ _ h
  | sym n b t g => exact e _ _ h
  | lnk n b t g => exact e _ _ h
/-- the member at p, all of whose objects are new since H -/
def Mem.New (H H' : Hp) (p : Addr) (m : Mem) : Prop := ∀ H2, (∀ b o, H b = none → H' b = some o → H2 b = some o) → m.At H2 p
theorem Mem.New.at {H H' : Hp} {p : Addr} {m : Mem} (h : m.New H H' p) : m.At H' p := h H' fun _ _ _ e => e
theorem Mem.New.to {H H' H2 : Hp} {p : Addr} {m : Mem} (h : m.New H H' p) (y : ∀ b o, H b = none → H' b = some o → H2 b = some o) : m.New H H2 p := fun H3 z => h H3 fun b o n e => z b o n (y b o n e)
theorem Mem.New.from {H0 H H' : Hp} {p : Addr} {m : Mem} (h : m.New H H' p) (y : ∀ b, H b = none → H0 b = none) : m.New H0 H' p := fun H3 z => h H3 fun b o n e => z b o (y b n) e
def stampOk (n : Str) (b t : Int) : Prop := nameB n = true ∧ 0 ≤ b ∧ b ≤ 4095 ∧ 0 ≤ t ∧ t ≤ 8589934591
def Mem.Ok : Mem → Prop
  | .file n b t ns => stampOk n b t ∧ ns.length ≤ 4096 ∧ ns.all inByte = true
  | .sparse n b t z sp => stampOk n b t ∧ 0 ≤ z ∧ z ≤ 4096 ∧ sp.length ≤ 50 ∧ spansOk z 0 (sp.map fun s => (s.1, (s.2.length : Int))) ∧ ∀ s ∈ sp, s.2.all inByte = true
  | .dir n b t => stampOk n b t
  | .sym n b t g => stampOk n b t ∧ nameB g = true
  | .lnk n b t g => stampOk n b t ∧ nameB g = true
theorem spansOk_all {z : Int} : ∀ {e : Int} {sp : List (Int × Int)}, 0 ≤ e → spansOk z e sp → ∀ s ∈ sp, 0 ≤ s.1 ∧ 1 ≤ s.2 ∧ s.1 + s.2 ≤ z
  | _, [], _, _, s, hs => nomatch hs
  | e, (b, n) :: r, h, k, s, hs => by
    rcases List.mem_cons.mp hs with rfl | hs
    · exact ⟨Int.le_trans h k.1, k.2.1, k.2.2.1⟩
    · exact spansOk_all (e := b + n + 1) (by have := k.1; have := k.2.1; omega) k.2.2.2 s hs
theorem paired_at {α β : Type} {R : α → β → Prop} : ∀ {xs : List α} {ys : List β}, Paired R xs ys → ∀ {i : Nat} {x : α}, xs[i]? = some x → ∃ y, ys[i]? = some y ∧ R x y
  | _, _, .nil, i, x, h => by simp at h
  | _, _, .cons r t, 0, x, h => by
    rw [List.getElem?_cons_zero] at h
    cases h
    exact ⟨_, rfl, r⟩
  | _, _, .cons r t, i + 1, x, h => by
    rw [List.getElem?_cons_succ] at h
    exact paired_at t h
theorem take_snoc {α : Type} {l : List α} {i : Nat} {x : α} (h : l[i]? = some x) : l.take (i + 1) = l.take i ++ [x] := by
  rw [List.take_add_one, h]
  rfl
section
variable {P : Program} {w : World} {K : PySem.W.Frag} {mg : Str → Option Value} {base : Heap}
/-- as many pieces as are drawn -/
def Mem.Few : Mem → Prop
  | .sparse _ _ _ _ sp => sp.length ≤ 6
  | _ => True
/-- at most two pieces, and few bytes -/
def Mem.Two : Mem → Prop
  | .file _ _ _ ns => ns.length ≤ 600
  | .sparse _ _ _ _ sp => sp.length ≤ 2 ∧ ∀ s ∈ sp, s.2.length ≤ 3
  | _ => True
/-- a member as a tuple -/
def Mem.Tu (H : Hp) (p : Addr) : Mem → Prop
  | .file n b t ns => ∃ d, H p = some (.tup [.str "file", .str n, .int b, .int t, .ref d]) ∧ H d = some (.lst (ns.map V.int))
  | .sparse n b t z sp => ∃ q d, H p = some (.tup [.str "sparse", .str n, .int b, .int t, .ref q]) ∧ H q = some (.tup [.int z, .ref d]) ∧ PiecesL H d sp
  | .dir n b t => H p = some (.tup [.str "directory", .str n, .int b, .int t])
  | .sym n b t g => H p = some (.tup [.str "symlink", .str n, .int b, .int t, .str g])
  | .lnk n b t g => H p = some (.tup [.str "link", .str n, .int b, .int t, .str g])
theorem Mem.Tu.same {H H' : Hp} {p : Addr} {m : Mem} (e : Same H H') (h : m.Tu H p) : m.Tu H' p := by
  cases m with
  | file n b t ns => obtain ⟨d, h1, h2⟩ := h; exact ⟨d, e _ _ h1, e _ _ h2⟩
  | sparse n b t z sp => obtain ⟨q, d, h1, h2, h3⟩ := h; exact ⟨q, d, e _ _ h1, e _ _ h2, h3.same e⟩
  | dir n b t => exact e _ _ h
  | sym n b t g => exact e _ _ h
  | lnk n b t g => exact e _ _ h
/-- the tuple at p, all of whose objects are new since H -/
def Mem.TuN (H H' : Hp) (p : Addr) (m : Mem) : Prop := ∀ H2, (∀ b o, H b = none → H' b = some o → H2 b = some o) → m.Tu H2 p
theorem Mem.TuN.at {H H' : Hp} {p : Addr} {m : Mem} (h : m.TuN H H' p) : m.Tu H' p := h H' fun _ _ _ e => e
theorem Mem.TuN.to {H H' H2 : Hp} {p : Addr} {m : Mem} (h : m.TuN H H' p) (y : ∀ b o, H b = none → H' b = some o → H2 b = some o) : m.TuN H H2 p := fun H3 z => h H3 fun b o n e => z b o n (y b o n e)
theorem Mem.TuN.from {H0 H H' : Hp} {p : Addr} {m : Mem} (h : m.TuN H H' p) (y : ∀ b, H b = none → H0 b = none) : m.TuN H0 H' p := fun H3 z => h H3 fun b o n e => z b o (y b n) e
theorem src_strs {H : Hp} {a N : Addr} {zs : List Str} (hs : Src H a) (h : H N = some (.lst (zs.map V.str))) : N ≠ a := fun e => by
  obtain ⟨x, y, z, h9, _⟩ := hs
  rw [e, h9] at h
  injection h with h
  injection h with h
  cases zs with
  | nil => cases h
  | cons y r => injection h with h _; cases h
theorem back_fun {a : Addr} {H H' : Hp} (hs : Src H a) (hs' : Src H' a) (b : But a H H') : ∀ x, H' x = none → H x = none := fun _ h => But.back hs hs' b h
def spSpec : Sp := fun vs H Q _ => ∃ (a N : Addr) (u : Nat) (z : Str) (zs : List Str), vs = [.ref a, .str z, .ref N] ∧ SrcB u H a ∧ u ≤ 800000 ∧ nameB z = true ∧ H N = some (.lst (zs.map V.str)) ∧ zs.length = 6 ∧ (∀ z ∈ zs, nameB z = true) ∧ ∀ p (m : Mem) H', H p = none → m.TuN H H' p → m.Ok ∧ m.Two → SrcB (u + 604) H' a → But a H H' → Q (.ref p) H'
theorem ok_spec {f : Addr} {fd : FuncData} {k : Nat} (F : Fun K "_law_spec" "_law_spec" s__law_spec f fd) (m1 : mg "len" = none) (c_draw : CalT P w K mg base 2 "_law_draw" spDraw) (c_stamps : CalT P w K mg base 3 "_law_stamps" spStamps) (c_numbers : CalT P w K mg base 3 "_law_numbers" spNums) (c_pieces : CalT P w K mg base 3 "_law_pieces" spPcs) :
    FnOk P w K mg base CX0 (k + 4) f fd ["_law_source_here", "_law_name", "_law_names_here"] spSpec := by
  refine F.ok sc__law_spec (fun vs H Q E h => ?_) (fun cdv A outer s H vs Q E hr h => ?_)
  · obtain ⟨a, N, u, z, zs, rfl, _⟩ := h
    rfl
  · obtain ⟨a, N, u, z, zs, rfl, hs, hu9, hz, hN, hl, hall, q⟩ := h
    have hu := hu_of hr
    have nd := sc__law_spec.nd
    refine ⟨_, (pss_cons (ps_asg (pe_cc c_stamps hr (by omega) (by rfl) (pa_cons (pv 0) pa_nil)) (pg_tupK K (pg_tup rfl (pgs_cons (pg_name (i := 3) nd rfl (Or.inl rfl)) (pgs_cons (pg_name (i := 4) nd rfl (Or.inl rfl)) pgs_nil)))))
      (pss_cons (ps_set (i := 5) nd rfl (Or.inl rfl) (pe_ix (ix_listK K) (pe_lst (pa_cons pe_str (pa_cons pe_str (pa_cons pe_str (pa_cons pe_str (pa_cons pe_str (pa_cons pe_str (pa_cons pe_str pa_nil)))))))) (pe_cc c_draw hr (by omega) (by rfl) (pa_cons (pv 0) (pa_cons pe_int pa_nil))) (fun _ _ => rfl)))
      (pss_cons (ps_if (pt_cmpR op_eq (pv 5) pe_str (nomark _))
        (pss_one (ps_ret (pe_tup (pa_cons (pv 5) (pa_cons (pv 1) (pa_cons (pv 3) (pa_cons (pv 4) (pa_cons (pe_cc c_numbers hr (by omega) (by rfl) (pa_cons (pv 0) pa_nil)) pa_nil))))))))
        pss_nil)
      (pss_cons (ps_if (pt_cmpR op_eq (pv 5) pe_str (nomark _))
        (pss_one (ps_ret (pe_tup (pa_cons (pv 5) (pa_cons (pv 1) (pa_cons (pv 3) (pa_cons (pv 4) pa_nil)))))))
        pss_nil)
      (pss_cons (ps_if (pt_cmpR op_eq (pv 5) pe_str (nomark _))
        (pss_one (ps_ret (pe_tup (pa_cons (pv 5) (pa_cons (pv 1) (pa_cons (pv 3) (pa_cons (pv 4) (pa_cons (pe_cc c_pieces hr (by omega) (by rfl) (pa_cons (pv 0) pa_nil)) pa_nil))))))))
        pss_nil)
      (pss_cons (ps_if (pt_cmpR op_eq (pv 5) pe_str (nomark _))
        (pss_one (ps_ret (pe_tup (pa_cons (pv 5) (pa_cons (pv 1) (pa_cons (pv 3) (pa_cons (pv 4) (pa_cons (pe_ix (ix_listK K) (pe_lst (pa_cons pe_str (pa_cons pe_str (pa_cons pe_str (pa_cons (pe_op op_mulS pe_str pe_int) (pa_cons pe_str pa_nil)))))) (pe_cc c_draw hr (by omega) (by rfl) (pa_cons (pv 0) (pa_cons pe_int pa_nil))) (fun _ _ => rfl)) pa_nil))))))))
        pss_nil)
      (pss_one (ps_ret (pe_tup (pa_cons (pv 5) (pa_cons (pv 1) (pa_cons (pv 3) (pa_cons (pv 4) (pa_cons (pe_ix (ix_listK K) (pv 2) (pe_cc c_draw hr (by omega) (by rfl) (pa_cons (pv 0) (pa_cons (pe_callB (call_lenK K) (by rfl) (by assumption) (by decide +kernel) (pa_cons (pv 2) pa_nil)) pa_nil))) (fun _ _ => rfl)) pa_nil)))))))))))))), ?_⟩
    walk_at "rd"
    refine sp_stamps hs (by omega) fun p b t H1 hp gp b0 b1 t0 t1 hs1 hb1 => ?_
    walk_at "rd"
    rename_i pl hpl
    refine sp_draw (hs1.new hpl) (by omega) (by decide) (by decide) fun d H2 d0 d1 hs2 hb2 => ?_
    obtain ⟨v, hv, hat⟩ := pick_at (xs := [V.str "file", V.str "file", V.str "directory", V.str "symlink", V.str "link", V.str "link", V.str "sparse"]) d0 d1
    refine r_ixL (SqL.of (hb2 pl _ (hs1.ne hpl) upd_same)) hat ?_
    have bb : But a H H2 := (hb1.trans (Same.but (same_new hpl))).trans hb2
    have nN := src_strs hs.src hN
    have hN2 := bb _ _ nN hN
    have back2 := back_fun hs.src hs2.src bb
    have st : stampOk z b t := ⟨hz, b0, b1, t0, t1⟩
    have hk : v = .str "file" ∨ v = .str "directory" ∨ v = .str "symlink" ∨ v = .str "link" ∨ v = .str "sparse" := by
      simp only [List.mem_cons, List.not_mem_nil, or_false] at hv
      rcases hv with h | h | h | h | h | h | h <;> simp [h]
    rcases hk with rfl | rfl | rfl | rfl | rfl
    · walk_at "rd"
      refine r_iteD (fun _ => ?_) (fun h => absurd rfl h)
      walk_at "rd"
      refine sp_nums hs2 (by omega) fun dl ns H3 hdl gd hl3 hin hs3 hb3 => ?_
      walk_at "rd"
      rename_i p9 hp9
      have b3 := bb.trans hb3
      exact q p9 (.file z b t ns) _ (back_fun hs.src hs3.src b3 _ hp9) (fun H9 y => ⟨dl, y _ _ (back_fun hs.src hs3.src b3 _ hp9) upd_same, y _ _ (back2 _ hdl) (upd_old hp9 gd)⟩) ⟨⟨st, by omega, hin⟩, hl3⟩ ((hs3.mono (by omega)).new hp9) (b3.trans (Same.but (same_new hp9)))
    · walk_at "rd"
      refine r_iteD (fun _ => ?_) (fun h => absurd rfl h)
      walk_at "rd"
      rename_i p9 hp9
      exact q p9 (.dir z b t) _ (back2 _ hp9) (fun H9 y => y _ _ (back2 _ hp9) upd_same) ⟨st, True.intro⟩ ((hs2.mono (by omega)).new hp9) (bb.trans (Same.but (same_new hp9)))
    · walk_at "rd"
      refine r_iteD (fun _ => ?_) (fun h => absurd rfl h)
      walk_at "rd"
      rename_i p7 hp7
      refine sp_draw (hs2.new hp7) (by omega) (by decide) (by decide) fun d H3 d0 d1 hs3 hb3 => ?_
      obtain ⟨v, hv, hat⟩ := pick_at (xs := [V.str "a", V.str "../b", V.str "/", V.str (repZ "x" 120), V.str "a//."]) d0 d1
      obtain ⟨g, rfl, hg⟩ : ∃ g, v = .str g ∧ nameB g = true := by
        simp only [List.mem_cons, List.not_mem_nil, or_false] at hv
        rcases hv with rfl | rfl | rfl | rfl | rfl <;> exact ⟨_, rfl, by decide +kernel⟩
      refine r_ixL (SqL.of (hb3 p7 _ (hs2.ne hp7) upd_same)) hat ?_
      walk_at "rd"
      rename_i p9 hp9
      have b3 := (bb.trans (Same.but (same_new hp7))).trans hb3
      exact q p9 (.sym z b t g) _ (back_fun hs.src hs3.src b3 _ hp9) (fun H9 y => y _ _ (back_fun hs.src hs3.src b3 _ hp9) upd_same) ⟨⟨st, hg⟩, True.intro⟩ ((hs3.mono (by omega)).new hp9) (b3.trans (Same.but (same_new hp9)))
    · walk_at "rd"
      refine sp_draw hs2 (by omega) (by rw [List.length_map, hl]; decide) (by rw [List.length_map, hl]; decide) fun d H3 d0 d1 hs3 hb3 => ?_
      obtain ⟨v, hv, hat⟩ := pick_at (xs := zs.map V.str) d0 d1
      obtain ⟨g, hg, rfl⟩ := List.mem_map.mp hv
      refine r_ixL (SqL.of (hb3 _ _ nN hN2)) hat ?_
      walk_at "rd"
      rename_i p9 hp9
      have b3 := bb.trans hb3
      exact q p9 (.lnk z b t g) _ (back_fun hs.src hs3.src b3 _ hp9) (fun H9 y => y _ _ (back_fun hs.src hs3.src b3 _ hp9) upd_same) ⟨⟨st, hall g hg⟩, True.intro⟩ ((hs3.mono (by omega)).new hp9) (b3.trans (Same.but (same_new hp9)))
    · walk_at "rd"
      refine r_iteD (fun _ => ?_) (fun h => absurd rfl h)
      walk_at "rd"
      refine ⟨a, _, rfl, hs2, by omega, fun q9 z9 sp H3 pn z0 z1 l2 hso hall3 hs3 hb3 => ?_⟩
      obtain ⟨dl, as, f1, f2, g1, g2, g3⟩ := pn
      walk_at "rd"
      rename_i p9 hp9
      have b3 := bb.trans hb3
      exact q p9 (.sparse z b t z9 sp) _ (back_fun hs.src hs3.src b3 _ hp9) (fun H9 y => ⟨q9, dl, y _ _ (back_fun hs.src hs3.src b3 _ hp9) upd_same, y _ _ (back2 _ f1) (upd_old hp9 g1), as, y _ _ (back2 _ f2) (upd_old hp9 g2), Paired.mapP g3 fun x s ⟨k1, e, k2, k3, k4⟩ => ⟨e, y _ _ (back2 _ k1) (upd_old hp9 k3), y _ _ (back2 _ k2) (upd_old hp9 k4)⟩⟩) ⟨⟨st, z0, z1, by omega, hso, fun s hs => (hall3 s hs).1⟩, l2, fun s hs => (hall3 s hs).2⟩ ((hs3.mono (by omega)).new hp9) (b3.trans (Same.but (same_new hp9)))
end
abbrev s_is_data : Stmt := topS 32
abbrev N_is_data : List Str := ["thing"]
theorem sc_is_data : FnScope N_is_data ["thing"] (defScope s_is_data) := ⟨rfl, rfl, rfl, by decide +kernel, rfl, by decide +kernel, by decide +kernel⟩
abbrev s_is_size : Stmt := topS 33
abbrev N_is_size : List Str := ["thing"]
theorem sc_is_size : FnScope N_is_size ["thing"] (defScope s_is_size) := ⟨rfl, rfl, rfl, by decide +kernel, rfl, by decide +kernel, by decide +kernel⟩
abbrev s_is_mode : Stmt := topS 34
abbrev N_is_mode : List Str := ["thing"]
theorem sc_is_mode : FnScope N_is_mode ["thing"] (defScope s_is_mode) := ⟨rfl, rfl, rfl, by decide +kernel, rfl, by decide +kernel, by decide +kernel⟩
abbrev s_is_time : Stmt := topS 35
abbrev N_is_time : List Str := ["thing"]
theorem sc_is_time : FnScope N_is_time ["thing"] (defScope s_is_time) := ⟨rfl, rfl, rfl, by decide +kernel, rfl, by decide +kernel, by decide +kernel⟩
abbrev s_are_spans : Stmt := topS 38
abbrev N_are_spans : List Str := ["size", "spans", "least", "offset", "length"]
theorem sc_are_spans : FnScope N_are_spans ["size", "spans"] (defScope s_are_spans) := ⟨rfl, rfl, rfl, by decide +kernel, rfl, by decide +kernel, by decide +kernel⟩
theorem paired_mapR {α β γ : Type} {R : α → γ → Prop} {g : β → γ} : ∀ {xs : List α} {ys : List β}, Paired (fun x y => R x (g y)) xs ys → Paired R xs (ys.map g)
  | _, _, .nil => .nil
  | _, _, .cons r t => .cons r (paired_mapR t)
/-! ### the checks, where nothing is refused -/
section
variable {P : Program} {w : World} {K : PySem.W.Frag} {mg : Str → Option Value} {base : Heap}
def spCName : Sp := fun vs H Q _ => ∃ z : Str, vs = [.str z] ∧ nameB z = true ∧ ∀ H', Same H H' → Q .non H'
theorem sp_cname {z : Str} {H : Hp} {Q : VK} {E : XK} (h : nameB z = true) (k : ∀ H', Same H H' → Q .non H') : spCName ([.str z] ++ []) H Q E := ⟨z, rfl, h, k⟩
theorem ok_cname {f : Addr} {fd : FuncData} {k : Nat} (F : Fun K "check_name" "check_name" s_check_name f fd) (c_is_name : CalT P w K mg base 2 "is_name" (spName K)) : FnOk P w K mg base CX0 (k + 3) f fd ["thing"] spCName := by
  refine F.ok sc_check_name (fun vs H Q E h => ?_) (fun cdv A outer s H vs Q E hr h => ?_)
  · obtain ⟨z, rfl, _⟩ := h
    rfl
  · obtain ⟨z, rfl, hz, q⟩ := h
    have hu := hu_of hr
    have nd := sc_check_name.nd
    have hl : z.length ≤ 5000 := by have := (of_name hz).2.1; omega
    refine ⟨_, (pss_one (ps_if (pt_not (pt_val (pe_cc c_is_name hr (by omega) (by rfl) (pa_cons (pv 0) pa_nil))))
        (pss_one ps_never)
        pss_nil)), ?_⟩
    walk_at "rd"
    refine sp_name (.inl ⟨z, rfl, hl⟩) (fun H1 e1 => ?_)
    have hv : nameV (.str z) = true := hz
    rw [hv]
    walk_at "rd"
    exact q _ e1
def spIsData : Sp := fun vs H Q _ => ∃ y : Array UInt8, vs = [.byt y] ∧ y.size ≤ 4096 ∧ Q (.bl true) H
theorem sp_isdata {y : Array UInt8} {H : Hp} {Q : VK} {E : XK} (h : y.size ≤ 4096) (k : Q (.bl true) H) : spIsData ([.byt y] ++ []) H Q E := ⟨y, rfl, h, k⟩
theorem ok_isdata {f : Addr} {fd : FuncData} {k : Nat} {t1 : Tok} (F : Fun K "is_data" "is_data" s_is_data f fd) (m1 : mg "isinstance" = none) (m2 : mg "bytes" = none) (m3 : mg "len" = none) (m_MB : mg "MOST_BYTES" = some (.int 4096 t1)) : FnOk P w K mg base CX0 (k + 2) f fd ["thing"] spIsData := by
  refine F.ok sc_is_data (fun vs H Q E h => ?_) (fun cdv A outer s H vs Q E hr h => ?_)
  · obtain ⟨z, rfl, _⟩ := h
    rfl
  · obtain ⟨y, rfl, hz, q⟩ := h
    have hu := hu_of hr
    have nd := sc_is_data.nd
    refine ⟨_, (pss_one (ps_ret (pe_and (pe_callB (call_isiK1 K) (by rfl) (by assumption) (by decide +kernel) (pa_cons (pv 0) (pa_cons (pe_bltn (v := .ty "bytes") (by rfl) (by assumption) (by decide +kernel) rfl) pa_nil))) (pe_one (pe_cmpR op_le (pe_callB call_rLenY (by rfl) (by assumption) (by decide +kernel) (pa_cons (pv 0) pa_nil)) (pe_glob (v := .int 4096) (by rfl) m_MB (by first | exact rfl | exact ⟨_, rfl⟩)) (nomark _)))))), ?_⟩
    walk_at "rd"
    rw [decide_eq_true (by omega : (y.size : Int) ≤ 4096)]
    exact q
def spCData : Sp := fun vs H Q _ => ∃ y : Array UInt8, vs = [.byt y] ∧ y.size ≤ 4096 ∧ ∀ H', Same H H' → Q .non H'
theorem sp_cdata {y : Array UInt8} {H : Hp} {Q : VK} {E : XK} (h : y.size ≤ 4096) (k : ∀ H', Same H H' → Q .non H') : spCData ([.byt y] ++ []) H Q E := ⟨y, rfl, h, k⟩
theorem ok_cdata {f : Addr} {fd : FuncData} {k : Nat} (F : Fun K "check_data" "check_data" s_check_data_members f fd) (c_isdata : CalT P w K mg base 2 "is_data" spIsData) : FnOk P w K mg base CX0 (k + 3) f fd ["thing"] spCData := by
  refine F.ok sc_check_data_members (fun vs H Q E h => ?_) (fun cdv A outer s H vs Q E hr h => ?_)
  · obtain ⟨z, rfl, _⟩ := h
    rfl
  · obtain ⟨y, rfl, hz, q⟩ := h
    have hu := hu_of hr
    have nd := sc_check_data_members.nd
    refine ⟨_, (pss_one (ps_if (pt_not (pt_val (pe_cc c_isdata hr (by omega) (by rfl) (pa_cons (pv 0) pa_nil))))
        (pss_one ps_never)
        pss_nil)), ?_⟩
    walk_at "rd"
    refine sp_isdata hz ?_
    walk_at "rd"
    exact q _ (Same.refl _)
def spIn (lo hi : Int) : Sp := fun vs H Q _ => ∃ i : Int, vs = [.int i] ∧ Q (.bl (decide (lo ≤ i) && decide (i ≤ hi))) H
theorem sp_in {lo hi i : Int} {H : Hp} {Q : VK} {E : XK} (h0 : lo ≤ i) (h1 : i ≤ hi) (k : Q (.bl true) H) : spIn lo hi ([.int i] ++ []) H Q E := ⟨i, rfl, by rw [decide_eq_true h0, decide_eq_true h1]; exact k⟩
theorem ok_issize {f : Addr} {fd : FuncData} {k : Nat} {t1 : Tok} (F : Fun K "is_size" "is_size" s_is_size f fd) (m_MB : mg "MOST_BYTES" = some (.int 4096 t1)) (c_within : CalT P w K mg base 2 "is_integer_within" spWithin) : FnOk P w K mg base CX0 (k + 3) f fd ["thing"] (spIn 0 4096) := by
  refine F.ok sc_is_size (fun vs H Q E h => ?_) (fun cdv A outer s H vs Q E hr h => ?_)
  · obtain ⟨z, rfl, _⟩ := h
    rfl
  · obtain ⟨y, rfl, q⟩ := h
    have hu := hu_of hr
    have nd := sc_is_size.nd
    refine ⟨_, (pss_one (ps_ret (pe_cc c_within hr (by omega) (by rfl) (pa_cons (pv 0) (pa_cons pe_int (pa_cons (pe_glob (v := .int 4096) (by rfl) m_MB (by first | exact rfl | exact ⟨_, rfl⟩)) pa_nil)))))), ?_⟩
    walk_at "rd"
    refine sp_within ?_
    exact q
theorem ok_ismode {f : Addr} {fd : FuncData} {k : Nat} {t1 : Tok} (F : Fun K "is_mode" "is_mode" s_is_mode f fd) (m_LM : mg "LAST_MODE" = some (.int 4095 t1)) (c_within : CalT P w K mg base 2 "is_integer_within" spWithin) : FnOk P w K mg base CX0 (k + 3) f fd ["thing"] (spIn 0 4095) := by
  refine F.ok sc_is_mode (fun vs H Q E h => ?_) (fun cdv A outer s H vs Q E hr h => ?_)
  · obtain ⟨z, rfl, _⟩ := h
    rfl
  · obtain ⟨y, rfl, q⟩ := h
    have hu := hu_of hr
    have nd := sc_is_mode.nd
    refine ⟨_, (pss_one (ps_ret (pe_cc c_within hr (by omega) (by rfl) (pa_cons (pv 0) (pa_cons pe_int (pa_cons (pe_glob (v := .int 4095) (by rfl) m_LM (by first | exact rfl | exact ⟨_, rfl⟩)) pa_nil)))))), ?_⟩
    walk_at "rd"
    refine sp_within ?_
    exact q
theorem ok_istime {f : Addr} {fd : FuncData} {k : Nat} {t1 : Tok} (F : Fun K "is_time" "is_time" s_is_time f fd) (m_LT : mg "LAST_TIME" = some (.int 8589934591 t1)) (c_within : CalT P w K mg base 2 "is_integer_within" spWithin) : FnOk P w K mg base CX0 (k + 3) f fd ["thing"] (spIn 0 8589934591) := by
  refine F.ok sc_is_time (fun vs H Q E h => ?_) (fun cdv A outer s H vs Q E hr h => ?_)
  · obtain ⟨z, rfl, _⟩ := h
    rfl
  · obtain ⟨y, rfl, q⟩ := h
    have hu := hu_of hr
    have nd := sc_is_time.nd
    refine ⟨_, (pss_one (ps_ret (pe_cc c_within hr (by omega) (by rfl) (pa_cons (pv 0) (pa_cons pe_int (pa_cons (pe_glob (v := .int 8589934591) (by rfl) m_LT (by first | exact rfl | exact ⟨_, rfl⟩)) pa_nil)))))), ?_⟩
    walk_at "rd"
    refine sp_within ?_
    exact q
def spStamp : Sp := fun vs H Q _ => ∃ b t : Int, vs = [.int b, .int t] ∧ 0 ≤ b ∧ b ≤ 4095 ∧ 0 ≤ t ∧ t ≤ 8589934591 ∧ ∀ H', Same H H' → Q .non H'
theorem sp_stamp {b t : Int} {H : Hp} {Q : VK} {E : XK} (h0 : 0 ≤ b) (h1 : b ≤ 4095) (h2 : 0 ≤ t) (h3 : t ≤ 8589934591) (k : ∀ H', Same H H' → Q .non H') : spStamp ([.int b, .int t] ++ []) H Q E := ⟨b, t, rfl, h0, h1, h2, h3, k⟩
theorem ok_stamp {f : Addr} {fd : FuncData} {k : Nat} (F : Fun K "check_mode_and_time" "check_mode_and_time" s_check_mode_and_time f fd) (c_ismode : CalT P w K mg base 3 "is_mode" (spIn 0 4095)) (c_istime : CalT P w K mg base 3 "is_time" (spIn 0 8589934591)) : FnOk P w K mg base CX0 (k + 4) f fd ["mode", "time"] spStamp := by
  refine F.ok sc_check_mode_and_time (fun vs H Q E h => ?_) (fun cdv A outer s H vs Q E hr h => ?_)
  · obtain ⟨b, t, rfl, _⟩ := h
    rfl
  · obtain ⟨b, t, rfl, h0, h1, h2, h3, q⟩ := h
    have hu := hu_of hr
    have nd := sc_check_mode_and_time.nd
    refine ⟨_, (pss_cons (ps_if (pt_not (pt_val (pe_cc c_ismode hr (by omega) (by rfl) (pa_cons (pv 0) pa_nil))))
        (pss_one ps_never)
        pss_nil)
      (pss_one (ps_if (pt_not (pt_val (pe_cc c_istime hr (by omega) (by rfl) (pa_cons (pv 1) pa_nil))))
        (pss_one ps_never)
        pss_nil))), ?_⟩
    walk_at "rd"
    refine sp_in h0 h1 ?_
    walk_at "rd"
    refine sp_in h2 h3 ?_
    walk_at "rd"
    exact q _ (Same.refl _)
/-! ### pieces, as the program has them: a tuple of pairs of an int and bytes -/
def PcsT (H : Hp) (p : Addr) (ps : List (Int × Array UInt8)) : Prop := ∃ as : List Addr, H p = some (.tup (as.map V.ref)) ∧ Paired (fun q (s : Int × Array UInt8) => H q = some (.tup [.int s.1, .byt s.2])) as ps
def pcsOk (z : Int) (ps : List (Int × Array UInt8)) : Prop := spansOk z 0 (ps.map fun s => (s.1, (s.2.size : Int)))
theorem PcsT.same {H H' : Hp} {p : Addr} {ps : List (Int × Array UInt8)} (e : Same H H') (h : PcsT H p ps) : PcsT H' p ps := by
  obtain ⟨as, h1, h2⟩ := h
  exact ⟨as, e _ _ h1, Paired.mapP h2 fun q s z => e _ _ z⟩
def spPiece : Sp := fun vs H Q _ => ∃ (p : Addr) (o : Int) (y : Array UInt8), vs = [.ref p] ∧ H p = some (.tup [.int o, .byt y]) ∧ 0 ≤ o ∧ o ≤ 4096 ∧ Q (.bl true) H
theorem sp_piece {p : Addr} {o : Int} {y : Array UInt8} {H : Hp} {Q : VK} {E : XK} (hp : H p = some (.tup [.int o, .byt y])) (h1 : 0 ≤ o) (h2 : o ≤ 4096) (k : Q (.bl true) H) : spPiece ([.ref p] ++ []) H Q E := ⟨p, o, y, rfl, hp, h1, h2, k⟩
theorem ok_piece {f : Addr} {fd : FuncData} {k : Nat} {t1 : Tok} (F : Fun K "is_piece" "is_piece" s_is_piece f fd) (m1 : mg "isinstance" = none) (m2 : mg "tuple" = none) (m3 : mg "len" = none) (m4 : mg "bytes" = none) (m_MB : mg "MOST_BYTES" = some (.int 4096 t1)) (c_within : CalT P w K mg base 2 "is_integer_within" spWithin) :
    FnOk P w K mg base CX0 (k + 3) f fd ["thing"] spPiece := by
  refine F.ok sc_is_piece (fun vs H Q E h => ?_) (fun cdv A outer s H vs Q E hr h => ?_)
  · obtain ⟨p, o, y, rfl, _⟩ := h
    rfl
  · obtain ⟨p, o, y, rfl, hp, h1, h2, q⟩ := h
    have hu := hu_of hr
    have nd := sc_is_piece.nd
    refine ⟨_, (pss_cons (ps_if (PW.pt (pw_or (pt_not (pt_val (pe_callB (call_isiK1 K) (by rfl) (by assumption) (by decide +kernel) (pa_cons (pv 0) (pa_cons (pe_bltn (v := .ty "tuple") (by rfl) (by assumption) (by decide +kernel) rfl) pa_nil))))) (pw_or1 (pt_cmpR op_ne (pe_callB (call_lenK K) (by rfl) (by assumption) (by decide +kernel) (pa_cons (pv 0) pa_nil)) pe_int (nomark _)))))
        (pss_one (ps_ret pe_bl))
        pss_nil)
      (pss_one (ps_ret (pe_and (pe_cc c_within hr (by omega) (by rfl) (pa_cons (pe_ix (ix_tupK K) (pv 0) pe_int (fun _ _ => rfl)) (pa_cons pe_int (pa_cons (pe_glob (v := .int 4096) (by rfl) m_MB (by first | exact rfl | exact ⟨_, rfl⟩)) pa_nil)))) (pe_one (pe_callB (call_isiK1 K) (by rfl) (by assumption) (by decide +kernel) (pa_cons (pe_ix (ix_tupK K) (pv 0) pe_int (fun _ _ => rfl)) (pa_cons (pe_bltn (v := .ty "bytes") (by rfl) (by assumption) (by decide +kernel) rfl) pa_nil)))))))), ?_⟩
    walk_at "rd"
    refine sp_within ?_
    rw [decide_eq_true h1, decide_eq_true h2, Bool.true_and]
    walk_at "rd"
    exact q
/-! ### spans: a list of pairs of ints -/
def SpnL (H : Hp) (p : Addr) (sp : List (Int × Int)) : Prop := ∃ as : List Addr, H p = some (.lst (as.map V.ref)) ∧ Paired (fun q (s : Int × Int) => H q = some (.tup [.int s.1, .int s.2])) as sp
def spASpans : Sp := fun vs H Q _ => ∃ (z : Int) (p : Addr) (sp : List (Int × Int)), vs = [.int z, .ref p] ∧ SpnL H p sp ∧ spansOk z 0 sp ∧ z ≤ 4096 ∧ sp.length ≤ 50 ∧ ∀ H', Same H H' → Q (.bl true) H'
theorem sp_aspans {z : Int} {p : Addr} {sp : List (Int × Int)} {H : Hp} {Q : VK} {E : XK} (hp : SpnL H p sp) (h1 : spansOk z 0 sp) (h2 : z ≤ 4096) (h3 : sp.length ≤ 50) (k : ∀ H', Same H H' → Q (.bl true) H') : spASpans ([.int z, .ref p] ++ []) H Q E := ⟨z, p, sp, rfl, hp, h1, h2, h3, k⟩
theorem ok_aspans {f : Addr} {fd : FuncData} {k : Nat} {t1 : Tok} (F : Fun K "are_spans" "are_spans" s_are_spans f fd) (m3 : mg "len" = none) (m_MP : mg "MOST_PIECES" = some (.int 50 t1)) : FnOk P w K mg base CX0 (k + 2) f fd ["size", "spans"] spASpans := by
  refine F.ok sc_are_spans (fun vs H Q E h => ?_) (fun cdv A outer s H vs Q E hr h => ?_)
  · obtain ⟨z, p, ps, rfl, _⟩ := h
    rfl
  · obtain ⟨z, p, ps, rfl, ⟨as, hp, hpd⟩, hok, hz, hn, q⟩ := h
    have hu := hu_of hr
    have nd := sc_are_spans.nd
    have hlen : (as.map V.ref).length = ps.length := by rw [List.length_map]; exact hpd.length
    refine ⟨_, (pss_cons (ps_if (pt_cmpR op_gt (pe_callB (call_lenK K) (by rfl) (by assumption) (by decide +kernel) (pa_cons (pv 1) pa_nil)) (pe_glob (v := .int 50) (by rfl) m_MP (by first | exact rfl | exact ⟨_, rfl⟩)) (nomark _))
        (pss_one (ps_ret pe_bl))
        pss_nil)
      (pss_cons (ps_set (i := 2) nd rfl (Or.inl rfl) pe_int)
      (pss_cons (ps_for PassesOwn.never rfl (pi_list (pv 1)) (pg_tupK K (pg_tup rfl (pgs_cons (pg_name (i := 3) nd rfl (Or.inl rfl)) (pgs_cons (pg_name (i := 4) nd rfl (Or.inl rfl)) pgs_nil))))
        (pss_cons (ps_if (PW.pt (pw_or (pt_cmpR op_lt (pv 3) (pv 2) (nomark _)) (pw_or (pt_cmpR op_lt (pv 4) pe_int (nomark _)) (pw_or1 (pt_cmpR op_gt (pe_op op_add (pv 3) (pv 4)) (pv 0) (nomark _))))))
        (pss_one (ps_ret pe_bl))
        pss_nil)
      (pss_one (ps_set (i := 2) nd rfl (Or.inl rfl) (pe_op op_add (pe_op op_add (pv 3) (pv 4)) pe_int)))))
      (pss_one (ps_ret pe_bl))))), ?_⟩
    walk_at "rd"
    refine r_iteD (fun h => absurd h (by omega)) (fun _ => ?_)
    walk_at "rd"
    refine for_it (walk_list (xs := as.map V.ref)) (fun i σ H' => ∃ (l : Int) (v1 v2 : Option V), σ = [some (.int z), some (.ref p), some (.int l), v1, v2] ∧ Same H H' ∧ 0 ≤ l ∧ spansOk z l (ps.drop i)) ?_ (fun i σ H' _ ⟨_, _, _, _, e, _⟩ => SqL.of (e _ _ hp)) ?_ ?_
    · exact ⟨0, _, _, rfl, Same.refl _, Int.le_refl 0, hok⟩
    · rintro i x σ Hc H' hi ⟨l, v1, v2, rfl, e, hl, hs⟩ ⟨rfl, hx⟩
      rw [List.getElem?_map] at hx
      obtain ⟨qa, hqa, rfl⟩ : ∃ qa, as[i]? = some qa ∧ V.ref qa = x := by
        cases e : as[i]? with
        | none => rw [e] at hx; cases hx
        | some qa => rw [e] at hx; exact ⟨qa, rfl, Option.some.inj hx⟩
      obtain ⟨s, hsi, hqt⟩ := paired_at hpd hqa
      have hq' := e _ _ hqt
      have hdrop : ps.drop i = s :: ps.drop (i + 1) := by
        obtain ⟨hlt, hge⟩ := List.getElem?_eq_some_iff.mp hsi
        rw [← hge]
        exact List.drop_eq_getElem_cons hlt
      rw [hdrop] at hs
      obtain ⟨g1, g2, g3, g4⟩ := hs
      have g1' : l ≤ s.1 := g1
      have g2' : 1 ≤ s.2 := g2
      have g3' : s.1 + s.2 ≤ z := g3
      walk_at "rd"
      refine r_iteD (fun h => absurd h (by omega)) (fun _ => ?_)
      walk_at "rd"
      refine r_iteD (fun h => absurd h (by omega)) (fun _ => ?_)
      walk_at "rd"
      refine r_iteD (fun h => absurd h (by omega)) (fun _ => ?_)
      walk_at "rd"
      exact ⟨_, _, _, rfl, e, by omega, g4⟩
    · rintro σ Hc ⟨l, v1, v2, rfl, e, _⟩
      walk_at "rd"
      exact q _ e
def spAPieces : Sp := fun vs H Q _ => ∃ (z : Int) (p : Addr) (ps : List (Int × Array UInt8)), vs = [.int z, .ref p] ∧ PcsT H p ps ∧ pcsOk z ps ∧ z ≤ 4096 ∧ ps.length ≤ 50 ∧ ∀ H', Same H H' → Q (.bl true) H'
theorem sp_apieces {z : Int} {p : Addr} {ps : List (Int × Array UInt8)} {H : Hp} {Q : VK} {E : XK} (hp : PcsT H p ps) (h1 : pcsOk z ps) (h2 : z ≤ 4096) (h3 : ps.length ≤ 50) (k : ∀ H', Same H H' → Q (.bl true) H') : spAPieces ([.int z, .ref p] ++ []) H Q E := ⟨z, p, ps, rfl, hp, h1, h2, h3, k⟩
theorem ok_apieces {f : Addr} {fd : FuncData} {k : Nat} (F : Fun K "are_pieces" "are_pieces" s_are_pieces f fd) (m3 : mg "len" = none) (m4 : mg "all" = none) (c_piece : CalT P w K mg base 3 "is_piece" spPiece) (c_aspans : CalT P w K mg base 2 "are_spans" spASpans) :
    FnOk P w K mg base CX0 (k + 4) f fd ["size", "pieces"] spAPieces := by
  refine F.ok sc_are_pieces (fun vs H Q E h => ?_) (fun cdv A outer s H vs Q E hr h => ?_)
  · obtain ⟨z, p, ps, rfl, _⟩ := h
    rfl
  · obtain ⟨z, p, ps, rfl, ⟨as, hp, hpd⟩, hok, hz, hn, q⟩ := h
    have hu := hu_of hr
    have nd := sc_are_pieces.nd
    have hal : as.length = ps.length := hpd.length
    have hall : ∀ s ∈ ps, 0 ≤ s.1 ∧ 1 ≤ (s.2.size : Int) ∧ s.1 + (s.2.size : Int) ≤ z := fun s hs => spansOk_all (Int.le_refl 0) hok (s.1, (s.2.size : Int)) (List.mem_map.mpr ⟨s, hs, rfl⟩)
    refine ⟨_, (pss_cons (ps_if (pt_not (pt_val (pe_callB (call_allK K) (by rfl) (by assumption) (by decide +kernel) (pa_cons (pe_lc (own := [("piece", 4)]) (g := (gName 4)) (tt := tYes) rfl nd (pi_tup (pv 1)) (blkOk_by (N := N_are_pieces) (sc := defScope s_are_pieces) (by decide +kernel)) (fun _ _ _ _ _ => (pg_name (i := 4) nd rfl (Or.inl rfl))) (fun _ _ _ _ _ => pts_nil) (fun _ _ _ _ _ => (pe_cc c_piece hr (by omega) (by rfl) (pa_cons (pv 4) pa_nil)))) pa_nil))))
        (pss_one (ps_ret pe_bl))
        pss_nil)
      (pss_one (ps_ret (pe_cc c_aspans hr (by omega) (by rfl) (pa_cons (pv 0) (pa_cons (pe_lc (own := [("offset", 2), ("data", 3)]) (g := (gTup K 2 (gCons (gName 2) (gCons (gName 3) gNil)))) (tt := tYes) rfl nd (pi_tup (pv 1)) (blkOk_by (N := N_are_pieces) (sc := defScope s_are_pieces) (by decide +kernel)) (fun _ _ _ _ _ => (pg_tupK K (pg_tup rfl (pgs_cons (pg_name (i := 2) nd rfl (Or.inl rfl)) (pgs_cons (pg_name (i := 3) nd rfl (Or.inl rfl)) pgs_nil))))) (fun _ _ _ _ _ => pts_nil) (fun _ _ _ _ _ => (pe_tup (pa_cons (pv 2) (pa_cons (pe_callB call_rLenY (by rfl) (by assumption) (by decide +kernel) (pa_cons (pv 3) pa_nil)) pa_nil))))) pa_nil)))))), ?_⟩
    walk_at "rd"
    intro D hD
    refine lc_it (walk_tup (xs := as.map V.ref)) (fun i H' => Same H H' ∧ H' D = some (.lst ((List.replicate i true).map V.bl))) ⟨same_new hD, upd_same⟩ (fun i H' _ ⟨e, _⟩ => SqT.of (e _ _ hp)) ?_ ?_
    · rintro i x Hc H' hi ⟨e, hb⟩ ⟨rfl, hx⟩
      rw [List.getElem?_map] at hx
      obtain ⟨qa, hqa, rfl⟩ : ∃ qa, as[i]? = some qa ∧ V.ref qa = x := by
        cases e : as[i]? with
        | none => rw [e] at hx; cases hx
        | some qa => rw [e] at hx; exact ⟨qa, rfl, Option.some.inj hx⟩
      obtain ⟨s, hsi, hqt⟩ := paired_at hpd hqa
      have hq' := e _ _ hqt
      obtain ⟨a1, a2, a3⟩ := hall s (List.mem_of_getElem? hsi)
      rw [List.length_map] at hi
      walk_at "rd"
      refine ⟨rfl, ?_⟩
      unfold tYes
      dsimp only
      rw [if_pos rfl]
      walk_at "rd"
      refine sp_piece hq' a1 (by omega) ?_
      refine ⟨_, hb, ?_, fun b o eo => ?_, ?_⟩
      · rw [List.length_map, List.length_replicate]
        exact Nat.lt_of_lt_of_le (by omega : i < 51) (by decide)
      · rw [upd_ne (ne_of_none eo hD)]
        exact e _ _ eo
      · rw [upd_same, List.replicate_succ', List.map_append]
        rfl
    · rintro H1 ⟨e, hb⟩
      refine r_nil ?_
      refine r_all (bs := List.replicate (as.map V.ref).length true) (SqL.of hb) ?_
      rw [show (List.replicate (as.map V.ref).length true).all id = true from by simp [List.all_replicate]]
      have hp1 := e _ _ hp
      walk_at "rd"
      intro D2 hD2
      refine lc_it (walk_tup (xs := as.map V.ref)) (fun i H' => Same H1 H' ∧ ∃ bs : List Addr, H' D2 = some (.lst (bs.map V.ref)) ∧ Paired (fun q (s : Int × Array UInt8) => q ≠ D2 ∧ H' q = some (.tup [.int s.1, .int (s.2.size : Int)])) bs (ps.take i)) ?_ (fun i H' _ ⟨e', _⟩ => SqT.of (e' _ _ hp1)) ?_ ?_
      · exact ⟨same_new hD2, [], upd_same, .nil⟩
      · rintro i x Hc H' hi ⟨e', bs, hb', hbp⟩ ⟨rfl, hx⟩
        rw [List.getElem?_map] at hx
        obtain ⟨qa, hqa, rfl⟩ : ∃ qa, as[i]? = some qa ∧ V.ref qa = x := by
          cases e : as[i]? with
          | none => rw [e] at hx; cases hx
          | some qa => rw [e] at hx; exact ⟨qa, rfl, Option.some.inj hx⟩
        obtain ⟨s, hsi, hqt⟩ := paired_at hpd hqa
        have hq' := e' _ _ (e _ _ hqt)
        obtain ⟨a1, a2, a3⟩ := hall s (List.mem_of_getElem? hsi)
        have hy : s.2.size ≤ 100000 := by omega
        walk_at "rd"
        refine ⟨rfl, ?_⟩
        unfold tYes
        dsimp only
        rw [if_pos rfl]
        walk_at "rd"
        rename_i T hT
        have nTD : T ≠ D2 := (ne_of_none hb' hT).symm
        have hbl : (bs.map V.ref).length ≤ 50 := by
          rw [List.length_map, hbp.length, List.length_take]
          omega
        refine ⟨_, upd_old hT hb', Nat.lt_of_le_of_lt hbl (by decide), fun b o eo => ?_, bs ++ [T], by rw [upd_same, List.map_append]; rfl, ?_⟩
        · have h2 := e' _ _ eo
          rw [upd_ne (ne_of_none eo hD2), upd_ne (ne_of_none h2 hT)]
          exact h2
        · rw [take_snoc hsi]
          refine paired_snoc (Paired.mapP hbp fun y s ⟨n1, g1⟩ => ⟨n1, ?_⟩) ⟨nTD, ?_⟩
          · rw [upd_ne n1, upd_ne (ne_of_none g1 hT)]
            exact g1
          · rw [upd_ne nTD, upd_same]
      · rintro H2 ⟨e', bs, hb', hbp⟩
        rw [List.length_map, hal, List.take_length] at hbp
        refine r_nil ?_
        refine sp_aspans (sp := ps.map fun s => (s.1, (s.2.size : Int))) ⟨bs, hb', paired_mapR (Paired.mapP hbp fun y s ⟨_, g1⟩ => g1)⟩ hok hz (by rw [List.length_map]; exact hn) (fun H3 e3 => ?_)
        walk_at "rd"
        exact q _ ((e.trans e').trans e3)
def spCPieces : Sp := fun vs H Q _ => ∃ (z : Int) (p : Addr) (ps : List (Int × Array UInt8)), vs = [.int z, .ref p] ∧ PcsT H p ps ∧ pcsOk z ps ∧ 0 ≤ z ∧ z ≤ 4096 ∧ ps.length ≤ 50 ∧ ∀ H', Same H H' → Q .non H'
theorem sp_cpieces {z : Int} {p : Addr} {ps : List (Int × Array UInt8)} {H : Hp} {Q : VK} {E : XK} (hp : PcsT H p ps) (h1 : pcsOk z ps) (h0 : 0 ≤ z) (h2 : z ≤ 4096) (h3 : ps.length ≤ 50) (k : ∀ H', Same H H' → Q .non H') : spCPieces ([.int z, .ref p] ++ []) H Q E := ⟨z, p, ps, rfl, hp, h1, h0, h2, h3, k⟩
theorem ok_cpieces {f : Addr} {fd : FuncData} {k : Nat} (F : Fun K "check_pieces" "check_pieces" s_check_pieces f fd) (c_issize : CalT P w K mg base 3 "is_size" (spIn 0 4096)) (c_apieces : CalT P w K mg base 4 "are_pieces" spAPieces) :
    FnOk P w K mg base CX0 (k + 5) f fd ["size", "pieces"] spCPieces := by
  refine F.ok sc_check_pieces (fun vs H Q E h => ?_) (fun cdv A outer s H vs Q E hr h => ?_)
  · obtain ⟨z, p, ps, rfl, _⟩ := h
    rfl
  · obtain ⟨z, p, ps, rfl, hp, hok, h0, h1, hn, q⟩ := h
    have hu := hu_of hr
    have nd := sc_check_pieces.nd
    refine ⟨_, (pss_cons (ps_if (pt_not (pt_val (pe_cc c_issize hr (by omega) (by rfl) (pa_cons (pv 0) pa_nil))))
        (pss_one ps_never)
        pss_nil)
      (pss_one (ps_if (pt_not (pt_val (pe_cc c_apieces hr (by omega) (by rfl) (pa_cons (pv 0) (pa_cons (pv 1) pa_nil)))))
        (pss_one ps_never)
        pss_nil))), ?_⟩
    walk_at "rd"
    refine sp_in h0 h1 ?_
    walk_at "rd"
    refine sp_apieces hp hok h1 hn (fun H1 e1 => ?_)
    walk_at "rd"
    exact q _ e1
end
/-! ### the members' __init__ -/
/-- all that was there stays, but for x -/
def Frame (x : Addr) (H H' : Hp) : Prop := ∀ b o, b ≠ x → H b = some o → H' b = some o
def fileF (n : Str) (y : Array UInt8) (b t : Int) : List (Str × V) := putF "time" (.int t) (putF "mode" (.int b) (putF "data" (.byt y) (putF "name" (.str n) [])))
def dirF (n : Str) (b t : Int) : List (Str × V) := putF "time" (.int t) (putF "mode" (.int b) (putF "name" (.str n) []))
def symF (n g : Str) (b t : Int) : List (Str × V) := putF "time" (.int t) (putF "mode" (.int b) (putF "target" (.str g) (putF "name" (.str n) [])))
section
variable {P : Program} {w : World} {K : PySem.W.Frag} {mg : Str → Option Value} {base : Heap}
def spFileI (C : Addr) : Sp := fun vs H Q _ => ∃ (x dx : Addr) (n : Str) (y : Array UInt8) (b t : Int), vs = [.ref x, .str n, .byt y, .int b, .int t] ∧ H x = some (.ins C dx []) ∧ stampOk n b t ∧ y.size ≤ 4096 ∧ ∀ H', Frame x H H' → H' x = some (.ins C dx (fileF n y b t)) → Q .non H'
theorem ok_fileI {f C : Addr} {fd : FuncData} {k : Nat} (F : FunD K "__init__" "File.__init__" (defArgs s_File___init__) (defBody s_File___init__) (defScope s_File___init__) [] [("mode", .int 420), ("time", .int 0)] f fd) (hc : Cls K C)
    (a1 : NoAttr K C "name") (a2 : NoAttr K C "data") (a3 : NoAttr K C "mode") (a4 : NoAttr K C "time") (c_cname : CalT P w K mg base 3 "check_name" spCName) (c_cdata : CalT P w K mg base 3 "check_data_members" spCData) (c_stamp : CalT P w K mg base 4 "check_mode_and_time" spStamp) :
    FnOk P w K mg base CX0 (k + 5) f fd ["self", "name", "data", "mode", "time"] (spFileI C) := by
  refine funD_ok0 F sc_File___init__ (fun vs H Q E h => ?_) (fun cdv A outer s H vs Q E hr h => ?_)
  · obtain ⟨x, dx, n, y, b, t, rfl, _⟩ := h
    rfl
  · obtain ⟨x, dx, n, y, b, t, rfl, hx, ⟨s1, s2, s3, s4, s5⟩, hy, q⟩ := h
    have hu := hu_of hr
    have nd := sc_File___init__.nd
    refine ⟨_, (pss_cons (ps_expr (pe_cc c_cname hr (by omega) (by rfl) (pa_cons (pv 1) pa_nil)))
      (pss_cons (ps_expr (pe_cc c_cdata hr (by omega) (by rfl) (pa_cons (pv 2) pa_nil)))
      (pss_cons (ps_expr (pe_cc c_stamp hr (by omega) (by rfl) (pa_cons (pv 3) (pa_cons (pv 4) pa_nil))))
      (pss_cons (ps_fld (pv 0) (pv 1) rfl)
      (pss_cons (ps_fld (pv 0) (pv 2) rfl)
      (pss_cons (ps_fld (pv 0) (pv 3) rfl)
      (pss_one (ps_fld (pv 0) (pv 4) rfl)))))))), ?_⟩
    walk_at "rd"
    refine sp_cname s1 (fun H1 e1 => ?_)
    walk_at "rd"
    refine sp_cdata hy (fun H2 e2 => ?_)
    walk_at "rd"
    refine sp_stamp s2 s3 s4 s5 (fun H3 e3 => ?_)
    have hx3 := e3 _ _ (e2 _ _ (e1 _ _ hx))
    walk_at "rd"
    refine q _ (fun b o nb e => ?_) upd_same
    rw [upd_ne nb, upd_ne nb, upd_ne nb, upd_ne nb]
    exact e3 _ _ (e2 _ _ (e1 _ _ e))
def spDirI (C : Addr) : Sp := fun vs H Q _ => ∃ (x dx : Addr) (n : Str) (b t : Int), vs = [.ref x, .str n, .int b, .int t] ∧ H x = some (.ins C dx []) ∧ stampOk n b t ∧ ∀ H', Frame x H H' → H' x = some (.ins C dx (dirF n b t)) → Q .non H'
theorem ok_dirI {f C : Addr} {fd : FuncData} {k : Nat} (F : FunD K "__init__" "Directory.__init__" (defArgs s_Directory___init__) (defBody s_Directory___init__) (defScope s_Directory___init__) [] [("mode", .int 493), ("time", .int 0)] f fd) (hc : Cls K C)
    (a1 : NoAttr K C "name") (a3 : NoAttr K C "mode") (a4 : NoAttr K C "time") (c_cname : CalT P w K mg base 3 "check_name" spCName) (c_stamp : CalT P w K mg base 4 "check_mode_and_time" spStamp) :
    FnOk P w K mg base CX0 (k + 5) f fd ["self", "name", "mode", "time"] (spDirI C) := by
  refine funD_ok0 F sc_Directory___init__ (fun vs H Q E h => ?_) (fun cdv A outer s H vs Q E hr h => ?_)
  · obtain ⟨x, dx, n, b, t, rfl, _⟩ := h
    rfl
  · obtain ⟨x, dx, n, b, t, rfl, hx, ⟨s1, s2, s3, s4, s5⟩, q⟩ := h
    have hu := hu_of hr
    have nd := sc_Directory___init__.nd
    refine ⟨_, (pss_cons (ps_expr (pe_cc c_cname hr (by omega) (by rfl) (pa_cons (pv 1) pa_nil)))
      (pss_cons (ps_expr (pe_cc c_stamp hr (by omega) (by rfl) (pa_cons (pv 2) (pa_cons (pv 3) pa_nil))))
      (pss_cons (ps_fld (pv 0) (pv 1) rfl)
      (pss_cons (ps_fld (pv 0) (pv 2) rfl)
      (pss_one (ps_fld (pv 0) (pv 3) rfl)))))), ?_⟩
    walk_at "rd"
    refine sp_cname s1 (fun H1 e1 => ?_)
    walk_at "rd"
    refine sp_stamp s2 s3 s4 s5 (fun H3 e3 => ?_)
    have hx3 := e3 _ _ (e1 _ _ hx)
    walk_at "rd"
    refine q _ (fun b o nb e => ?_) upd_same
    rw [upd_ne nb, upd_ne nb, upd_ne nb]
    exact e3 _ _ (e1 _ _ e)
def spSymI (C : Addr) : Sp := fun vs H Q _ => ∃ (x dx : Addr) (n g : Str) (b t : Int), vs = [.ref x, .str n, .str g, .int b, .int t] ∧ H x = some (.ins C dx []) ∧ stampOk n b t ∧ nameB g = true ∧ ∀ H', Frame x H H' → H' x = some (.ins C dx (symF n g b t)) → Q .non H'
theorem ok_symI {f C : Addr} {fd : FuncData} {k : Nat} (F : FunD K "__init__" "Symlink.__init__" (defArgs s_Symlink___init__) (defBody s_Symlink___init__) (defScope s_Symlink___init__) [] [("mode", .int 511), ("time", .int 0)] f fd) (hc : Cls K C)
    (a1 : NoAttr K C "name") (a2 : NoAttr K C "target") (a3 : NoAttr K C "mode") (a4 : NoAttr K C "time") (c_cname : CalT P w K mg base 3 "check_name" spCName) (c_stamp : CalT P w K mg base 4 "check_mode_and_time" spStamp) :
    FnOk P w K mg base CX0 (k + 5) f fd ["self", "name", "target", "mode", "time"] (spSymI C) := by
  refine funD_ok0 F sc_Symlink___init__ (fun vs H Q E h => ?_) (fun cdv A outer s H vs Q E hr h => ?_)
  · obtain ⟨x, dx, n, g, b, t, rfl, _⟩ := h
    rfl
  · obtain ⟨x, dx, n, g, b, t, rfl, hx, ⟨s1, s2, s3, s4, s5⟩, hg, q⟩ := h
    have hu := hu_of hr
    have nd := sc_Symlink___init__.nd
    refine ⟨_, (pss_cons (ps_expr (pe_cc c_cname hr (by omega) (by rfl) (pa_cons (pv 1) pa_nil)))
      (pss_cons (ps_expr (pe_cc c_cname hr (by omega) (by rfl) (pa_cons (pv 2) pa_nil)))
      (pss_cons (ps_expr (pe_cc c_stamp hr (by omega) (by rfl) (pa_cons (pv 3) (pa_cons (pv 4) pa_nil))))
      (pss_cons (ps_fld (pv 0) (pv 1) rfl)
      (pss_cons (ps_fld (pv 0) (pv 2) rfl)
      (pss_cons (ps_fld (pv 0) (pv 3) rfl)
      (pss_one (ps_fld (pv 0) (pv 4) rfl)))))))), ?_⟩
    walk_at "rd"
    refine sp_cname s1 (fun H1 e1 => ?_)
    walk_at "rd"
    refine sp_cname hg (fun H2 e2 => ?_)
    walk_at "rd"
    refine sp_stamp s2 s3 s4 s5 (fun H3 e3 => ?_)
    have hx3 := e3 _ _ (e2 _ _ (e1 _ _ hx))
    walk_at "rd"
    refine q _ (fun b o nb e => ?_) upd_same
    rw [upd_ne nb, upd_ne nb, upd_ne nb, upd_ne nb]
    exact e3 _ _ (e2 _ _ (e1 _ _ e))
theorem ok_lnkI {f C : Addr} {fd : FuncData} {k : Nat} (F : FunD K "__init__" "Link.__init__" (defArgs s_Link___init__) (defBody s_Link___init__) (defScope s_Link___init__) [] [("mode", .int 420), ("time", .int 0)] f fd) (hc : Cls K C)
    (a1 : NoAttr K C "name") (a2 : NoAttr K C "target") (a3 : NoAttr K C "mode") (a4 : NoAttr K C "time") (c_cname : CalT P w K mg base 3 "check_name" spCName) (c_stamp : CalT P w K mg base 4 "check_mode_and_time" spStamp) :
    FnOk P w K mg base CX0 (k + 5) f fd ["self", "name", "target", "mode", "time"] (spSymI C) := by
  refine funD_ok0 F sc_Link___init__ (fun vs H Q E h => ?_) (fun cdv A outer s H vs Q E hr h => ?_)
  · obtain ⟨x, dx, n, g, b, t, rfl, _⟩ := h
    rfl
  · obtain ⟨x, dx, n, g, b, t, rfl, hx, ⟨s1, s2, s3, s4, s5⟩, hg, q⟩ := h
    have hu := hu_of hr
    have nd := sc_Link___init__.nd
    refine ⟨_, (pss_cons (ps_expr (pe_cc c_cname hr (by omega) (by rfl) (pa_cons (pv 1) pa_nil)))
      (pss_cons (ps_expr (pe_cc c_cname hr (by omega) (by rfl) (pa_cons (pv 2) pa_nil)))
      (pss_cons (ps_expr (pe_cc c_stamp hr (by omega) (by rfl) (pa_cons (pv 3) (pa_cons (pv 4) pa_nil))))
      (pss_cons (ps_fld (pv 0) (pv 1) rfl)
      (pss_cons (ps_fld (pv 0) (pv 2) rfl)
      (pss_cons (ps_fld (pv 0) (pv 3) rfl)
      (pss_one (ps_fld (pv 0) (pv 4) rfl)))))))), ?_⟩
    walk_at "rd"
    refine sp_cname s1 (fun H1 e1 => ?_)
    walk_at "rd"
    refine sp_cname hg (fun H2 e2 => ?_)
    walk_at "rd"
    refine sp_stamp s2 s3 s4 s5 (fun H3 e3 => ?_)
    have hx3 := e3 _ _ (e2 _ _ (e1 _ _ hx))
    walk_at "rd"
    refine q _ (fun b o nb e => ?_) upd_same
    rw [upd_ne nb, upd_ne nb, upd_ne nb, upd_ne nb]
    exact e3 _ _ (e2 _ _ (e1 _ _ e))
/-! ### Sparse: what is left over is a tuple -/
def spaF (n : Str) (z : Int) (p : Addr) (b t : Int) : List (Str × V) := putF "time" (.int t) (putF "mode" (.int b) (putF "pieces" (.ref p) (putF "size" (.int z) (putF "name" (.str n) []))))
def spSpaI (C : Addr) : Sp := fun vs H Q _ => ∃ (x dx : Addr) (n : Str) (z b t : Int) (p : Addr) (ps : List (Int × Array UInt8)), vs = [.ref x, .str n, .int z, .int b, .int t, .ref p] ∧ H x = some (.ins C dx []) ∧ stampOk n b t ∧ PcsT H p ps ∧ pcsOk z ps ∧ 0 ≤ z ∧ z ≤ 4096 ∧ ps.length ≤ 50 ∧
  ∀ H', Frame x H H' → H' x = some (.ins C dx (spaF n z p b t)) → Q .non H'
/-- the body of Sparse.__init__ -/
theorem walk_spaI {f C : Addr} {k : Nat} {cdv : Value} {A : Around} {outer : List Env} {s : Shared} {H : Hp} {vs : List V} {Q : VK} {E : XK} (hc : Cls K C)
    (a1 : NoAttr K C "name") (a2 : NoAttr K C "size") (a3 : NoAttr K C "mode") (a4 : NoAttr K C "time") (a5 : NoAttr K C "pieces") (c_cname : CalT P w K mg base 3 "check_name" spCName) (c_cpieces : CalT P w K mg base 5 "check_pieces" spCPieces) (c_stamp : CalT P w K mg base 4 "check_mode_and_time" spStamp)
    (hr : Room (k + 5) (A.deeper (envOfC "Sparse.__init__" (defScope s_Sparse___init__) s.heap.objs.size f cdv))) (h : spSpaI C vs H Q E) :
    ∃ t, PSs (cxOf CX0 P w K mg base N_Sparse___init__ "Sparse.__init__" (defScope s_Sparse___init__) f cdv A outer s H E).nox (defBody s_Sparse___init__) t ∧ t { nx := fun _ H' => Q .non H', rt := Q } (start N_Sparse___init__ vs) H := by
  obtain ⟨x, dx, n, z, b, t, p, ps, rfl, hx, ⟨s1, s2, s3, s4, s5⟩, hp, hok, z0, z1, hl, q⟩ := h
  have hu := hu_of hr
  have nd := sc_Sparse___init__.nd
  refine ⟨_, (pss_cons (ps_expr (pe_cc c_cname hr (by omega) (by rfl) (pa_cons (pv 1) pa_nil)))
      (pss_cons (ps_expr (pe_cc c_cpieces hr (by omega) (by rfl) (pa_cons (pv 2) (pa_cons (pv 5) pa_nil))))
      (pss_cons (ps_expr (pe_cc c_stamp hr (by omega) (by rfl) (pa_cons (pv 3) (pa_cons (pv 4) pa_nil))))
      (pss_cons (ps_fld (pv 0) (pv 1) rfl)
      (pss_cons (ps_fld (pv 0) (pv 2) rfl)
      (pss_cons (ps_fld (pv 0) (pv 5) rfl)
      (pss_cons (ps_fld (pv 0) (pv 3) rfl)
      (pss_one (ps_fld (pv 0) (pv 4) rfl))))))))), ?_⟩
  walk_at "rd"
  refine sp_cname s1 (fun H1 e1 => ?_)
  walk_at "rd"
  refine sp_cpieces (hp.same e1) hok z0 z1 hl (fun H2 e2 => ?_)
  walk_at "rd"
  refine sp_stamp s2 s3 s4 s5 (fun H3 e3 => ?_)
  have hx3 := e3 _ _ (e2 _ _ (e1 _ _ hx))
  walk_at "rd"
  refine q _ (fun b o nb e => ?_) upd_same
  rw [upd_ne nb, upd_ne nb, upd_ne nb, upd_ne nb, upd_ne nb]
  exact e3 _ _ (e2 _ _ (e1 _ _ e))
end
/-! ### a call that binds a rest and keyword-only parameters -/
/-- a look through the keyword-only defaults, one name behind another, that goes on as fin -/
def Chn {α : Type} (D : Addr) (fin : Sem α) : List (Str × Value) → Sem α → Prop
  | [], t => t = fin
  | q :: l, t => ∃ (β γ : Type) (x : Option Value → Sem β) (y : β → Sem γ) (z : γ → Sem α) (b : β), (t = ((nsGet D q.1 >>= x) >>= y) >>= z) ∧ (x (some q.2) = pure b) ∧ Chn D fin l (y b >>= z)
theorem chn_wp {α : Type} {K : PySem.W.Frag} {M : Model} {A : Around} {s : Shared} {D : Addr} {fin : Sem α} {Q : α → Shared → Prop} {E : Value → Shared → Prop} (X : K.In s.heap) (hf : wpAny M A fin Q E s) :
    ∀ {l : List (Str × Value)} {t : Sem α}, (∀ q ∈ l, PySem.W.nsIn K D q.1 = some (some q.2)) → Chn D fin l t → wpAny M A t Q E s
  | [], t, _, c => by
    have c' : t = fin := c
    rw [c']
    exact hf
  | q :: l, t, h, c => by
    obtain ⟨β, γ, x, y, z, b, rfl, hx, hc⟩ := c
    have look : PySem.W.Looks M s.heap (nsGet D q.1 >>= x) b := (PySem.W.looks_nsIn X (h q (List.mem_cons_self ..))).andThen (PySem.W.Looks.of_pure hx)
    have rest := chn_wp X hf (fun p hp => h p (List.mem_cons_of_mem _ hp)) hc
    rw [bind_assoc]
    exact wpAny_bind (look.here rest)
/-- a def's promise by the positional values and the keywords' values -/
def FnS (P : Program) (w : World) (K : PySem.W.Frag) (mg : Str → Option Value) (base : Heap) (k : Nat) (f : Addr) (ks : List Str) (sp : List V → List V → Hp → VK → Prop) : Prop :=
  ∀ (A : Around) (outer : List Env) (s : Shared) (H : Hp) (us ws : List Value) (vs zs : List V) (Q : VK) (E : XK), Room k A → Env0 P w K mg base A outer s H → Vals vs us → Vals zs ws → ws.length = ks.length → sp vs zs H Q →
    codeAny (model P w) A (.call (.ref f) ⟨us, ks.zip ws⟩) (CR CX0 outer P w H s Q E) s
/-- what a Sparse is made of: the name, the size, the pieces that follow -/
def spSpa (C : Addr) (b t : Int) (vs : List V) (H : Hp) (Q : VK) : Prop := ∃ (x dx : Addr) (n : Str) (z : Int) (as : List Addr) (ps : List (Int × Array UInt8)), vs = .ref x :: .str n :: .int z :: as.map V.ref ∧ H x = some (.ins C dx []) ∧ stampOk n b t ∧
  Paired (fun q (s : Int × Array UInt8) => H q = some (.tup [.int s.1, .byt s.2])) as ps ∧ pcsOk z ps ∧ 0 ≤ z ∧ z ≤ 4096 ∧ ps.length ≤ 50 ∧
  ∀ p H', H p = none → Frame x H H' → H' p = some (.tup (as.map V.ref)) → H' x = some (.ins C dx (spaF n z p b t)) → Q .non H'
section
variable {P : Program} {w : World} {K : PySem.W.Frag} {mg : Str → Option Value} {base : Heap}
/-- the tuple of the rest is laid, then the body runs -/
theorem run_spa {f C : Addr} {k : Nat} {oc : Value} {od an : Option Addr} {dV kV doc pm cdv ct : Value} {osl : Array (Option Value)} {A : Around} {outer : List Env} {s : Shared} {H : Hp} {args : Args} {Q : VK} {E : XK} {b t : Int} {vs : List V} {ux un uz ub ut : Value} {us : List Value}
    (lk : K.lookup f = some ⟨oc, od, .func (PySem.W.fnOf "__init__" "Sparse.__init__" (defArgs s_Sparse___init__) (defBody s_Sparse___init__) (defScope s_Sparse___init__) dV kV doc pm an cdv ct), osl⟩) (hcd : PySem.W.codeIn K cdv "Sparse.__init__" = true)
    (hc : Cls K C) (a1 : NoAttr K C "name") (a2 : NoAttr K C "size") (a3 : NoAttr K C "mode") (a4 : NoAttr K C "time") (a5 : NoAttr K C "pieces") (c_cname : CalT P w K mg base 3 "check_name" spCName) (c_cpieces : CalT P w K mg base 5 "check_pieces" spCPieces) (c_stamp : CalT P w K mg base 4 "check_mode_and_time" spStamp)
    (hr : Room (k + 6) A) (e0 : Env0 P w K mg base A outer s H) (rv : Vals vs (ux :: un :: uz :: us)) (rb : RelV (.int b) ub) (rt : RelV (.int t) ut) (h : spSpa C b t vs H Q)
    (bound : ∀ (M : Model) (A' : Around) (Ex : Value → Shared → Prop) (Q' : List (Str × Value) → Shared → Prop), wpAny M A' (newTuple us >>= fun tp => pure ([("self", ux), ("name", un), ("size", uz), ("mode", ub), ("time", ut), ("pieces", tp)] : List (Str × Value))) Q' Ex s →
      wpAny M A' (bindArgs (PySem.W.fnOf "__init__" "Sparse.__init__" (defArgs s_Sparse___init__) (defBody s_Sparse___init__) (defScope s_Sparse___init__) dV kV doc pm an cdv ct) args) Q' Ex s) :
    codeAny (model P w) A (.call (.ref f) args) (CR CX0 outer P w H s Q E) s := by
  obtain ⟨x, dx, n, z, as, ps, rfl, hx, st, hpd, hok, z0, z1, hl, q⟩ := h
  obtain ⟨r1, r2, r3, r4⟩ : RelV (.ref x) ux ∧ RelV (.str n) un ∧ RelV (.int z) uz ∧ Vals (as.map V.ref) us := by
    cases rv with
    | cons r1 rv => cases rv with
      | cons r2 rv => cases rv with
        | cons r3 rv => exact ⟨r1, r2, r3, rv⟩
  have hsz : (as.map V.ref).length ≤ sizeLine := by rw [List.length_map, hpd.length]; exact Nat.le_trans hl (by decide)
  have hus : us.length ≤ sizeLine := by rw [← r4.length]; exact hsz
  have fresh : H s.heap.objs.size = none := e0.hok.fresh (Nat.le_refl _)
  refine StX.run_bnd lk hcd sc_Sparse___init__ hr e0 (G := fun xs H2 => ∃ p, H p = none ∧ xs = [.ref x, .str n, .int z, .int b, .int t, .ref p] ∧ H2 = upd H p (.tup (as.map V.ref))) ?_ ?_
  · intro A' Ex Q' hq
    refine bound _ A' Ex Q' (wpAny_bind (wpAny_newTuple (wpAny_pure ?_) hus))
    have laid : ObjOk P w (upd H s.heap.objs.size (.tup (as.map V.ref))) (s.heap.push { cls := .type "tuple", data := .seq us.toArray }) s.heap.objs.size (.tup (as.map V.ref)) :=
      ⟨hsz, us, r4, _, Heap.get?_push_size _ rfl, rfl, _, rfl⟩
    exact hq _ (upd H s.heap.objs.size (.tup (as.map V.ref))) [.ref x, .str n, .int z, .int b, .int t, .ref s.heap.objs.size] [ux, un, uz, ub, ut, .ref s.heap.objs.size] (StX.env0_laid e0 laid) (StX.un_laid fresh) rfl (fun e s' z => z)
      (.cons r1 (.cons r2 (.cons r3 (.cons rb (.cons rt (.cons rfl .nil)))))) rfl ⟨_, fresh, rfl, rfl⟩
  · rintro s2 H2 xs ⟨p, hp, rfl, rfl⟩ hr'
    have np : x ≠ p := ne_of_none hx hp
    obtain ⟨t', d, wq⟩ := walk_spaI (k := k) (E := E) (Q := Q) (outer := outer) (s := s2) (A := A) (f := f) (cdv := cdv) hc a1 a2 a3 a4 a5 c_cname c_cpieces c_stamp hr' (vs := [.ref x, .str n, .int z, .int b, .int t, .ref p]) (H := upd H p (.tup (as.map V.ref)))
      ⟨x, dx, n, z, b, t, p, ps, rfl, upd_old hp hx, st, ⟨as, upd_same, Paired.mapP hpd fun q s g => upd_old hp g⟩, hok, z0, z1, hl, fun H' fr hx' => q p H' hp (fun c o nc e => fr c o nc (upd_old hp e)) (fr p _ np.symm upd_same) hx'⟩
    exact ⟨t', d.nox, wq⟩
theorem ok_spaK {f C : Addr} {fd : FuncData} {k : Nat} (F : FunD K "__init__" "Sparse.__init__" (defArgs s_Sparse___init__) (defBody s_Sparse___init__) (defScope s_Sparse___init__) [] [("mode", .int 420), ("time", .int 0)] f fd) (hc : Cls K C)
    (a1 : NoAttr K C "name") (a2 : NoAttr K C "size") (a3 : NoAttr K C "mode") (a4 : NoAttr K C "time") (a5 : NoAttr K C "pieces") (c_cname : CalT P w K mg base 3 "check_name" spCName) (c_cpieces : CalT P w K mg base 5 "check_pieces" spCPieces) (c_stamp : CalT P w K mg base 4 "check_mode_and_time" spStamp) :
    FnS P w K mg base (k + 6) f ["mode", "time"] (fun vs zs H Q => ∃ b t : Int, zs = [.int b, .int t] ∧ spSpa C b t vs H Q) := by
  obtain ⟨oc, od, dV, kV, doc, pm, an, cdv, ct, osl, rfl, lk, hcd, hD, hK⟩ := F.ex
  have hdV : dV = .none := by
    rcases hD with ⟨_, e⟩ | ⟨e, _⟩
    · exact e
    · exact absurd rfl e
  subst hdV
  intro A outer s H us ws vs zs Q E hr e0 rv rz hw ⟨b, t, ez, h⟩
  subst ez
  obtain ⟨ub, ut, rfl, rb, rt⟩ : ∃ ub ut, ws = [ub, ut] ∧ RelV (.int b) ub ∧ RelV (.int t) ut := by
    cases rz with
    | cons rb rz => cases rz with
      | cons rt rz => cases rz with
        | nil => exact ⟨_, _, rfl, rb, rt⟩
  have h' := h
  obtain ⟨x, dx, n, z, as, ps, ev, _⟩ := h'
  obtain ⟨ux, un, uz, ur, rfl⟩ : ∃ ux un uz ur, us = ux :: un :: uz :: ur := by
    subst ev
    cases rv with
    | cons r1 rv => cases rv with
      | cons r2 rv => cases rv with
        | cons r3 rv => exact ⟨_, _, _, _, rfl⟩
  refine run_spa lk hcd hc a1 a2 a3 a4 a5 c_cname c_cpieces c_stamp hr e0 rv rb rt h (fun M A' Ex Q' hq => ?_)
  cases ur with
  | nil => exact hq
  | cons r rs => exact hq
theorem ok_spaD {f C : Addr} {fd : FuncData} {k : Nat} (F : FunD K "__init__" "Sparse.__init__" (defArgs s_Sparse___init__) (defBody s_Sparse___init__) (defScope s_Sparse___init__) [] [("mode", .int 420), ("time", .int 0)] f fd) (hc : Cls K C)
    (a1 : NoAttr K C "name") (a2 : NoAttr K C "size") (a3 : NoAttr K C "mode") (a4 : NoAttr K C "time") (a5 : NoAttr K C "pieces") (c_cname : CalT P w K mg base 3 "check_name" spCName) (c_cpieces : CalT P w K mg base 5 "check_pieces" spCPieces) (c_stamp : CalT P w K mg base 4 "check_mode_and_time" spStamp) :
    FnS P w K mg base (k + 6) f [] (fun vs zs H Q => zs = [] ∧ spSpa C 420 0 vs H Q) := by
  obtain ⟨oc, od, dV, kV, doc, pm, an, cdv, ct, osl, rfl, lk, hcd, hD, hK⟩ := F.ex
  have hdV : dV = .none := by
    rcases hD with ⟨_, e⟩ | ⟨e, _⟩
    · exact e
    · exact absurd rfl e
  subst hdV
  rcases hK with e | ⟨D, rfl, hq⟩
  · exact absurd e (by simp)
  obtain ⟨ub, nb, rb⟩ := hq ("mode", .int 420) (by simp)
  obtain ⟨ut, nt, rt⟩ := hq ("time", .int 0) (by simp)
  intro A outer s H us ws vs zs Q E hr e0 rv rz hw ⟨ez, h⟩
  subst ez
  obtain rfl : ws = [] := by
    cases rz
    rfl
  have h' := h
  obtain ⟨x, dx, n, z, as, ps, ev, _⟩ := h'
  obtain ⟨ux, un, uz, ur, rfl⟩ : ∃ ux un uz ur, us = ux :: un :: uz :: ur := by
    subst ev
    cases rv with
    | cons r1 rv => cases rv with
      | cons r2 rv => cases rv with
        | cons r3 rv => exact ⟨_, _, _, _, rfl⟩
  have KX : K.In s.heap := e0.mod.kin.keeps fun b o e => (e0.bs b o e).1
  have hks : ∀ q ∈ [(("mode" : Str), ub), (("time" : Str), ut)], PySem.W.nsIn K D q.1 = some (some q.2) := by
    intro q hq
    simp only [List.mem_cons, List.not_mem_nil, or_false] at hq
    rcases hq with rfl | rfl
    · exact nb
    · exact nt
  refine run_spa lk hcd hc a1 a2 a3 a4 a5 c_cname c_cpieces c_stamp hr e0 rv rb rt h (fun M A' Ex Q' hq => ?_)
  refine chn_wp KX hq hks ?_
  cases ur with
  | nil => exact ⟨_, _, _, _, _, _, rfl, rfl, _, _, _, _, _, _, rfl, rfl, rfl⟩
  | cons r rs => exact ⟨_, _, _, _, _, _, rfl, rfl, _, _, _, _, _, _, rfl, rfl, rfl⟩
end
/-! ### C(e, .., k = v, ..), by such a promise of its __init__ -/
structure MakS (P : Program) (w : World) (K : PySem.W.Frag) (mg : Str → Option Value) (base : Heap) (k : Nat) (x : Str) (C : Addr) (ks : List Str) (sp : List V → List V → Hp → VK → Prop) : Prop where
  ex : ∃ f : Addr, Mk K C f ∧ FnS P w K mg base k f ks sp ∧ mg x = some (.ref C)
def tMakS (sp : List V → List V → Hp → VK → Prop) (m : Nat) (C : Addr) (t tk : TA) : TE := fun σ H Q => t σ H fun vs H1 => tk σ H1 fun zs H2 => zs.length = m ∧ ∀ x dx, H2 x = none → H2 dx = none → dx ≠ x →
  sp (.ref x :: vs) zs (upd (upd H2 dx (.own x)) x (.ins C dx [])) (fun v H3 => v = .non ∧ Q (.ref x) H3)
section
variable {X : Cx} {j k : Nat} {x : Str} {C : Addr} {ks : List Str} {sp : List V → List V → Hp → VK → Prop} {e : Expr} {es : List Expr} {kws : List Keyword} {p pos : Pos} {t tk : TA}
theorem run_mks {pins : List (Addr × Obj)} {σ : L2.St} {H : Hp} {s : Shared} {Q : VK} {f : Addr} {us ws : List Value} {vs zs : List V} (M : Mk X.K C f) (F : FnS X.prog X.w X.K X.mg X.base k f ks sp) (hr : Room (k + 1) X.A) (hx : ∀ (E : Value → Shared → Prop), True)
    (I : L2.Inv X pins σ H s) (rv : Vals vs us) (rz : Vals zs ws) (hl : zs.length = ks.length)
    (h : ∀ y dx, H y = none → H dx = none → dx ≠ y → sp (.ref y :: vs) zs (upd (upd H dx (.own y)) y (.ins C dx [])) (fun v H3 => v = .non ∧ Q (.ref y) H3)) :
    wpAny (model X.prog X.w) X.A (call (.ref C) us (ks.zip ws)) (EP X pins σ Q) X.xe s := by
  let y := s.heap.objs.size + 1
  have told := h y s.heap.objs.size (I.hok.fresh (Nat.le_succ _)) (I.hok.fresh (Nat.le_refl _)) (Nat.ne_of_lt (Nat.lt_succ_self _))
  have J := Inv.made (C := C) I
  have rv' : Vals (V.ref y :: vs) (Value.ref y :: us) := .cons rfl rv
  have ran := F _ X.stack _ _ (Value.ref y :: us) ws _ zs _ (fun _ _ _ => False) (hr.make C us (ks.zip ws)) (J.env0.make C us (ks.zip ws)) rv' rz (rz.length.symm.trans hl) told
  refine wpAny_call (make_map (f := f) I.kIn M.makes M.init (beq_iff_eq.mp M.fn) (codeAny_mono ran ?_))
  intro r s' hq
  cases r with
  | error e => exact False.elim hq
  | ok fl =>
    cases fl with
    | ret u =>
      obtain ⟨v, H', J', rel, ev, q⟩ := J.after hq
      rw [ev] at rel
      exact ⟨rel, V.ref y, H', J', rfl, q⟩
    | next => exact False.elim hq
    | brk => exact False.elim hq
    | cont => exact False.elim hq
theorem pe_mks (c : MakS X.prog X.w X.K X.mg X.base k x C ks sp) (hr : Room j X.A) (hk : k + 1 ≤ j) (hg : Gl X x) (ha : PA X (e :: es) t) (hkw : PK X kws tk)
    (hall : (backToKw pos (keywordEach kws X.env)).all (·.1.isSome) = true := by rfl) (hks : (backToKw pos (keywordEach kws X.env)).filterMap (·.1) = ks := by rfl) (hdb : (x == ("__debug__" : Str)) = false := by decide)
    (he : starEach (e :: es) X.env = (false, eval e X.env) :: starEach es X.env := by rfl) (hpl : ((backTo pos (starEach (e :: es) X.env)).any (·.1) || (backToKw pos (keywordEach kws X.env)).any (·.1.isNone)) = false := by rfl) :
    PE X (.Call (.Name x p) (e :: es) kws pos) (tMakS sp ks.length C t tk) := by
  obtain ⟨f, M, F, hm⟩ := c.ex
  constructor
  intro pins s σ H Q I h
  refine wpAny_Call_Name_kw (ld_glob I hg hm ?_ hdb)
  refine PySem.W.callWith_KW (h₀ := X.base) I.ok.mod.kin M.kp hall (thn (ha.run pos pins s σ H _ I h) ?_) hpl he
  rintro us s1 ⟨vs, H1, I1, r1, q1⟩
  refine thn (hkw.run pos pins s1 σ H1 _ I1 q1) ?_
  rintro ws s2 ⟨zs, H2, I2, rz, hl, q2⟩
  refine ⟨I2.kIn, ?_⟩
  rw [hks]
  exact run_mks M F (hr.mono hk) (fun _ => True.intro) I2 r1 rz hl q2
end
theorem r_maks {sp : List V → List V → Hp → VK → Prop} {m : Nat} {C : Addr} {t tk : TA} {σ : L2.St} {H : Hp} {Q : VK} (h : t σ H fun vs H1 => tk σ H1 fun zs H2 => zs.length = m ∧ ∀ x dx, H2 x = none → H2 dx = none → dx ≠ x →
  sp (.ref x :: vs) zs (upd (upd H2 dx (.own x)) x (.ins C dx [])) (fun v H3 => v = .non ∧ Q (.ref x) H3)) : tMakS sp m C t tk σ H Q := h
theorem fnS_of {P : Program} {w : World} {K : PySem.W.Frag} {mg : Str → Option Value} {base : Heap} {k n : Nat} {f : Addr} {fd : FuncData} {ps ks : List Str} {sp : Sp} (F : FnOk P w K mg base CX0 k f fd ps sp) (hb : KBn K fd ps n ks (fun us ws => us ++ ws) (fun us ws => us ++ ws)) :
    FnS P w K mg base k f ks (fun vs zs H Q => vs.length = n ∧ ∀ E, sp (vs ++ zs) H Q E) := by
  intro A outer s H us ws vs zs Q E hr e0 rv rz hw ⟨hn, h⟩
  have KX : K.In s.heap := e0.mod.kin.keeps fun b o e => (e0.bs b o e).1
  exact F.run A outer s H _ (us ++ ws) (vs ++ zs) Q E hr e0 (hb.to s us ws KX (by rw [← rv.length]; exact hn) hw) (hb.rel rv rz) (h E)
theorem fnS_dfl {P : Program} {w : World} {K : PySem.W.Frag} {mg : Str → Option Value} {base : Heap} {k : Nat} {f : Addr} {fd : FuncData} {ps : List Str} {sp : Sp} {dvs : List V} {ds : List Value} (F : FnOk P w K mg base CX0 k f fd ps sp) (hb : Binds K fd ps ds) (hd : Vals dvs ds) :
    FnS P w K mg base k f [] (fun vs zs H Q => zs = [] ∧ ∀ E, sp (vs ++ dvs) H Q E) := by
  intro A outer s H us ws vs zs Q E hr e0 rv rz hw ⟨hz, h⟩
  have KX : K.In s.heap := e0.mod.kin.keeps fun b o e => (e0.bs b o e).1
  subst hz
  cases rz
  have r2 := rv.append hd
  exact F.run A outer s H _ (us ++ ds) (vs ++ dvs) Q E hr e0 (hb s us KX (by rw [← r2.length]; exact F.len _ _ _ _ (h E))) r2 (h E)
end Th
namespace Th
open PySem PySem.Spec PyProof.Rows L2
local macro_rules | `(tactic| walk_at "lk") => `(tactic| first
  | assumption
  | exact upd_same
  | (refine upd_old (by assumption) ?_; walk_at "lk")
  | (refine upd_diff (by assumption) ?_; walk_at "lk")
  | (refine upd_diff (Ne.symm (by assumption)) ?_; walk_at "lk"))
local macro_rules | `(tactic| walk_at "cnd") => `(tactic| first
  | omega
  | (refine ⟨by omega, by omega⟩)
  | (refine ⟨by omega, by omega, by omega⟩)
  | (refine .inl ⟨by omega, by omega⟩)
  | (refine .inr ⟨by omega, by omega⟩)
  | (exact (show CPow _ _ from ⟨by decide, by decide, by omega⟩))
  | decide +kernel
  | (unfold CMulW; decide +kernel)
  | (exact wide_div (b := 64) (by omega) (by omega) (by decide) (by decide)))
local macro_rules | `(tactic| walk_at "rd1") => `(tactic| first
  | (with_reducible refine r_seq ?_)
  | (with_reducible refine r_asg ?_)
  | (with_reducible refine r_ret ?_)
  | (with_reducible refine r_if ?_)
  | (with_reducible refine r_gname ?_)
  | ((with_reducible refine' r_var ?hv ?_); (case hv => exact rfl))
  | (with_reducible refine r_c ?_)
  | (with_reducible refine r_op ?_)
  | (with_reducible refine r_I0 ?_)
  | ((with_reducible refine r_I ?hc ?_); (case hc => walk_at "cnd"))
  | (with_reducible refine r_test ?_)
  | (with_reducible refine r_tB ?_)
  | (with_reducible refine r_bl ?_)
  | (with_reducible refine r_not ?_)
  | (with_reducible refine r_and ?_)
  | (with_reducible refine r_or ?_)
  | (with_reducible refine r_ifE ?_)
  | (with_reducible refine r_notV ?_)
  | (with_reducible refine r_andV ?_)
  | (with_reducible refine r_orV ?_)
  | (with_reducible refine r_chain ?_)
  | (with_reducible refine r_cb ?_)
  | (with_reducible refine r_call ?_)
  | (with_reducible refine r_callN ?_)
  | (with_reducible refine r_nil ?_)
  | (with_reducible refine r_cons ?_)
  | ((with_reducible refine r_lst ?_))
  | ((with_reducible refine r_tup ?_))
  | ((with_reducible refine r_new ?_ ?_); (exact Nat.le_of_ble_eq_true rfl); (intro p hp))
  | (with_reducible refine r_rInt1 ?_)
  | (with_reducible refine r_rIntB ?_)
  | (with_reducible refine r_rAbs ?_)
  | (with_reducible refine r_rMin2 ?_)
  | (with_reducible refine r_rMax2 ?_)
  | ((with_reducible refine r_rLenZ ?hz ?_); (case hz => first | assumption | exact Nat.le_of_ble_eq_true rfl | (refine Nat.le_trans ?_ (by decide : 100000 ≤ sizeLine); omega)))
  | ((with_reducible refine r_addZ ?hz ?_); (case hz => (refine Nat.le_trans ?_ (by decide : 100000 ≤ sizeLine); first | omega | (simp only [Str.length] at *; simp; omega))))
  | ((with_reducible refine r_mulZ ?hz ?h0 ?h1 ?_); (case hz => first | omega | exact Nat.le_of_ble_eq_true rfl); (case h0 => omega); (case h1 => omega))
  | ((with_reducible refine' r_rLenQ ?h1 ?_); (case h1 => first | (exact .inl (by assumption)) | (exact .inr (by assumption)) | (exact .inl (SqL.of (by walk_at "lk"))) | (exact .inr (SqT.of (by walk_at "lk")))))
  | ((with_reducible refine r_eq ?hs ?_); (case hs => exact rfl))
  | ((with_reducible refine r_ne ?hs ?_); (case hs => exact rfl))
  | (with_reducible refine r_inC ?_)
  | ((with_reducible refine' r_cat ?h1 ?h2 ?h3 ?_); (case h1 => walk_at "lk"); (case h2 => walk_at "lk"); (case h3 => exact Nat.le_of_ble_eq_true rfl); (intro p hp))
  | ((with_reducible refine' r_rep ?h1 ?h2 ?h3 ?h4 ?_); (case h1 => walk_at "lk"); (case h2 => omega); (case h3 => omega); (case h4 => exact Nat.le_of_ble_eq_true rfl); (intro p hp))
  | ((with_reducible refine' r_append ?h1 ?h2 ?_); (case h1 => walk_at "lk"); (case h2 => first | exact (show _ + 1 ≤ sizeLine from Nat.le_of_ble_eq_true rfl) | exact Nat.lt_of_le_of_lt (by omega : _ ≤ 100000) (by decide)))
  | (with_reducible refine r_bm ?_)
  | ((with_reducible refine' r_tyL ?h1 ?_); (case h1 => walk_at "lk"))
  | ((with_reducible refine' r_ixL ?h1 ?h2 ?_); (case h1 => first | assumption | exact SqL.of (by walk_at "lk")); (case h2 => exact rfl))
  | ((with_reducible refine' r_ixT ?h1 ?h2 ?_); (case h1 => first | assumption | exact SqT.of (by walk_at "lk")); (case h2 => exact rfl))
  | (with_reducible refine r_gsub ?_)
  | ((with_reducible refine' r_setL ?h1 ?h2 ?_); (case h1 => walk_at "lk"); (case h2 => exact rfl))
  | (with_reducible refine r_un ?_)
  | (with_reducible refine r_neg ?_)
  | (with_reducible refine r_iteT ?_)
  | (with_reducible refine r_iteNT ?_)
  | (with_reducible refine r_iteNF ?_)
  | (with_reducible refine r_iteF ?_)
  | (with_reducible refine r_next ?_)
  | (with_reducible refine r_drop ?_)
  | (with_reducible refine r_cont ?_)
  | (with_reducible refine r_brk ?_))
local macro_rules | `(tactic| walk_at "ty") => `(tactic| first
  | assumption
  | exact .base (.int _)
  | exact .base (.str _)
  | exact .base (.bl _)
  | exact .base .non
  | exact .byt _
  | exact .base (.lst (by walk_at "lk"))
  | exact .base (.tup (by walk_at "lk")))
local macro_rules | `(tactic| walk_at "rd2") => `(tactic| first
  | walk_at "rd1"
  | ((with_reducible refine' r_isi true ?ht ?hk ?_); (case ht => walk_at "ty"); (case hk => first | assumption | decide +kernel))
  | ((with_reducible refine' r_isi false ?ht ?hk ?_); (case ht => walk_at "ty"); (case hk => first | assumption | decide +kernel))
  | ((with_reducible refine' r_isiT2 true true ?hT ?ht ?hk ?hk2 ?_); (case hT => walk_at "lk"); (case ht => walk_at "ty"); (case hk => decide +kernel); (case hk2 => decide +kernel))
  | ((with_reducible refine' r_isiT2 true false ?hT ?ht ?hk ?hk2 ?_); (case hT => walk_at "lk"); (case ht => walk_at "ty"); (case hk => decide +kernel); (case hk2 => decide +kernel))
  | ((with_reducible refine' r_isiT2 false true ?hT ?ht ?hk ?hk2 ?_); (case hT => walk_at "lk"); (case ht => walk_at "ty"); (case hk => decide +kernel); (case hk2 => decide +kernel))
  | ((with_reducible refine' r_isiT2 false false ?hT ?ht ?hk ?hk2 ?_); (case hT => walk_at "lk"); (case ht => walk_at "ty"); (case hk => decide +kernel); (case hk2 => decide +kernel))
  | (with_reducible refine r_iteNT ?_)
  | ((show (if (!true) = true then _ else _)); refine r_iteNT ?_)
  | (with_reducible refine r_r1 ?_)
  | (with_reducible refine r_maks ?_)
  | (with_reducible refine r_sfld ?_)
  | ((with_reducible refine' r_sfldE ?h1 ?h2 ?h3 ?h4 ?_); (case h1 => walk_at "lk"); (case h2 => assumption); (case h3 => assumption); (case h4 => exact (show _ + 1 ≤ 1000 from Nat.le_of_ble_eq_true rfl)))
  | (with_reducible refine r_fld ?_)
  | (with_reducible refine r_join ?_)
  | (with_reducible refine r_jcons ?_)
  | (with_reducible refine r_jnil ?_)
  | ((with_reducible refine r_rLenY ?hz ?_); (case hz => first | assumption | (refine Nat.le_trans ?_ (by decide : 100000 ≤ sizeLine); omega)))
  | (with_reducible refine r_par ?_)
  | (with_reducible refine r_pair ?_)
  | (with_reducible refine r_par3 ?_)
  | (with_reducible refine r_trip ?_)
  | ((with_reducible refine' r_gtup ?h1 ?h2 ?_); (case h1 => first | assumption | exact SqT.of (by walk_at "lk")); (case h2 => exact rfl))
  | (with_reducible refine r_gcons ?_)
  | (with_reducible refine r_gnil ?_)
  | ((with_reducible refine' r_slL ?h1 ?_); (case h1 => first | assumption | exact SqL.of (by walk_at "lk")); (intro p hp))
  | (with_reducible refine r_iTup ?_)
  | ((with_reducible refine' r_tupE ?h1 ?_); (case h1 => first | assumption | exact SqT.of (by walk_at "lk")))
  | (with_reducible refine r_m1 ?_)
  | (with_reducible refine r_isZ ?_)
  | (with_reducible refine r_sl ?_)
  | (with_reducible refine r_noPart ?_)
  | (with_reducible refine r_part ?_)
  | (with_reducible refine r_partE ?_)
  | ((with_reducible refine r_slS ?hz ?_); (case hz => first | assumption | (refine Nat.le_trans ?_ (by decide : 100000 ≤ sizeLine); omega)))
  | ((with_reducible refine' r_inT ?h1 ?h2 ?h3 ?_); (case h1 => first | assumption | (exact SqT.of (by walk_at "lk"))); (case h2 => exact rfl); (case h3 => exact rfl))
  | ((with_reducible refine' r_inL ?h1 ?h2 ?h3 ?_); (case h1 => first | assumption | (exact SqL.of (by walk_at "lk"))); (case h2 => exact rfl); (case h3 => exact rfl))
  | (with_reducible refine r_lc ?_)
  | (with_reducible refine r_for ?_)
  | (with_reducible refine r_iStr ?_)
  | (with_reducible refine r_strE ?_)
  | (with_reducible refine r_iList ?_)
  | ((with_reducible refine' r_listE ?h1 ?_); (case h1 => first | assumption | exact SqL.of (by walk_at "lk")))
  | (with_reducible refine r_iRng1 ?_)
  | ((with_reducible refine' r_rngE ?h0 ?h1 ?_); (case h0 => first | omega | (split <;> omega)); (case h1 => first | omega | (split <;> omega))))
local macro_rules | `(tactic| walk_at "rd") => `(tactic| (repeat walk_at "rd2"))
local macro_rules | `(tactic| walk_at "st") => `(tactic| (repeat (first
  | (with_reducible refine r_gname ?_)
  | (with_reducible refine r_next ?_)
  | (with_reducible refine r_seq ?_)
  | (with_reducible refine r_asg ?_)
  | (with_reducible refine r_ret ?_)
  | (with_reducible refine r_for ?_)
  | (with_reducible refine r_iRng1 ?_)
  | (with_reducible refine r_iList ?_)
  | (with_reducible refine r_cons ?_)
  | (with_reducible refine r_par ?_)
  | (with_reducible refine r_par3 ?_))))
/-! ### members made -/
theorem paired_map {α β γ : Type} {R : α → γ → Prop} {g : β → γ} : ∀ {xs : List α} {ys : List β}, Paired (fun x y => R x (g y)) xs ys → Paired R xs (ys.map g)
  | _, _, .nil => .nil
  | _, _, .cons r t => .cons r (paired_map t)
structure Cs where
  F : Addr
  S : Addr
  D : Addr
  Y : Addr
  L : Addr
/-- the object x is the member m -/
def Mem.Ins (c : Cs) (H : Hp) (x : Addr) : Mem → Prop
  | .file n b t ns => ∃ dx, H x = some (.ins c.F dx (fileF n (byteArr ns) b t))
  | .sparse n b t z sp => ∃ dx p, H x = some (.ins c.S dx (spaF n z p b t)) ∧ PcsT H p (sp.map fun s => (s.1, byteArr s.2))
  | .dir n b t => ∃ dx, H x = some (.ins c.D dx (dirF n b t))
  | .sym n b t g => ∃ dx, H x = some (.ins c.Y dx (symF n g b t))
  | .lnk n b t g => ∃ dx, H x = some (.ins c.L dx (symF n g b t))
theorem Mem.Ins.same {c : Cs} {H H' : Hp} {x : Addr} {m : Mem} (e : Same H H') (h : m.Ins c H x) : m.Ins c H' x := by
  cases m with
  | file n b t ns => obtain ⟨dx, h1⟩ := h; exact ⟨dx, e _ _ h1⟩
  | sparse n b t z sp => obtain ⟨dx, p, h1, h2⟩ := h; exact ⟨dx, p, e _ _ h1, h2.same e⟩
  | dir n b t => obtain ⟨dx, h1⟩ := h; exact ⟨dx, e _ _ h1⟩
  | sym n b t g => obtain ⟨dx, h1⟩ := h; exact ⟨dx, e _ _ h1⟩
  | lnk n b t g => obtain ⟨dx, h1⟩ := h; exact ⟨dx, e _ _ h1⟩
/-- a new instance and what its __init__ leaves alone -/
theorem frame_same {H H' : Hp} {x dx : Addr} {u v : HO} (hx : H x = none) (hd : H dx = none) (fr : Frame x (upd (upd H dx u) x v) H') : Same H H' := fun b o e => by
  have nx := ne_of_none e hx
  exact fr b o nx (by rw [upd_ne nx, upd_ne (ne_of_none e hd)]; exact e)
section
variable {P : Program} {w : World} {K : PySem.W.Frag} {mg : Str → Option Value} {base : Heap}
def rEqE : R2 := fun x y H Q => ∃ a b xs, x = .ref a ∧ y = .ref b ∧ H a = some (.lst xs) ∧ H b = some (.lst []) ∧ Q (.bl xs.isEmpty) H
theorem op_eqE {X : Cx} (hu : X.A.units < cLine) : OpR X (compareOp .Eq) rEqE := by
  intro pins s σ H x y v u Q I rx ry hq
  obtain ⟨a, b, xs, rfl, rfl, ha, hb, q⟩ := hq
  cases (show v = Value.ref a from rx)
  cases (show u = Value.ref b from ry)
  obtain ⟨z, its, k, r, e⟩ := I.hok a _ ha
  obtain ⟨z2, its2, k2, r2, e2⟩ := I.hok b _ hb
  have l2 : its2.length = 0 := by rw [← r2.length]; rfl
  cases xs with
  | nil =>
    have l1 : its.length = 0 := by rw [← r.length]; rfl
    refine SeqAt.eq_listAt (items := its.toArray) (items2 := its2.toArray) (e := fun _ => true) ⟨_, e, rfl, _, rfl⟩ ⟨_, e2, rfl, _, rfl⟩ (by rw [List.size_toArray, List.size_toArray, l1, l2]) hu (fun j h1 _ => absurd h1 (by rw [List.size_toArray, l1]; exact Nat.not_lt_zero _)) ?_
    rw [List.size_toArray, l1]
    exact ⟨.bl true, H, I, rfl, q⟩
  | cons y ys =>
    refine SeqAt.eq_list_lengthsAt (items := its.toArray) (items2 := its2.toArray) ⟨_, e, rfl, _, rfl⟩ ⟨_, e2, rfl, _, rfl⟩ (by rw [List.size_toArray, List.size_toArray, l2, ← r.length]; rfl) hu ?_
    exact ⟨.bl false, H, I, rfl, q⟩
def spMadeT (c : Cs) : Sp := fun vs H Q _ => ∃ (p : Addr) (m : Mem), vs = [.ref p] ∧ m.Tu H p ∧ m.Ok ∧ m.Two ∧ ∀ x H', Same H H' → H x = none → m.Ins c H' x → Q (.ref x) H'
theorem sp_madeT {c : Cs} {p : Addr} {m : Mem} {H : Hp} {Q : VK} {E : XK} (h1 : m.Tu H p) (h2 : m.Ok) (h3 : m.Two) (k : ∀ x H', Same H H' → H x = none → m.Ins c H' x → Q (.ref x) H') : spMadeT c ([.ref p] ++ []) H Q E := ⟨p, m, rfl, h1, h2, h3, k⟩
theorem ok_made {f : Addr} {fd : FuncData} {k : Nat} {c : Cs} (F : Fun K "_law_made" "_law_made" s__law_made f fd) (m1 : mg "len" = none) (c_blob : CalT P w K mg base 4 "blob" spBlob)
    (mk_File : MakS P w K mg base 5 "File" c.F ["mode", "time"] (fun vs zs H Q => vs.length = 3 ∧ ∀ E, spFileI c.F (vs ++ zs) H Q E)) (mk_Dir : MakS P w K mg base 5 "Directory" c.D ["mode", "time"] (fun vs zs H Q => vs.length = 2 ∧ ∀ E, spDirI c.D (vs ++ zs) H Q E))
    (mk_Sym : MakS P w K mg base 5 "Symlink" c.Y ["mode", "time"] (fun vs zs H Q => vs.length = 3 ∧ ∀ E, spSymI c.Y (vs ++ zs) H Q E)) (mk_Link : MakS P w K mg base 5 "Link" c.L ["mode", "time"] (fun vs zs H Q => vs.length = 3 ∧ ∀ E, spSymI c.L (vs ++ zs) H Q E))
    (mk_Sparse : MakS P w K mg base 6 "Sparse" c.S ["mode", "time"] (fun vs zs H Q => ∃ b t : Int, zs = [.int b, .int t] ∧ spSpa c.S b t vs H Q)) : FnOk P w K mg base CX0 (k + 8) f fd ["_law_spec_here"] (spMadeT c) := by
  refine F.ok sc__law_made (fun vs H Q E h => ?_) (fun cdv A outer s H vs Q E hr h => ?_)
  · obtain ⟨p, m, rfl, _⟩ := h
    rfl
  · obtain ⟨p, m, rfl, hat, hok, hfew, q⟩ := h
    have hu := hu_of hr
    have nd := sc__law_made.nd
    refine ⟨_, (pss_cons (ps_if (pt_cmpR op_eq (pe_ix (ix_tupK K) (pv 0) pe_int (fun _ _ => rfl)) pe_str (nomark _))
        (pss_one (ps_ret (pe_mks mk_File hr (by omega) (by rfl) (pa_cons (pe_ix (ix_tupK K) (pv 0) pe_int (fun _ _ => rfl)) (pa_cons (pe_cc c_blob hr (by omega) (by rfl) (pa_cons (pe_ix (ix_tupK K) (pv 0) pe_int (fun _ _ => rfl)) pa_nil)) pa_nil)) (pk_cons (pe_ix (ix_tupK K) (pv 0) pe_int (fun _ _ => rfl)) (pk_cons (pe_ix (ix_tupK K) (pv 0) pe_int (fun _ _ => rfl)) pk_nil)))))
        pss_nil)
      (pss_cons (ps_if (pt_cmpR op_eq (pe_ix (ix_tupK K) (pv 0) pe_int (fun _ _ => rfl)) pe_str (nomark _))
        (pss_one (ps_ret (pe_mks mk_Dir hr (by omega) (by rfl) (pa_cons (pe_ix (ix_tupK K) (pv 0) pe_int (fun _ _ => rfl)) pa_nil) (pk_cons (pe_ix (ix_tupK K) (pv 0) pe_int (fun _ _ => rfl)) (pk_cons (pe_ix (ix_tupK K) (pv 0) pe_int (fun _ _ => rfl)) pk_nil)))))
        pss_nil)
      (pss_cons (ps_if (pt_cmpR op_eq (pe_ix (ix_tupK K) (pv 0) pe_int (fun _ _ => rfl)) pe_str (nomark _))
        (pss_one (ps_ret (pe_mks mk_Sym hr (by omega) (by rfl) (pa_cons (pe_ix (ix_tupK K) (pv 0) pe_int (fun _ _ => rfl)) (pa_cons (pe_ix (ix_tupK K) (pv 0) pe_int (fun _ _ => rfl)) pa_nil)) (pk_cons (pe_ix (ix_tupK K) (pv 0) pe_int (fun _ _ => rfl)) (pk_cons (pe_ix (ix_tupK K) (pv 0) pe_int (fun _ _ => rfl)) pk_nil)))))
        pss_nil)
      (pss_cons (ps_if (pt_cmpR op_eq (pe_ix (ix_tupK K) (pv 0) pe_int (fun _ _ => rfl)) pe_str (nomark _))
        (pss_one (ps_ret (pe_mks mk_Link hr (by omega) (by rfl) (pa_cons (pe_ix (ix_tupK K) (pv 0) pe_int (fun _ _ => rfl)) (pa_cons (pe_ix (ix_tupK K) (pv 0) pe_int (fun _ _ => rfl)) pa_nil)) (pk_cons (pe_ix (ix_tupK K) (pv 0) pe_int (fun _ _ => rfl)) (pk_cons (pe_ix (ix_tupK K) (pv 0) pe_int (fun _ _ => rfl)) pk_nil)))))
        pss_nil)
      (pss_cons (ps_asg (pe_ix (ix_tupK K) (pv 0) pe_int (fun _ _ => rfl)) (pg_tupK K (pg_tup rfl (pgs_cons (pg_name (i := 1) nd rfl (Or.inl rfl)) (pgs_cons (pg_name (i := 2) nd rfl (Or.inl rfl)) pgs_nil)))))
      (pss_cons (ps_setLc (i := 3) (own := [("_law_offset", 4), ("_law_numbers_here", 5)]) (g := (gTup K 2 (gCons (gName 4) (gCons (gName 5) gNil)))) (tt := tYes) rfl nd rfl rfl (sw_true rfl rfl rfl (by decide +kernel)) (pi_list (pv 2)) (blkOk_by (N := N__law_made) (sc := defScope s__law_made) (by decide +kernel)) (fun _ _ _ _ _ => (pg_tupK K (pg_tup rfl (pgs_cons (pg_name (i := 4) nd rfl (Or.inl rfl)) (pgs_cons (pg_name (i := 5) nd rfl (Or.inl rfl)) pgs_nil))))) (fun _ _ _ _ _ => pts_nil) (fun _ _ _ _ _ => (pe_tup (pa_cons (pv 4) (pa_cons (pe_cc c_blob hr (by omega) (by rfl) (pa_cons (pv 5) pa_nil)) pa_nil)))))
      (pss_cons (ps_if (pt_cmpR (op_eqE (Nat.lt_of_succ_lt hu)) (pv 3) (pe_lst pa_nil) (nomark _))
        (pss_one (ps_ret (pe_mks mk_Sparse hr (by omega) (by rfl) (pa_cons (pe_ix (ix_tupK K) (pv 0) pe_int (fun _ _ => rfl)) (pa_cons (pv 1) pa_nil)) (pk_cons (pe_ix (ix_tupK K) (pv 0) pe_int (fun _ _ => rfl)) (pk_cons (pe_ix (ix_tupK K) (pv 0) pe_int (fun _ _ => rfl)) pk_nil)))))
        pss_nil)
      (pss_cons (ps_if (pt_cmpR op_eq (pe_callB (call_lenK K) (by rfl) (by assumption) (by decide +kernel) (pa_cons (pv 3) pa_nil)) pe_int (nomark _))
        (pss_one (ps_ret (pe_mks mk_Sparse hr (by omega) (by rfl) (pa_cons (pe_ix (ix_tupK K) (pv 0) pe_int (fun _ _ => rfl)) (pa_cons (pv 1) (pa_cons (pe_ix (ix_listK K) (pv 3) pe_int (fun _ _ => rfl)) pa_nil))) (pk_cons (pe_ix (ix_tupK K) (pv 0) pe_int (fun _ _ => rfl)) (pk_cons (pe_ix (ix_tupK K) (pv 0) pe_int (fun _ _ => rfl)) pk_nil)))))
        pss_nil)
      (pss_one (ps_ret (pe_mks mk_Sparse hr (by omega) (by rfl) (pa_cons (pe_ix (ix_tupK K) (pv 0) pe_int (fun _ _ => rfl)) (pa_cons (pv 1) (pa_cons (pe_ix (ix_listK K) (pv 3) pe_int (fun _ _ => rfl)) (pa_cons (pe_ix (ix_listK K) (pv 3) pe_int (fun _ _ => rfl)) pa_nil)))) (pk_cons (pe_ix (ix_tupK K) (pv 0) pe_int (fun _ _ => rfl)) (pk_cons (pe_ix (ix_tupK K) (pv 0) pe_int (fun _ _ => rfl)) pk_nil))))))))))))), ?_⟩
    cases m with
    | file n b t ns =>
      obtain ⟨d, hp, hd⟩ := hat
      obtain ⟨st, hl, hall⟩ := hok
      walk_at "rd"
      refine r_iteD (fun _ => ?_) (fun h => absurd rfl h)
      walk_at "rd"
      refine sp_blob hd (by omega) hall (fun H1 e1 => ?_)
      have hp1 := e1 _ _ hp
      walk_at "rd"
      refine ⟨rfl, fun x dx hx hdx ne => ⟨rfl, fun E => ?_⟩⟩
      refine ⟨x, dx, n, _, b, t, rfl, upd_same, st, by rw [byteArr_size]; exact hl, fun H' fr hx' => ⟨rfl, ?_⟩⟩
      exact q x H' (e1.trans (frame_same hx hdx fr)) (e1.free hx) ⟨dx, hx'⟩
    | dir n b t =>
      have hp : H p = some (.tup [.str "directory", .str n, .int b, .int t]) := hat
      walk_at "rd"
      refine r_iteD (fun _ => ?_) (fun h => absurd rfl h)
      walk_at "rd"
      refine ⟨rfl, fun x dx hx hdx ne => ⟨rfl, fun E => ?_⟩⟩
      refine ⟨x, dx, n, b, t, rfl, upd_same, hok, fun H' fr hx' => ⟨rfl, ?_⟩⟩
      exact q x H' (frame_same hx hdx fr) hx ⟨dx, hx'⟩
    | sym n b t g =>
      have hp : H p = some (.tup [.str "symlink", .str n, .int b, .int t, .str g]) := hat
      walk_at "rd"
      refine r_iteD (fun _ => ?_) (fun h => absurd rfl h)
      walk_at "rd"
      refine ⟨rfl, fun x dx hx hdx ne => ⟨rfl, fun E => ?_⟩⟩
      refine ⟨x, dx, n, g, b, t, rfl, upd_same, hok.1, hok.2, fun H' fr hx' => ⟨rfl, ?_⟩⟩
      exact q x H' (frame_same hx hdx fr) hx ⟨dx, hx'⟩
    | lnk n b t g =>
      have hp : H p = some (.tup [.str "link", .str n, .int b, .int t, .str g]) := hat
      walk_at "rd"
      refine r_iteD (fun _ => ?_) (fun h => absurd rfl h)
      walk_at "rd"
      refine ⟨rfl, fun x dx hx hdx ne => ⟨rfl, fun E => ?_⟩⟩
      refine ⟨x, dx, n, g, b, t, rfl, upd_same, hok.1, hok.2, fun H' fr hx' => ⟨rfl, ?_⟩⟩
      exact q x H' (frame_same hx hdx fr) hx ⟨dx, hx'⟩
    | sparse n b t z sp =>
      obtain ⟨q9, d, hp, hq9, as, hd, hpd⟩ := hat
      obtain ⟨st, z0, z1, hl, hso, hall⟩ := hok
      walk_at "rd"
      intro D hD
      have hal : as.length = sp.length := hpd.length
      refine lc_it (walk_list (xs := as.map V.ref)) (fun i H' => Same H H' ∧ ∃ bs : List Addr, H' D = some (.lst (bs.map V.ref)) ∧ Paired (fun q (s : Int × List Int) => q ≠ D ∧ H' q = some (.tup [.int s.1, .byt (byteArr s.2)])) bs (sp.take i)) ?_ (fun i H' _ ⟨e, _⟩ => SqL.of (e _ _ hd)) ?_ ?_
      · exact ⟨same_new hD, [], upd_same, .nil⟩
      · rintro i x Hc H' hi ⟨e, bs, hb, hbp⟩ ⟨rfl, hx⟩
        rw [List.getElem?_map] at hx
        obtain ⟨qa, hqa, rfl⟩ : ∃ qa, as[i]? = some qa ∧ V.ref qa = x := by
          cases e : as[i]? with
          | none => rw [e] at hx; cases hx
          | some qa => rw [e] at hx; exact ⟨qa, rfl, Option.some.inj hx⟩
        obtain ⟨s, hsi, ea, hq1, hq2⟩ := paired_at hpd hqa
        have hq' := e _ _ hq1
        have he' := e _ _ hq2
        have hin := List.mem_of_getElem? hsi
        have hsz : s.2.length ≤ 70000 := by
          have h1 := spansOk_all (Int.le_refl 0) hso (s.1, (s.2.length : Int)) (List.mem_map.mpr ⟨s, hin, rfl⟩)
          have h2 : s.1 + (s.2.length : Int) ≤ z := h1.2.2
          have h3 : 0 ≤ s.1 := h1.1
          omega
        walk_at "rd"
        refine ⟨rfl, ?_⟩
        unfold tYes
        dsimp only
        rw [if_pos rfl]
        walk_at "rd"
        refine sp_blob he' hsz (hall s hin) (fun H2 e2 => ?_)
        walk_at "rd"
        rename_i T hT
        have hb2 := e2 _ _ hb
        have nTD : T ≠ D := (ne_of_none hb2 hT).symm
        have hbl : (bs.map V.ref).length ≤ 50 := by
          rw [List.length_map, hbp.length, List.length_take]
          omega
        refine ⟨_, upd_old hT hb2, Nat.lt_of_le_of_lt hbl (by decide), fun b o eo => ?_, bs ++ [T], by rw [upd_same, List.map_append]; rfl, ?_⟩
        · have h2 := e2 _ _ (e _ _ eo)
          rw [upd_ne (ne_of_none eo hD), upd_ne (ne_of_none h2 hT)]
          exact h2
        · rw [take_snoc hsi]
          refine paired_snoc (Paired.mapP hbp fun y s ⟨n1, g1⟩ => ⟨n1, ?_⟩) ⟨nTD, ?_⟩
          · have h2 := e2 _ _ g1
            rw [upd_ne n1, upd_ne (ne_of_none h2 hT)]
            exact h2
          · rw [upd_ne nTD, upd_same]
      · rintro H1 ⟨e, bs, hb, hbp⟩
        rw [List.length_map, hal, List.take_length] at hbp
        have hp1 := e _ _ hp
        have hpc : pcsOk z (sp.map fun s => (s.1, byteArr s.2)) := by
          unfold pcsOk
          rw [List.map_map]
          have e3 : (sp.map ((fun (s : Int × Array UInt8) => (s.1, (s.2.size : Int))) ∘ fun s => (s.1, byteArr s.2))) = sp.map fun s => (s.1, (s.2.length : Int)) := by
            refine List.map_congr_left fun s _ => ?_
            show (s.1, ((byteArr s.2).size : Int)) = _
            rw [byteArr_size]
          rw [e3]
          exact hso
        have fin : ∀ (H4 : Hp), Same H1 H4 → ∀ (x dx : Addr), H4 x = none → H4 dx = none → dx ≠ x → spSpa c.S b t (.ref x :: .str n :: .int z :: bs.map V.ref) (upd (upd H4 dx (.own x)) x (.ins c.S dx [])) (fun v H3 => v = .non ∧ Q (.ref x) H3) := by
          intro H4 e14 x dx hx hdx ne
          refine ⟨x, dx, n, z, bs, sp.map fun s => (s.1, byteArr s.2), rfl, upd_same, st, ?_, hpc, z0, z1, by rw [List.length_map]; omega, fun p' H' hp' fr gp gx => ⟨rfl, ?_⟩⟩
          · refine paired_map (g := fun (s : Int × List Int) => (s.1, byteArr s.2)) (Paired.mapP hbp fun y s ⟨_, g1⟩ => ?_)
            show upd (upd H4 dx (.own x)) x (.ins c.S dx []) y = _
            rw [upd_ne (ne_of_none (e14 _ _ g1) hx), upd_ne (ne_of_none (e14 _ _ g1) hdx)]
            exact e14 _ _ g1
          · have sm := frame_same hx hdx fr
            exact q x H' ((e.trans e14).trans sm) ((e.trans e14).free hx) ⟨dx, p', gx, bs, gp, paired_map (g := fun (s : Int × List Int) => (s.1, byteArr s.2)) (Paired.mapP hbp fun y s ⟨_, g1⟩ => sm _ _ (e14 _ _ g1))⟩
        have hlb : bs.length ≤ 2 := by rw [hbp.length]; exact hfew.1
        rcases bs with _ | ⟨b1, _ | ⟨b2, _ | ⟨b3, bs⟩⟩⟩
        · simp only [List.map_cons, List.map_nil] at hb
          walk_at "rd"
          rename_i pe hpe
          refine ⟨D, pe, _, rfl, rfl, upd_old hpe hb, upd_same, ?_⟩
          walk_at "rd"
          refine (show (if true = true then _ else _) from ?_)
          rw [if_pos rfl]
          walk_at "rd"
          exact ⟨rfl, fun x dx hx hdx ne => ⟨b, t, rfl, fin _ (same_new hpe) x dx hx hdx ne⟩⟩
        · simp only [List.map_cons, List.map_nil] at hb
          walk_at "rd"
          rename_i pe hpe
          refine ⟨D, pe, _, rfl, rfl, upd_old hpe hb, upd_same, ?_⟩
          walk_at "rd"
          refine r_iteD (fun _ => ?_) (fun h => absurd rfl h)
          walk_at "rd"
          exact ⟨rfl, fun x dx hx hdx ne => ⟨b, t, rfl, fin _ (same_new hpe) x dx hx hdx ne⟩⟩
        · simp only [List.map_cons, List.map_nil] at hb
          walk_at "rd"
          rename_i pe hpe
          refine ⟨D, pe, _, rfl, rfl, upd_old hpe hb, upd_same, ?_⟩
          walk_at "rd"
          exact ⟨rfl, fun x dx hx hdx ne => ⟨b, t, rfl, fin _ (same_new hpe) x dx hx hdx ne⟩⟩
        · simp only [List.length_cons] at hlb
          omega
end
/-! ### content -/
def rBytesN : List V → Hp → VK → Prop := fun xs H Q => ∃ n : Int, xs = [.int n] ∧ 0 ≤ n ∧ n ≤ 16777216 ∧ Q (.byt (Array.replicate n.toNat 0)) H
theorem call_bytesN {X : Cx} : CallR X (.type "bytes") rBytesN := by
  intro pins s σ H xs us Q I r h
  obtain ⟨n, rfl, h0, h1, q⟩ := h
  obtain ⟨u, rfl, t, rfl⟩ : ∃ u, us = [u] ∧ ∃ t, u = Value.int n t := by
    obtain ⟨u, rfl, ru⟩ := vals1 r
    exact ⟨u, rfl, ru⟩
  exact call_bytes_size h0 h1 fun t' k => ⟨.byt _, H, I.tok k, ⟨_, rfl⟩, q⟩
theorem r_bytesN {n : Int} {H : Hp} {Q : VK} (h0 : 0 ≤ n) (h1 : n ≤ 16777216) (h : Q (.byt (Array.replicate n.toNat 0)) H) : rBytesN [.int n] H Q := ⟨n, rfl, h0, h1, h⟩
/-- a method of bytes -/
def tBMB (r : V → List V → Hp → VK → Prop) (to : TE) (t : TA) : TE := fun σ H Q => to σ H fun x H1 => ∃ y, x = .byt y ∧ t σ H1 fun xs H2 => r x xs H2 Q
theorem pe_bmB {X : Cx} {o e : Expr} {es : List Expr} {to : TE} {t : TA} {name : Str} {apos cpos : Pos} {id : String} {r : V → List V → Hp → VK → Prop} (pa : PlainAttrs "bytes") (slot : Slot "bytes" name id) (hty : typeOf (.builtin id) = pure (.type "method_descriptor")) (hm : MtR X id r) (ho : PE X o to) (ha : PA X (e :: es) t)
    (hbase : attributeBase o name X.env (eval o X.env) = eval o X.env := by rfl)
    (hfew : ((backTo cpos (starEach (e :: es) X.env)).all (fun x => !x.1) && (backToKw cpos (keywordEach [] X.env)).all (fun x => x.1.isSome)
      && decide ((e :: es).length + ([] : List Keyword).length + (if ([] : List Keyword).isEmpty then 0 else 1) < 30)) = true := by rfl)
    (hline : (apos.endLine == cpos.line) = true := by rfl) (hs : starEach (e :: es) X.env = (false, eval e X.env) :: starEach es X.env := by rfl) (hplain : (backTo cpos (starEach es X.env)).any (·.1) = false := by rfl) :
    PE X (.Call (.Attribute o name apos) (e :: es) [] cpos) (tBMB r to t) := by
  refine ⟨fun pins s σ H Q I h => ?_⟩
  refine wpAny_Call_method_late hbase hfew hline rfl (thn (ho.run pins s σ H _ I h) fun v s1 ⟨x, H1, I1, r1, y, ex, q1⟩ => ?_)
  subst ex
  obtain ⟨tk, rfl⟩ := (show ∃ tk, v = Value.bytes y tk from r1)
  refine ⟨"bytes", id, pa, slot, hty, PySem.W.typeIs_bytes s1 y tk, fun a e => (by cases e), ?_⟩
  have hA := ha.run cpos pins s1 σ H1 _ I1 q1
  rw [hs] at hA ⊢
  refine Calls.callWith_builtin (by show (false || (backTo cpos (starEach es X.env)).any (·.1)) = false; rw [hplain] <;> rfl) (Calls.evalArgs_plain ?_)
  exact thn hA fun us s2 ⟨vs, H2, I2, r2, q2⟩ => hm pins s2 σ H2 (.byt y) vs _ us Q I2 r1 r2 q2
theorem r_bmB {σ : L2.St} {H : Hp} {Q : VK} {r : V → List V → Hp → VK → Prop} {to : TE} {t : TA} (h : to σ H fun x H1 => ∃ y, x = .byt y ∧ t σ H1 fun xs H2 => r x xs H2 Q) : tBMB r to t σ H Q := h
/-! ### the rules of the bytes, by name -/
def rEnc : V → List V → Hp → VK → Prop := fun x xs H Q => ∃ a b, x = .str a ∧ xs = [.str b] ∧ (PySem.W.KSb.Asc a ∧ a.length ≤ 16777216 ∧ b = PySem.Str.ofString "ascii") ∧ Q (.byt (Bt.byOf a.cps.toList)) H
theorem mt_encN {X : Cx} : MtR X "str.encode" rEnc := Bt.mt_enc
theorem r_enc {z : Str} {H : Hp} {Q : VK} (ha : PySem.W.KSb.Asc z) (hz : z.length ≤ 100000) (h : Q (.byt (Bt.byOf z.cps.toList)) H) : rEnc (.str z) [.str "ascii"] H Q := ⟨z, _, rfl, rfl, ⟨ha, by omega, rfl⟩, h⟩
def rZf : V → List V → Hp → VK → Prop := fun x xs H Q => ∃ (a : Str) (i : Int), x = .str a ∧ xs = [.int i] ∧ PadOk i = true ∧ Q (.str (Txt.zfill a i)) H
theorem mt_zfN {X : Cx} : MtR X "str.zfill" rZf := mt_zfill
theorem r_zf {z : Str} {i : Int} {H : Hp} {Q : VK} (hp : PadOk i = true) (h : Q (.str (Txt.zfill z i)) H) : rZf (.str z) [.int i] H Q := ⟨z, i, rfl, rfl, hp, h⟩
def rAddY : R2 := fun x y H Q => ∃ i j, x = .byt i ∧ y = .byt j ∧ i.size + j.size ≤ 16777216 ∧ Q (.byt (i ++ j)) H
theorem op_addY {X : Cx} : OpR X (binaryOp .Add) rAddY := op_add_byt
theorem r_addY {i j : Array UInt8} {H : Hp} {Q : VK} (hz : i.size + j.size ≤ 100000) (h : Q (.byt (i ++ j)) H) : rAddY (.byt i) (.byt j) H Q := ⟨i, j, rfl, rfl, by omega, h⟩
theorem r_fmtO {g : Nat → List Nat} {te : TE} {σ : L2.St} {H : Hp} {Q : VK} (h : te σ H fun x H1 => ∃ n : Nat, x = .int n ∧ n < 8 ^ 30 ∧ Q (.str ⟨(g n).toArray⟩) H1) : Bt.tFmtO g te σ H Q := h
open Bt in
theorem byOf_app (a b : List Nat) : byOf a ++ byOf b = byOf (a ++ b) := by
  apply Array.toList_inj.mp
  simp [byOf]
open Bt in
theorem byOf_zero (n : Nat) : Array.replicate n (0 : UInt8) = byOf (List.replicate n 0) := by
  apply Array.toList_inj.mp
  simp [byOf]
open Bt in
theorem byOf_size (a : List Nat) : (byOf a).size = a.length := by simp [byOf]
theorem cut_to {z : Str} {n : Nat} : cutS z none (some (n : Int)) = ⟨(z.cps.toList.take n).toArray⟩ := by
  rw [C8.cutS_slice]
  have := SX.slice_to (a := z.cps.toList) (i := (n : Int)) (by omega)
  rw [SX.S_tl] at this
  rw [this]
  rfl
/-- the text in a field of 100 bytes -/
def fldT (z : Str) : List Nat := z.cps.toList.take 100 ++ List.replicate (100 - (z.cps.toList.take 100).length) 0
def fldO (n k : Nat) : List Nat := Bt.octP n k ++ [0]
theorem asc_take {z : Str} (h : PySem.W.KSb.Asc z) (n : Nat) : PySem.W.KSb.Asc ⟨(z.cps.toList.take n).toArray⟩ := fun c hc => h c (List.mem_of_mem_take (by simpa using hc))
section
variable {P : Program} {w : World} {K : PySem.W.Frag} {mg : Str → Option Value} {base : Heap}
def spTField : Sp := fun vs H Q _ => ∃ z : Str, vs = [.str z] ∧ PySem.W.KSb.Asc z ∧ z.length ≤ 1000 ∧ Q (.byt (Bt.byOf (fldT z))) H
theorem sp_tfield {z : Str} {H : Hp} {Q : VK} {E : XK} (ha : PySem.W.KSb.Asc z) (hz : z.length ≤ 1000) (k : Q (.byt (Bt.byOf (fldT z))) H) : spTField ([.str z] ++ []) H Q E := ⟨z, rfl, ha, hz, k⟩
theorem ok_tfield {f : Addr} {fd : FuncData} {k : Nat} {t1 : Tok} (F : Fun K "text_field" "text_field" s_text_field f fd) (m1 : mg "len" = none) (m2 : mg "bytes" = none) (m_TS : mg "TEXT_SIZE" = some (.int 100 t1)) : FnOk P w K mg base CX0 (k + 2) f fd ["text"] spTField := by
  refine F.ok sc_text_field (fun vs H Q E h => ?_) (fun cdv A outer s H vs Q E hr h => ?_)
  · obtain ⟨z, rfl, _⟩ := h
    rfl
  · obtain ⟨z, rfl, ha, hz, q⟩ := h
    have hu := hu_of hr
    have nd := sc_text_field.nd
    refine ⟨_, (pss_cons (ps_set (i := 1) nd rfl (Or.inl rfl) (pe_bm PySem.F.plainAttrs_str PySem.F.slot_str_encode PySem.F.type_str_encode mt_encN (pe_slice sl_str (pv 0) po_none (po_some (pe_glob (v := .int 100) (by rfl) m_TS (by first | exact rfl | exact ⟨_, rfl⟩)))) (pa_cons pe_str pa_nil)))
      (pss_one (ps_ret (pe_op op_addY (pv 1) (pe_callTy call_bytesN (by rfl) (by assumption) (by decide +kernel) (pa_cons (pe_op op_sub (pe_glob (v := .int 100) (by rfl) m_TS (by first | exact rfl | exact ⟨_, rfl⟩)) (pe_callB call_rLenY (by rfl) (by assumption) (by decide +kernel) (pa_cons (pv 1) pa_nil))) pa_nil)))))), ?_⟩
    have hc : cutS z none (some (100 : Int)) = ⟨(z.cps.toList.take 100).toArray⟩ := cut_to (n := 100)
    have hl : (z.cps.toList.take 100).length ≤ 100 := List.length_take_le ..
    walk_at "rd"
    refine ⟨rfl, ?_⟩
    rw [hc]
    walk_at "rd"
    refine r_enc (asc_take ha 100) (by simp [PySem.Str.length]; omega) ?_
    walk_at "rd"
    rw [show (⟨(z.cps.toList.take 100).toArray⟩ : Str).cps.toList = z.cps.toList.take 100 from by simp]
    refine r_rLenY (by rw [byOf_size]; exact Nat.le_trans hl (by decide)) ?_
    rw [byOf_size]
    walk_at "rd"
    refine r_bytesN (by omega) (by omega) ?_
    rw [show ((100 : Int) - ((z.cps.toList.take 100).length : Int)).toNat = 100 - (z.cps.toList.take 100).length from by omega, byOf_zero]
    refine r_addY (by rw [byOf_size, byOf_size, List.length_replicate]; omega) ?_
    rw [byOf_app]
    exact q
def spOField : Sp := fun vs H Q _ => ∃ n k : Nat, vs = [.int (n : Int), .int (k : Int)] ∧ 2 ≤ k ∧ k ≤ 20 ∧ n < 8 ^ (k - 1) ∧ Q (.byt (Bt.byOf (fldO n (k - 1)))) H
theorem sp_ofield {n k : Nat} {H : Hp} {Q : VK} {E : XK} (h1 : 2 ≤ k) (h2 : k ≤ 20) (h3 : n < 8 ^ (k - 1)) (q : Q (.byt (Bt.byOf (fldO n (k - 1)))) H) : spOField ([.int (n : Int), .int (k : Int)] ++ []) H Q E := ⟨n, k, rfl, h1, h2, h3, q⟩
theorem pow_le8 {n k : Nat} (h : n < 8 ^ (k - 1)) (hk : k ≤ 20) : n < 8 ^ 30 := Nat.lt_of_lt_of_le h (Nat.pow_le_pow_right (by decide) (by omega))
theorem padok {k : Nat} (h : k ≤ 100) : PadOk (k : Int) = true := by
  unfold PadOk
  have h1 : PySem.fitsSsize (k : Int) = true := by
    unfold PySem.fitsSsize
    simp only [Bool.not_eq_true', Bool.or_eq_false_iff, decide_eq_false_iff_not]
    omega
  have h2 : PySem.Builtin.Str.tooLong (k : Int).toNat = false := by
    unfold PySem.Builtin.Str.tooLong
    rw [decide_eq_false_iff_not, sizeLine_eq]
    omega
  rw [h1, h2]
  rfl
theorem ok_ofield {f : Addr} {fd : FuncData} {k : Nat} (F : Fun K "octal_field" "octal_field" s_octal_field f fd) : FnOk P w K mg base CX0 (k + 2) f fd ["number", "size"] spOField := by
  refine F.ok sc_octal_field (fun vs H Q E h => ?_) (fun cdv A outer s H vs Q E hr h => ?_)
  · obtain ⟨n, k, rfl, _⟩ := h
    rfl
  · obtain ⟨n, k, rfl, h1, h2, h3, q⟩ := h
    have hu := hu_of hr
    have nd := sc_octal_field.nd
    have h30 := pow_le8 h3 h2
    refine ⟨_, (pss_one (ps_ret (pe_op op_addY (pe_bm PySem.F.plainAttrs_str PySem.F.slot_str_encode PySem.F.type_str_encode mt_encN (pe_bm PySem.F.plainAttrs_str PySem.F.slot_str_zfill PySem.F.type_str_zfill mt_zfN (pe_joined1 (Bt.pe_o (pv 0) (pe_joined1 pe_str))) (pa_cons (pe_op op_sub (pv 1) pe_int) pa_nil)) (pa_cons pe_str pa_nil)) pe_byt))), ?_⟩
    have hk : ((k : Int) - 1) = ((k - 1 : Nat) : Int) := by omega
    have hlen : (Bt.octP n (k - 1)).length = k - 1 := Bt.octP_length (by omega) h3
    walk_at "rd"
    refine r_fmtO ?_
    walk_at "rd"
    refine ⟨n, rfl, h30, ?_⟩
    refine ⟨rfl, ?_⟩
    walk_at "rd"
    rw [hk]
    refine r_zf (padok (by omega)) ?_
    refine ⟨rfl, ?_⟩
    rw [Bt.zfill_oct]
    walk_at "rd"
    refine r_enc (Bt.asc_oct n (k - 1)) (by simp [PySem.Str.length]; omega) ?_
    rw [show (⟨(Bt.octP n (k - 1)).toArray⟩ : Str).cps.toList = Bt.octP n (k - 1) from by simp]
    rw [show (#[0] : Array UInt8) = Bt.byOf [0] from rfl]
    refine r_addY (by rw [byOf_size, byOf_size, hlen]; simp; omega) ?_
    rw [byOf_app]
    exact q
end
/-! ### the law's own fields -/
def nL (l : List Nat) : List Int := l.map fun c => ((c : Nat) : Int)
theorem nL_app (a b : List Nat) : nL (a ++ b) = nL a ++ nL b := List.map_append ..
theorem none_old {H H' : Hp} {a : Addr} (h : H' a = none) (e : ∀ o, H a = some o → ∃ o', H' a = some o') : H a = none := by
  cases x : H a with
  | none => rfl
  | some o =>
    obtain ⟨o', h'⟩ := e o x
    rw [h] at h'
    cases h'
/-! ### the law's head -/
def LN (H : Hp) (p : Addr) (xs : List Nat) : Prop := H p = some (.lst ((nL xs).map V.int))
theorem nL_len (xs : List Nat) : ((nL xs).map V.int).length = xs.length := by rw [List.length_map, nL, List.length_map]
theorem LN.same {H H' : Hp} {p : Addr} {xs : List Nat} (h : LN H p xs) (e : Same H H') : LN H' p xs := e _ _ h
theorem same_upd {H H' : Hp} {p : Addr} {o : HO} (e : Same H H') (hp : H' p = none) : Same H (upd H' p o) := fun b x eo => by
  rw [upd_ne (ne_of_none (e _ _ eo) hp)]
  exact e _ _ eo
def rSumN (K : PySem.W.Frag) : List V → Hp → VK → Prop := rSum K
theorem call_sumK {X : Cx} (K : PySem.W.Frag) (hK : X.K = K := by rfl) (hc : X.calm = true := by rfl) : CallR X (.builtin "sum") (rSumN K) := hK ▸ cr_sum hc
theorem nL_sum (xs : List Nat) : (nL xs).sum = ((xs.sum : Nat) : Int) := by
  induction xs with
  | nil => rfl
  | cons x xs ih =>
    show (x : Int) + (nL xs).sum = _
    rw [ih, List.sum_cons]
    omega
theorem sumN {K : PySem.W.Frag} {H : Hp} {p : Addr} {xs : List Nat} {Q : VK} (h : LN H p xs) (q : Q (.int ((xs.sum : Nat) : Int)) H) : rSumN K [.ref p] H Q := by
  refine ⟨p, nL xs, rfl, SqL.of h, ?_⟩
  rw [nL_sum]
  exact q
theorem sIx_nat (L d n : Nat) : HT.sIx L d (some (n : Int)) = min n L := by
  unfold HT.sIx
  simp only []
  first | omega | (split <;> omega) | (simp; omega)
theorem sIx_none (L d : Nat) : HT.sIx L d none = d := rfl
theorem cutV_to (xs : List V) (n : Nat) : cutV xs none (some (n : Int)) = xs.take n := by
  unfold cutV
  rw [sIx_nat, sIx_none, List.drop_zero, Nat.sub_zero]
  rcases Nat.le_total n xs.length with h | h
  · rw [Nat.min_eq_left h]
  · rw [Nat.min_eq_right h, List.take_of_length_le (Nat.le_refl _), List.take_of_length_le h]
theorem cutV_from (xs : List V) (n : Nat) : cutV xs (some (n : Int)) none = xs.drop n := by
  unfold cutV
  rw [sIx_nat, sIx_none]
  rcases Nat.le_total n xs.length with h | h
  · rw [Nat.min_eq_left h, List.take_of_length_le (by rw [List.length_drop]; omega)]
  · rw [Nat.min_eq_right h, List.drop_eq_nil_of_le h, List.drop_eq_nil_of_le (Nat.le_refl _)]
    simp
/-- the front of a header, its back, and the whole -/
def FR (z : Str) (m s t : Nat) : List Nat := fldT z ++ fldO m 7 ++ fldO 0 7 ++ fldO 0 7 ++ fldO s 11 ++ fldO t 11
def BK (l a : Str) : List Nat := l.cps.toList ++ fldT a ++ [117, 115, 116, 97, 114] ++ [0, 48, 48] ++ List.replicate 247 0
def SM (l z a : Str) (m s t : Nat) : Nat := (FR z m s t).sum + (BK l a).sum + 256
def HD (l z a : Str) (m s t : Nat) : List Nat := FR z m s t ++ fldO (SM l z a m s t) 6 ++ [32] ++ BK l a
theorem sum_le : ∀ (xs : List Nat), (∀ x ∈ xs, x ≤ 127) → xs.sum ≤ 127 * xs.length
  | [], _ => by simp
  | x :: xs, h => by
    have h1 := h x (.head _)
    have h2 := sum_le xs fun y hy => h y (.tail _ hy)
    rw [List.sum_cons, List.length_cons]
    omega
theorem fldT_len (z : Str) : (fldT z).length = 100 := by
  unfold fldT
  rw [List.length_append, List.length_replicate, List.length_take]
  omega
theorem fldO_len {n k : Nat} (hk : 1 ≤ k) (h : n < 8 ^ k) : (fldO n k).length = k + 1 := by
  unfold fldO
  rw [List.length_append, Bt.octP_length hk h]
  rfl
theorem FR_len {z : Str} {m s t : Nat} (hm : m < 8 ^ 7) (hs : s < 8 ^ 11) (ht : t < 8 ^ 11) : (FR z m s t).length = 148 := by
  unfold FR
  simp only [List.length_append, fldT_len, fldO_len (show 1 ≤ 7 by decide) hm, fldO_len (show 1 ≤ 7 by decide) (show 0 < 8 ^ 7 by decide), fldO_len (show 1 ≤ 11 by decide) hs, fldO_len (show 1 ≤ 11 by decide) ht]
theorem BK_len {l a : Str} (hl : l.cps.toList.length = 1) : (BK l a).length = 356 := by
  unfold BK
  simp only [List.length_append, fldT_len, hl, List.length_replicate]
  rfl
theorem fldT_le {z : Str} (h : PySem.W.KSb.Asc z) : ∀ x ∈ fldT z, x ≤ 127 := fun x hx => by
  unfold fldT at hx
  rcases List.mem_append.mp hx with hx | hx
  · have := h x (List.mem_of_mem_take hx)
    omega
  · have := List.eq_of_mem_replicate hx
    omega
theorem fldO_le (n k : Nat) : ∀ x ∈ fldO n k, x ≤ 127 := fun x hx => by
  unfold fldO at hx
  rcases List.mem_append.mp hx with hx | hx
  · have := Bt.octP_signs n k x hx
    omega
  · have := List.mem_singleton.mp hx
    omega
theorem FR_le {z : Str} {m s t : Nat} (hz : PySem.W.KSb.Asc z) : ∀ x ∈ FR z m s t, x ≤ 127 := fun x hx => by
  unfold FR at hx
  simp only [List.mem_append] at hx
  rcases hx with ((((hx | hx) | hx) | hx) | hx) | hx
  · exact fldT_le hz x hx
  all_goals exact fldO_le _ _ x hx
theorem BK_le {l a : Str} (hl : PySem.W.KSb.Asc l) (ha : PySem.W.KSb.Asc a) : ∀ x ∈ BK l a, x ≤ 127 := fun x hx => by
  unfold BK at hx
  simp only [List.mem_append] at hx
  rcases hx with (((hx | hx) | hx) | hx) | hx
  · have := hl x hx
    omega
  · exact fldT_le ha x hx
  · simp at hx
    omega
  · simp at hx
    omega
  · have := List.eq_of_mem_replicate hx
    omega
theorem SM_lt {l z a : Str} {m s t : Nat} (hl' : l.cps.toList.length = 1) (hl : PySem.W.KSb.Asc l) (hz : PySem.W.KSb.Asc z) (ha : PySem.W.KSb.Asc a) (hm : m < 8 ^ 7) (hs : s < 8 ^ 11) (ht : t < 8 ^ 11) : SM l z a m s t < 8 ^ 6 := by
  have h1 := sum_le _ (FR_le (z := z) (m := m) (s := s) (t := t) hz)
  have h2 := sum_le _ (BK_le hl ha)
  rw [FR_len hm hs ht] at h1
  rw [BK_len hl'] at h2
  unfold SM
  omega
section
variable {P : Program} {w : World} {K : PySem.W.Frag} {mg : Str → Option Value} {base : Heap}
def spHead (K : PySem.W.Frag) : Sp := fun vs H Q _ => ∃ (l z a : Str) (p : Addr) (m s t : Nat), vs = [.str l, .str z, .ref p, .str a] ∧ (SqL K H p [.int (m : Int), .int (s : Int), .int (t : Int)] ∨ SqT K H p [.int (m : Int), .int (s : Int), .int (t : Int)]) ∧
  l.length = 1 ∧ z.length ≤ 1000 ∧ a.length ≤ 1000 ∧ PySem.W.KSb.Asc l ∧ PySem.W.KSb.Asc z ∧ PySem.W.KSb.Asc a ∧ m < 8 ^ 7 ∧ s < 8 ^ 11 ∧ t < 8 ^ 11 ∧ ∀ p' H', H p' = none → Same H H' → LN H' p' (HD l z a m s t) → Q (.ref p') H'
end
/-! ### the program's checksum and header -/
/-- all the bytes of a list of bytes, one after another -/
def flatB (bs : List (Array UInt8)) : List UInt8 := (bs.map Array.toList).flatten
theorem fold_join : ∀ (l : List (Array UInt8 × Nat)) (acc : Array UInt8), (l.foldl (fun out (p : Array UInt8 × Nat) => (if p.2 > 0 then out ++ (#[] : Array UInt8) else out) ++ p.1) acc).toList = acc.toList ++ ((l.map Prod.fst).map Array.toList).flatten
  | [], acc => by simp
  | (p, i) :: r, acc => by
    rw [List.foldl_cons, fold_join r]
    by_cases h : i > 0
    · simp [h]
    · simp [h]
theorem joined_flat (bs : List (Array UInt8)) : (Builtin.Bytes.joined #[] bs).toList = flatB bs := by
  unfold Builtin.Bytes.joined
  have h := fold_join bs.zipIdx #[]
  rw [List.zipIdx_map_fst] at h
  exact h
theorem fold_size : ∀ (bs : List (Array UInt8)) (n : Nat), bs.foldl (· + ·.size) n = n + (flatB bs).length
  | [], n => by simp [flatB]
  | b :: r, n => by
    rw [List.foldl_cons, fold_size r]
    simp [flatB, Nat.add_assoc]
theorem r_bjoin {K : PySem.W.Frag} {p : Addr} {bs : List (Array UInt8)} {H : Hp} {Q : VK} (hp : H p = some (.lst (bs.map V.byt))) (hz : (flatB bs).length ≤ 16777216) (h : Q (.byt (flatB bs).toArray) H) : rBjoin K (.byt #[]) [.ref p] H Q := by
  have e : Builtin.Bytes.joined #[] bs = (flatB bs).toArray := by
    apply Array.ext'
    rw [joined_flat]
  refine ⟨#[], p, bs, rfl, rfl, SqL.of hp, ?_, ?_, ?_⟩
  · rw [← Array.foldl_toList, fold_size]
    unfold Builtin.Bytes.tooLong
    rw [sizeLine_eq]
    exact decide_eq_false (by simp; omega)
  · rw [e, sizeLine_eq, List.size_toArray]
    exact hz
  · rw [e]
    exact h
def rSlY : V → Option Int → Option Int → Hp → VK → Prop := rSlB
theorem sl_Y {X : Cx} : SlR X rSlY := sl_byt
theorem r_slTo {xs : List Nat} {n : Nat} {H : Hp} {Q : VK} (hn : n ≤ xs.length) (hz : xs.length ≤ 100000) (h : Q (.byt (Bt.byOf (xs.take n))) H) : rSlY (.byt (Bt.byOf xs)) none (some (n : Int)) H Q := by
  refine ⟨_, rfl, by rw [byOf_size]; omega, ?_⟩
  unfold Bt.byOf
  rw [L2.pk_to (by rw [List.length_map]; exact hn), ← List.map_take]
  exact h
theorem r_slFrom {xs : List Nat} {n : Nat} {H : Hp} {Q : VK} (hn : n ≤ xs.length) (hz : xs.length ≤ 100000) (h : Q (.byt (Bt.byOf (xs.drop n))) H) : rSlY (.byt (Bt.byOf xs)) (some (n : Int)) none H Q := by
  refine ⟨_, rfl, by rw [byOf_size]; omega, ?_⟩
  unfold Bt.byOf
  rw [L2.pk_from (by rw [List.length_map]; exact hn), ← List.map_drop]
  exact h
def rSumB : List V → Hp → VK → Prop := fun vs H Q => ∃ b : List UInt8, vs = [.byt b.toArray] ∧ Q (.int (Bt.nums b).sum) H
theorem call_sumB {X : Cx} (hc : X.calm = true := by rfl) : CallR X (.builtin "sum") rSumB := Bt.cr_sumB hc
theorem nums_by {xs : List Nat} (h : ∀ x ∈ xs, x < 256) : Bt.nums (xs.map Nat.toUInt8) = nL xs := by
  unfold Bt.nums nL
  rw [List.map_map]
  refine List.map_congr_left fun c hc => ?_
  have e : c.toUInt8.toNat = c := by
    have h1 := h c hc
    show c % 256 = c
    omega
  show ((c.toUInt8.toNat : Nat) : Int) = c
  rw [e]
theorem r_sumB {xs : List Nat} {H : Hp} {Q : VK} (h : ∀ x ∈ xs, x < 256) (q : Q (.int ((xs.sum : Nat) : Int)) H) : rSumB [.byt (Bt.byOf xs)] H Q := by
  refine ⟨_, rfl, ?_⟩
  rw [nums_by h, nL_sum]
  exact q
def rMulB : R2 := fun x y H Q => ∃ (b : List UInt8) (n : Int), x = .byt b.toArray ∧ y = .int n ∧ (b ≠ [] ∧ -1048576 ≤ n ∧ n ≤ 1048576 ∧ b.length ≤ 16) ∧ Q (.byt ((List.replicate n.toNat b).flatten).toArray) H
theorem op_mulB {X : Cx} : OpR X (binaryOp .Mult) rMulB := Bt.op_mulB
/-- the sum of a block, eight spaces for the field itself -/
def CS (xs : List Nat) : Nat := (xs.take 148).sum + 256 + (xs.drop 156).sum
section
variable {P : Program} {w : World} {K : PySem.W.Frag} {mg : Str → Option Value} {base : Heap}
def spCheck : Sp := fun vs H Q _ => ∃ xs : List Nat, vs = [.byt (Bt.byOf xs)] ∧ xs.length = 512 ∧ (∀ x ∈ xs, x < 256) ∧ Q (.int ((CS xs : Nat) : Int)) H
theorem sp_check {xs : List Nat} {H : Hp} {Q : VK} {E : XK} (hl : xs.length = 512) (hx : ∀ x ∈ xs, x < 256) (q : Q (.int ((CS xs : Nat) : Int)) H) : spCheck ([.byt (Bt.byOf xs)] ++ []) H Q E := ⟨xs, rfl, hl, hx, q⟩
theorem ok_check {f : Addr} {fd : FuncData} {k : Nat} {t1 : Tok} (F : Fun K "checksum" "checksum" s_checksum f fd) (m1 : mg "sum" = none) (m2 : mg "len" = none) (m3 : mg "isinstance" = none) (m4 : mg "bytes" = none) (m_BS : mg "BLOCK_SIZE" = some (.int 512 t1)) :
    FnOk P w K mg base CX0 (k + 2) f fd ["block"] spCheck := by
  refine F.ok sc_checksum (fun vs H Q E h => ?_) (fun cdv A outer s H vs Q E hr h => ?_)
  · obtain ⟨xs, rfl, _⟩ := h
    rfl
  · obtain ⟨xs, rfl, hl, hx, q⟩ := h
    have hu := hu_of hr
    have nd := sc_checksum.nd
    have hsz : (Bt.byOf xs).size = 512 := by rw [byOf_size, hl]
    refine ⟨_, (pss_cons (ps_if (PW.pt (pw_or (pt_not (pt_val (pe_callB (call_isiK1 K) (by rfl) (by assumption) (by decide +kernel) (pa_cons (pv 0) (pa_cons (pe_bltn (v := .ty "bytes") (by rfl) (by assumption) (by decide +kernel) rfl) pa_nil))))) (pw_or1 (pt_cmpR op_ne (pe_callB call_rLenY (by rfl) (by assumption) (by decide +kernel) (pa_cons (pv 0) pa_nil)) (pe_glob (v := .int 512) (by rfl) m_BS (by first | exact rfl | exact ⟨_, rfl⟩)) (nomark _)))))
        (pss_one ps_never)
        pss_nil)
      (pss_one (ps_ret (pe_op op_add (pe_op op_add (pe_callB call_sumB (by rfl) (by assumption) (by decide +kernel) (pa_cons (pe_slice sl_Y (pv 0) po_none (po_some pe_int)) pa_nil)) (pe_callB call_sumB (by rfl) (by assumption) (by decide +kernel) (pa_cons (pe_op op_mulB pe_byt pe_int) pa_nil))) (pe_callB call_sumB (by rfl) (by assumption) (by decide +kernel) (pa_cons (pe_slice sl_Y (pv 0) (po_some pe_int) po_none) pa_nil)))))), ?_⟩
    walk_at "rd"
    rw [hsz, show decide (V.int ((512 : Nat) : Int) = V.int 512) = true from decide_eq_true rfl]
    walk_at "rd"
    refine r_slTo (n := 148) (by omega) (by omega) ?_
    walk_at "rd"
    refine r_sumB (fun x h => hx x (List.mem_of_mem_take h)) ?_
    walk_at "rd"
    refine ⟨[32], 8, rfl, rfl, ⟨by simp, by decide, by decide, by decide⟩, ?_⟩
    walk_at "rd"
    rw [show ((List.replicate (8 : Int).toNat [(32 : UInt8)]).flatten).toArray = Bt.byOf (List.replicate 8 32) from rfl]
    refine r_sumB (fun x h => by have := List.eq_of_mem_replicate h; omega) ?_
    walk_at "rd"
    refine r_slFrom (n := 156) (by omega) (by omega) ?_
    walk_at "rd"
    refine r_sumB (fun x h => hx x (List.mem_of_mem_drop h)) ?_
    walk_at "rd"
    unfold CS at q
    simpa using q
theorem sum_le2 : ∀ (xs : List Nat), (∀ x ∈ xs, x < 256) → xs.sum ≤ 255 * xs.length
  | [], _ => by simp
  | x :: xs, h => by
    have h1 := h x (.head _)
    have h2 := sum_le2 xs fun y hy => h y (.tail _ hy)
    rw [List.sum_cons, List.length_cons]
    omega
theorem CS_lt {xs : List Nat} (hl : xs.length = 512) (hx : ∀ x ∈ xs, x < 256) : CS xs < 8 ^ 6 := by
  have h1 := sum_le2 (xs.take 148) (fun x h => hx x (List.mem_of_mem_take h))
  have h2 := sum_le2 (xs.drop 156) (fun x h => hx x (List.mem_of_mem_drop h))
  rw [List.length_take] at h1
  rw [List.length_drop] at h2
  unfold CS
  omega
def spCField : Sp := fun vs H Q _ => ∃ xs : List Nat, vs = [.byt (Bt.byOf xs)] ∧ xs.length = 512 ∧ (∀ x ∈ xs, x < 256) ∧ Q (.byt (Bt.byOf (fldO (CS xs) 6 ++ [32]))) H
theorem sp_cfield {xs : List Nat} {H : Hp} {Q : VK} {E : XK} (hl : xs.length = 512) (hx : ∀ x ∈ xs, x < 256) (q : Q (.byt (Bt.byOf (fldO (CS xs) 6 ++ [32]))) H) : spCField ([.byt (Bt.byOf xs)] ++ []) H Q E := ⟨xs, rfl, hl, hx, q⟩
theorem ok_cfield {f : Addr} {fd : FuncData} {k : Nat} (F : Fun K "checksum_field" "checksum_field" s_checksum_field f fd) (c_checksum : CalT P w K mg base 2 "checksum" spCheck) : FnOk P w K mg base CX0 (k + 3) f fd ["block"] spCField := by
  refine F.ok sc_checksum_field (fun vs H Q E h => ?_) (fun cdv A outer s H vs Q E hr h => ?_)
  · obtain ⟨xs, rfl, _⟩ := h
    rfl
  · obtain ⟨xs, rfl, hl, hx, q⟩ := h
    have hu := hu_of hr
    have nd := sc_checksum_field.nd
    have hc := CS_lt hl hx
    refine ⟨_, (pss_one (ps_ret (pe_op op_addY (pe_bm PySem.F.plainAttrs_str PySem.F.slot_str_encode PySem.F.type_str_encode mt_encN (pe_joined1 (Bt.pe_06o (pe_cc c_checksum hr (by omega) (by rfl) (pa_cons (pv 0) pa_nil)) (pe_joined1 pe_str))) (pa_cons pe_str pa_nil)) pe_byt))), ?_⟩
    walk_at "rd"
    refine r_fmtO ?_
    walk_at "rd"
    refine sp_check hl hx ?_
    refine ⟨CS xs, rfl, by omega, ?_⟩
    refine ⟨rfl, ?_⟩
    walk_at "rd"
    refine r_enc (Bt.asc_oct (CS xs) 6) (by simp [PySem.Str.length]; rw [Bt.octP_length (by decide) hc]; decide) ?_
    rw [show (⟨(Bt.octP (CS xs) 6).toArray⟩ : Str).cps.toList = Bt.octP (CS xs) 6 from by simp]
    walk_at "rd"
    rw [show (#[0, 32] : Array UInt8) = Bt.byOf [0, 32] from rfl]
    refine r_addY (by rw [byOf_size, byOf_size, Bt.octP_length (by decide) hc]; decide) ?_
    rw [byOf_app]
    have e : Bt.octP (CS xs) 6 ++ [0, 32] = fldO (CS xs) 6 ++ [32] := by unfold fldO; rw [List.append_assoc]; rfl
    rw [e]
    exact q
theorem flat_FR {z : Str} {m s t : Nat} : flatB [Bt.byOf (fldT z), Bt.byOf (fldO m 7), Bt.byOf (fldO 0 7), Bt.byOf (fldO 0 7), Bt.byOf (fldO s 11), Bt.byOf (fldO t 11)] = (FR z m s t).map Nat.toUInt8 := by
  unfold flatB FR Bt.byOf
  simp only [List.map_cons, List.map_nil, List.flatten_cons, List.flatten_nil, List.append_nil, List.map_append, List.append_assoc]
theorem flat_BK {l a : Str} : flatB [Bt.byOf l.cps.toList, Bt.byOf (fldT a), #[117, 115, 116, 97, 114, 0, 48, 48], Array.replicate (247 : Int).toNat 0] = (BK l a).map Nat.toUInt8 := by
  unfold flatB BK Bt.byOf
  simp only [List.map_cons, List.map_nil, List.flatten_cons, List.flatten_nil, List.append_nil, List.map_append, List.append_assoc]
  rfl
theorem CS_SM {l z a : Str} {m s t : Nat} (hl : l.cps.toList.length = 1) (hm : m < 8 ^ 7) (hs : s < 8 ^ 11) (ht : t < 8 ^ 11) : CS (FR z m s t ++ List.replicate 8 0 ++ BK l a) = SM l z a m s t := by
  have h1 : (FR z m s t ++ List.replicate 8 0 ++ BK l a).take 148 = FR z m s t := by
    rw [List.append_assoc, List.take_append_of_le_length (by rw [FR_len hm hs ht]; omega), List.take_of_length_le (by rw [FR_len hm hs ht]; omega)]
  have h2 : (FR z m s t ++ List.replicate 8 0 ++ BK l a).drop 156 = BK l a := by
    have e : (FR z m s t ++ List.replicate 8 0).length = 156 := by rw [List.length_append, FR_len hm hs ht]; rfl
    rw [← e, List.drop_left]
  unfold CS SM
  rw [h1, h2]
  omega
def spHeader : Sp := fun vs H Q _ => ∃ (l z a : Str) (m s t : Nat), vs = [.str l, .str z, .int (m : Int), .int (s : Int), .int (t : Int), .str a] ∧
  l.length = 1 ∧ z.length ≤ 1000 ∧ a.length ≤ 1000 ∧ PySem.W.KSb.Asc l ∧ PySem.W.KSb.Asc z ∧ PySem.W.KSb.Asc a ∧ m < 8 ^ 7 ∧ s < 8 ^ 11 ∧ t < 8 ^ 11 ∧ ∀ H', Same H H' → Q (.byt (Bt.byOf (HD l z a m s t))) H'
theorem ok_header {f : Addr} {fd : FuncData} {k : Nat} {t1 t2 : Tok} (F : Fun K "header" "header" s_header f fd) (c_cfield : CalT P w K mg base 3 "checksum_field" spCField) (c_tfield : CalT P w K mg base 2 "text_field" spTField) (c_ofield : CalT P w K mg base 2 "octal_field" spOField)
    (m1 : mg "bytes" = none) (m_MG : mg "MAGIC" = some (.bytes #[117, 115, 116, 97, 114, 0, 48, 48] t2)) (m_RS : mg "REST_SIZE" = some (.int 247 t1)) : FnOk P w K mg base CX0 (k + 4) f fd ["kind", "name", "mode", "size", "time", "target"] spHeader := by
  refine F.ok sc_header (fun vs H Q E h => ?_) (fun cdv A outer s H vs Q E hr h => ?_)
  · obtain ⟨l, z, a, m, s, t, rfl, _⟩ := h
    rfl
  · obtain ⟨l, z, a, m, s, t, rfl, hl, hz, ha, hla, hza, haa, hm, hs, ht, q⟩ := h
    have hu := hu_of hr
    have nd := sc_header.nd
    refine ⟨_, (pss_cons (ps_set (i := 6) nd rfl (Or.inl rfl) (pe_bmB PySem.W.FB.plainAttrs_bytes R59.slot_bjoin R59.type_bjoin mt_bjoin pe_byt (pa_cons (pe_lst (pa_cons (pe_cc c_tfield hr (by omega) (by rfl) (pa_cons (pv 1) pa_nil)) (pa_cons (pe_cc c_ofield hr (by omega) (by rfl) (pa_cons (pv 2) (pa_cons pe_int pa_nil))) (pa_cons (pe_cc c_ofield hr (by omega) (by rfl) (pa_cons pe_int (pa_cons pe_int pa_nil))) (pa_cons (pe_cc c_ofield hr (by omega) (by rfl) (pa_cons pe_int (pa_cons pe_int pa_nil))) (pa_cons (pe_cc c_ofield hr (by omega) (by rfl) (pa_cons (pv 3) (pa_cons pe_int pa_nil))) (pa_cons (pe_cc c_ofield hr (by omega) (by rfl) (pa_cons (pv 4) (pa_cons pe_int pa_nil))) pa_nil))))))) pa_nil)))
      (pss_cons (ps_set (i := 7) nd rfl (Or.inl rfl) (pe_bmB PySem.W.FB.plainAttrs_bytes R59.slot_bjoin R59.type_bjoin mt_bjoin pe_byt (pa_cons (pe_lst (pa_cons (pe_bm PySem.F.plainAttrs_str PySem.F.slot_str_encode PySem.F.type_str_encode mt_encN (pv 0) (pa_cons pe_str pa_nil)) (pa_cons (pe_cc c_tfield hr (by omega) (by rfl) (pa_cons (pv 5) pa_nil)) (pa_cons (pe_glob (v := .byt #[117, 115, 116, 97, 114, 0, 48, 48]) (by rfl) m_MG (by first | exact rfl | exact ⟨_, rfl⟩)) (pa_cons (pe_callTy call_bytesN (by rfl) (by assumption) (by decide +kernel) (pa_cons (pe_glob (v := .int 247) (by rfl) m_RS (by first | exact rfl | exact ⟨_, rfl⟩)) pa_nil)) pa_nil))))) pa_nil)))
      (pss_one (ps_ret (pe_op op_addY (pe_op op_addY (pv 6) (pe_cc c_cfield hr (by omega) (by rfl) (pa_cons (pe_op op_addY (pe_op op_addY (pv 6) (pe_callTy call_bytesN (by rfl) (by assumption) (by decide +kernel) (pa_cons pe_int pa_nil))) (pv 7)) pa_nil))) (pv 7)))))), ?_⟩
    have hl' : l.cps.toList.length = 1 := by simpa [Str.length] using hl
    have hsm := SM_lt (m := m) (s := s) (t := t) hl' hla hza haa hm hs ht
    walk_at "rd"
    refine r_bmB ?_
    refine ⟨_, rfl, ?_⟩
    walk_at "rd"
    refine sp_tfield hza hz ?_
    walk_at "rd"
    refine sp_ofield (n := m) (k := 8) (by decide) (by decide) hm ?_
    walk_at "rd"
    refine sp_ofield (n := 0) (k := 8) (by decide) (by decide) (by decide) ?_
    walk_at "rd"
    refine sp_ofield (n := 0) (k := 8) (by decide) (by decide) (by decide) ?_
    walk_at "rd"
    refine sp_ofield (n := s) (k := 12) (by decide) (by decide) hs ?_
    walk_at "rd"
    refine sp_ofield (n := t) (k := 12) (by decide) (by decide) ht ?_
    walk_at "rd"
    rename_i p1 hp1
    refine r_bjoin (bs := [Bt.byOf (fldT z), Bt.byOf (fldO m 7), Bt.byOf (fldO 0 7), Bt.byOf (fldO 0 7), Bt.byOf (fldO s 11), Bt.byOf (fldO t 11)]) upd_same ?_ ?_
    · rw [flat_FR, List.length_map, FR_len hm hs ht]
      decide
    rw [show (flatB [Bt.byOf (fldT z), Bt.byOf (fldO m 7), Bt.byOf (fldO 0 7), Bt.byOf (fldO 0 7), Bt.byOf (fldO s 11), Bt.byOf (fldO t 11)]).toArray = Bt.byOf (FR z m s t) from by rw [flat_FR]; rfl]
    walk_at "rd"
    refine r_bmB ?_
    refine ⟨_, rfl, ?_⟩
    walk_at "rd"
    refine ⟨rfl, ?_⟩
    walk_at "rd"
    refine r_enc hla (by omega) ?_
    walk_at "rd"
    refine sp_tfield haa ha ?_
    walk_at "rd"
    refine r_bytesN (by decide) (by decide) ?_
    walk_at "rd"
    rename_i p2 hp2
    refine r_bjoin (bs := [Bt.byOf l.cps.toList, Bt.byOf (fldT a), #[117, 115, 116, 97, 114, 0, 48, 48], Array.replicate (247 : Int).toNat 0]) upd_same ?_ ?_
    · rw [flat_BK, List.length_map, BK_len hl']
      decide
    rw [show (flatB [Bt.byOf l.cps.toList, Bt.byOf (fldT a), #[117, 115, 116, 97, 114, 0, 48, 48], Array.replicate (247 : Int).toNat 0]).toArray = Bt.byOf (BK l a) from by rw [flat_BK]; rfl]
    walk_at "rd"
    refine r_bytesN (by decide) (by decide) ?_
    rw [show Array.replicate (8 : Int).toNat (0 : UInt8) = Bt.byOf (List.replicate 8 0) from byOf_zero 8]
    refine r_addY (by rw [byOf_size, byOf_size, FR_len hm hs ht]; decide) ?_
    rw [byOf_app]
    walk_at "rd"
    refine r_addY (by rw [byOf_size, byOf_size, List.length_append, FR_len hm hs ht, BK_len hl']; decide) ?_
    rw [byOf_app]
    walk_at "rd"
    refine sp_cfield (by simp only [List.length_append, FR_len hm hs ht, BK_len hl', List.length_replicate]) (fun x hx => ?_) ?_
    · simp only [List.mem_append] at hx
      rcases hx with (hx | hx) | hx
      · have := FR_le hza x hx
        omega
      · have := List.eq_of_mem_replicate hx
        omega
      · have := BK_le hla haa x hx
        omega
    rw [CS_SM hl' hm hs ht]
    refine r_addY (by simp only [byOf_size, List.length_append, FR_len hm hs ht, fldO_len (show 1 ≤ 6 by decide) hsm]; decide) ?_
    rw [byOf_app]
    walk_at "rd"
    refine r_addY (by simp only [byOf_size, List.length_append, FR_len hm hs ht, BK_len hl', fldO_len (show 1 ≤ 6 by decide) hsm]; decide) ?_
    rw [byOf_app, ← List.append_assoc (FR z m s t)]
    exact q _ (same_upd (same_new hp1) hp2)
end
/-! ### the law's total -/
/-! ### list(b), blob(list) -/
def rListB : List V → Hp → VK → Prop := fun xs H Q => ∃ b : List UInt8, xs = [.byt b.toArray] ∧ b.length ≤ 16777216 ∧ ∀ p, H p = none → Q (.ref p) (upd H p (.lst ((Bt.nums b).map V.int)))
theorem call_listBN {X : Cx} (hc : X.calm = true := by rfl) : CallR X (.type "list") rListB := Bt.call_listB hc
theorem r_listB {xs : List Nat} {H : Hp} {Q : VK} (hx : ∀ x ∈ xs, x < 256) (hz : xs.length ≤ 100000) (q : ∀ p H', H p = none → Same H H' → LN H' p xs → Q (.ref p) H') : rListB [.byt (Bt.byOf xs)] H Q := by
  refine ⟨_, rfl, by rw [List.length_map]; omega, fun p hp => q p _ hp (same_new hp) ?_⟩
  unfold LN
  rw [upd_same, nums_by hx]
theorem byteArr_nL (xs : List Nat) : byteArr (nL xs) = Bt.byOf xs := by
  unfold byteArr nL Bt.byOf
  rw [List.map_map]
  rfl
theorem HD_lt {l z a : Str} {m s t : Nat} (hl : PySem.W.KSb.Asc l) (hz : PySem.W.KSb.Asc z) (ha : PySem.W.KSb.Asc a) : ∀ x ∈ HD l z a m s t, x < 256 := fun x hx => by
  unfold HD at hx
  simp only [List.mem_append] at hx
  rcases hx with ((hx | hx) | hx) | hx
  · have := FR_le hz x hx
    omega
  · have := fldO_le _ _ x hx
    omega
  · have := List.mem_singleton.mp hx
    omega
  · have := BK_le hl ha x hx
    omega
theorem HD_len {l z a : Str} {m s t : Nat} (hl' : l.cps.toList.length = 1) (hl : PySem.W.KSb.Asc l) (hz : PySem.W.KSb.Asc z) (ha : PySem.W.KSb.Asc a) (hm : m < 8 ^ 7) (hs : s < 8 ^ 11) (ht : t < 8 ^ 11) : (HD l z a m s t).length = 512 := by
  have hsm := SM_lt (m := m) (s := s) (t := t) hl' hl hz ha hm hs ht
  unfold HD
  simp only [List.length_append, FR_len hm hs ht, fldO_len (show 1 ≤ 6 by decide) hsm, BK_len hl']
  rfl
/-! ### lists of ints, compared -/
theorem dp_one {K : PySem.W.Frag} {H : Hp} {a : Addr} {xs : List V} {ds : List PyData} (h : H a = some (.lst xs)) (hs : DpAll K H xs ds) : Dp K H (.ref a) (.list ds) := .lst (SqL.of h) hs
theorem dpa_ints {K : PySem.W.Frag} {H : Hp} : ∀ ns : List Int, DpAll K H (ns.map V.int) (ns.map PyData.int)
  | [] => .nil
  | n :: r => .cons (.int n) (dpa_ints r)
theorem ints_lay : ∀ ns : List Int, PyData.canLayAll0 (ns.map PyData.int) = true ∧ PyData.depthAll (ns.map PyData.int) = 0
  | [] => by simp [PyData.canLayAll0, PyData.depthAll]
  | n :: r => by
    have ih := ints_lay r
    simp [PyData.canLayAll0, PyData.depthAll, PyData.canLay0, PyData.depth, ih.1, ih.2]
theorem ints_shaped (ns : List Int) : SeqAt.shaped (.list (ns.map PyData.int)) = true := by
  simp [SeqAt.shaped, PyData.canLay0, PyData.depth, (ints_lay ns).1, (ints_lay ns).2]
/-! ### f(e, .., k = v, ..): one fact for a call -/
structure CalN (P : Program) (w : World) (K : PySem.W.Frag) (mg : Str → Option Value) (base : Heap) (k : Nat) (x : Str) (n : Nat) (ks : List Str) (gV : List V → List V → List V) (sp : Sp) : Prop where
  ex : ∃ (f : Addr) (fd : FuncData) (ps : List Str) (g : List Value → List Value → List Value), FnOk P w K mg base CX0 k f fd ps sp ∧ mg x = some (.ref f) ∧ PySem.W.keepIn K (.ref f) = true ∧ KBn K fd ps n ks g gV
section
variable {X : Cx} {j k n : Nat} {x : Str} {sp : Sp} {e : Expr} {es : List Expr} {p pos : Pos} {t tk : TA} {ks : List Str} {kws : List Keyword} {gV : List V → List V → List V}
theorem pe_ckN (c : CalN X.prog X.w X.K X.mg X.base k x n ks gV sp) (hr : Room j X.A) (hk : k ≤ j) (hg : Gl X x) (ha : PA X (e :: es) t) (hkw : PK X kws tk)
    (hall : (backToKw pos (keywordEach kws X.env)).all (·.1.isSome) = true := by rfl) (hks : (backToKw pos (keywordEach kws X.env)).filterMap (·.1) = ks := by rfl) (hdb : (x == ("__debug__" : Str)) = false := by decide)
    (he : starEach (e :: es) X.env = (false, eval e X.env) :: starEach es X.env := by rfl)
    (hpl : ((backTo pos (starEach (e :: es) X.env)).any (·.1) || (backToKw pos (keywordEach kws X.env)).any (·.1.isNone)) = false := by rfl) :
    PE X (.Call (.Name x p) (e :: es) kws pos) (tCallN n ks.length sp gV E0 t tk) := by
  obtain ⟨f, fd, ps, g, F, hm, kp, b⟩ := c.ex
  exact pe_callN F (hr.mono hk) hg hm kp b pass0 ha hkw hall hks hdb he hpl
end
/-! ### f(e, ..) with defaults behind -/
/-! ### methods that take self only -/
structure MethT (P : Program) (w : World) (K : PySem.W.Frag) (mg : Str → Option Value) (base : Heap) (k : Nat) (C : Addr) (m : Str) (sp : Sp) : Prop where
  ex : ∃ (f : Addr) (fd : FuncData), FnOk P w K mg base CX0 k f fd ["self"] sp ∧ Cls K C ∧ Meth K C m f ∧ Binds K fd ["self"] []
section
variable {X : Cx} {j k : Nat} {C : Addr} {m : Str} {sp : Sp} {o : Expr} {ta : TE} {apos pos : Pos}
theorem r_meth {σ : L2.St} {H : Hp} {Q : VK} {dvs : List V} {E : XK} {t : TA} (h : ta σ H fun x H1 => ∃ a dx fs, x = .ref a ∧ H1 a = some (.ins C dx fs) ∧ fs.lookup m = none ∧ t σ H1 fun vs H2 => sp (x :: (vs ++ dvs)) H2 Q E) : tMeth C m sp dvs E ta t σ H Q := h
theorem r_con {σ : L2.St} {K : PySem.W.Frag} {H : Hp} {Q : VK} {f : Str} (h : ta σ H fun x H1 => ∃ a C dx fs v u, x = .ref a ∧ H1 a = some (.ins C dx fs) ∧ Cls K C ∧ Con K C f v u ∧ fs.lookup f = none ∧ Q v H1) : tCon K ta f σ H Q := h
end
structure CF (K : PySem.W.Frag) (C aM : Addr) (kind : Str) : Prop where
  cl : Cls K C
  ha : PySem.W.findIn K (.ref C) "__class__" = some (some (.builtin "object.__class__"))
  hn : PySem.W.specialIn K (.builtin "object.__class__") "__get__" = some (some (.builtin "getset_descriptor.__get__"))
  htk : PySem.W.takesIn K (.builtin "object.__class__") = some true
  hm : PySem.W.mroIn K C (.type "object") = some true
  kit : PySem.W.kitOne K (.ref C) (.ref aM) = some true
  con : ∃ u, Con K C "KIND" (.str kind) u
  n1 : NoAttr K C "name"
  n2 : NoAttr K C "mode"
  n3 : NoAttr K C "time"
/-! ### what a member's class is -/
structure Kits (K : PySem.W.Frag) (c : Cs) : Prop where
  ff : PySem.W.kitOne K (.ref c.F) (.ref c.F) = some true
  fs : PySem.W.kitOne K (.ref c.F) (.ref c.S) = some false
  fy : PySem.W.kitOne K (.ref c.F) (.ref c.Y) = some false
  fl : PySem.W.kitOne K (.ref c.F) (.ref c.L) = some false
  sf : PySem.W.kitOne K (.ref c.S) (.ref c.F) = some false
  ss : PySem.W.kitOne K (.ref c.S) (.ref c.S) = some true
  sy : PySem.W.kitOne K (.ref c.S) (.ref c.Y) = some false
  sl : PySem.W.kitOne K (.ref c.S) (.ref c.L) = some false
  df : PySem.W.kitOne K (.ref c.D) (.ref c.F) = some false
  ds : PySem.W.kitOne K (.ref c.D) (.ref c.S) = some false
  dy : PySem.W.kitOne K (.ref c.D) (.ref c.Y) = some false
  dl : PySem.W.kitOne K (.ref c.D) (.ref c.L) = some false
  yf : PySem.W.kitOne K (.ref c.Y) (.ref c.F) = some false
  ys : PySem.W.kitOne K (.ref c.Y) (.ref c.S) = some false
  yy : PySem.W.kitOne K (.ref c.Y) (.ref c.Y) = some true
  lf : PySem.W.kitOne K (.ref c.L) (.ref c.F) = some false
  ls : PySem.W.kitOne K (.ref c.L) (.ref c.S) = some false
  ly : PySem.W.kitOne K (.ref c.L) (.ref c.Y) = some false
  ll : PySem.W.kitOne K (.ref c.L) (.ref c.L) = some true
/-- the classes of members, as the program reads them -/
structure MF (K : PySem.W.Frag) (c : Cs) (aM : Addr) : Prop where
  kt : Kits K c
  fF : CF K c.F aM "file"
  fS : CF K c.S aM "sparse"
  fD : CF K c.D aM "directory"
  fY : CF K c.Y aM "symlink"
  fL : CF K c.L aM "link"
  tF : NoAttr K c.F "data"
  tS : NoAttr K c.S "pieces"
  tZ : NoAttr K c.S "size"
  tY : NoAttr K c.Y "target"
  tL : NoAttr K c.L "target"
theorem CF.ty {K : PySem.W.Frag} {C aM a dx : Addr} {kind : Str} {fs : List (Str × V)} {H : Hp} (c : CF K C aM kind) (h1 : H a = some (.ins C dx fs)) : TyX K H (.ref a) (.ref C) := .base (.ins h1 c.cl c.ha c.hn c.htk c.hm)
def Mem.tgt : Mem → Str
  | .sym _ _ _ g => g
  | .lnk _ _ _ g => g
  | _ => ""
def Mem.nm : Mem → Str
  | .file n .. => n
  | .sparse n .. => n
  | .dir n .. => n
  | .sym n .. => n
  | .lnk n .. => n
theorem kit2 {K : PySem.W.Frag} {t a b : Value} {x y : Bool} (h1 : PySem.W.kitOne K t a = some x) (h2 : PySem.W.kitOne K t b = some y) : PySem.W.kitAny K t [a, b] = some (x || y) := by
  cases x <;> cases y <;> simp only [PySem.W.kitAny, h1, h2] <;> rfl
theorem kit2t {K : PySem.W.Frag} {t a b : Value} (h1 : PySem.W.kitOne K t a = some true) : PySem.W.kitAny K t [a, b] = some true := by simp only [PySem.W.kitAny, h1]
section
variable {P : Program} {w : World} {K : PySem.W.Frag} {mg : Str → Option Value} {base : Heap}
def spTarget (c : Cs) : Sp := fun vs H Q _ => ∃ (x : Addr) (m : Mem), vs = [.ref x] ∧ m.Ins c H x ∧ ∀ H', Same H H' → Q (.str m.tgt) H'
theorem sp_target {c : Cs} {x : Addr} {m : Mem} {H : Hp} {Q : VK} {E : XK} (h : m.Ins c H x) (k : ∀ H', Same H H' → Q (.str m.tgt) H') : spTarget c ([.ref x] ++ []) H Q E := ⟨x, m, rfl, h, k⟩
theorem r_isT {K : PySem.W.Frag} {x tp : Addr} {C a b : Addr} {H : Hp} {r : Bool} {Q : VK} (ty : TyX K H (.ref x) (.ref C)) (ht : H tp = some (.tup [.ref a, .ref b])) (hk : PySem.W.kitAny K (.ref C) [.ref a, .ref b] = some r) (q : Q (.bl r) H) : rIsiT K [.ref x, .ref tp] H Q :=
  ⟨.ref x, tp, _, .ref C, _, r, rfl, ht, .cons (.own a) (.cons (.own b) .nil), ty, hk, q⟩
theorem r_is1 {K : PySem.W.Frag} {x : Addr} {C a : Addr} {H : Hp} {r : Bool} {Q : VK} (ty : TyX K H (.ref x) (.ref C)) (hk : PySem.W.kitOne K (.ref C) (.ref a) = some r) (q : Q (.bl r) H) : rIsi K [.ref x, .ref a] H Q :=
  ⟨.ref x, .ref a, .ref C, .ref a, r, rfl, .own a, ty, hk, q⟩
theorem ok_target {f aM : Addr} {fd : FuncData} {k : Nat} {c : Cs} (F : Fun K "target_of" "target_of" s_target_of f fd) (m1 : mg "isinstance" = none) (M : MF K c aM) (m_Y : mg "Symlink" = some (.ref c.Y)) (m_L : mg "Link" = some (.ref c.L)) : FnOk P w K mg base CX0 (k + 2) f fd ["member"] (spTarget c) := by
  refine F.ok sc_target_of (fun vs H Q E h => ?_) (fun cdv A outer s H vs Q E hr h => ?_)
  · obtain ⟨x, m, rfl, _⟩ := h
    rfl
  · obtain ⟨x, m, rfl, hin, q⟩ := h
    have hu := hu_of hr
    have nd := sc_target_of.nd
    refine ⟨_, (pss_cons (ps_if (pt_val (pe_callB (call_isiK2 K) (by rfl) (by assumption) (by decide +kernel) (pa_cons (pv 0) (pa_cons (pe_tup (pa_cons (pe_glob (v := .ref c.Y) (by rfl) m_Y (by first | exact rfl | exact ⟨_, rfl⟩)) (pa_cons (pe_glob (v := .ref c.L) (by rfl) m_L (by first | exact rfl | exact ⟨_, rfl⟩)) pa_nil))) pa_nil))))
        (pss_one (ps_ret (pe_fld (pv 0) rfl)))
        pss_nil)
      (pss_one (ps_ret pe_str))), ?_⟩
    cases m with
    | file n b t ns =>
      obtain ⟨dx, hx⟩ := hin
      walk_at "rd"
      rename_i tp htp
      refine r_isT (M.fF.ty (upd_old htp hx)) upd_same (kit2 M.kt.fy M.kt.fl) ?_
      walk_at "rd"
      exact q _ (same_new htp)
    | sparse n b t z sp =>
      obtain ⟨dx, p, hx, hp⟩ := hin
      walk_at "rd"
      rename_i tp htp
      refine r_isT (M.fS.ty (upd_old htp hx)) upd_same (kit2 M.kt.sy M.kt.sl) ?_
      walk_at "rd"
      exact q _ (same_new htp)
    | dir n b t =>
      obtain ⟨dx, hx⟩ := hin
      walk_at "rd"
      rename_i tp htp
      refine r_isT (M.fD.ty (upd_old htp hx)) upd_same (kit2 M.kt.dy M.kt.dl) ?_
      walk_at "rd"
      exact q _ (same_new htp)
    | sym n b t g =>
      obtain ⟨dx, hx⟩ := hin
      walk_at "rd"
      rename_i tp htp
      have hx1 := upd_old (o := .tup [V.ref c.Y, V.ref c.L]) htp hx
      refine r_isT (M.fY.ty hx1) upd_same (kit2t M.kt.yy) ?_
      walk_at "rd"
      refine r_fldE hx1 M.fY.cl M.tY rfl ?_
      walk_at "rd"
      exact q _ (same_new htp)
    | lnk n b t g =>
      obtain ⟨dx, hx⟩ := hin
      walk_at "rd"
      rename_i tp htp
      have hx1 := upd_old (o := .tup [V.ref c.Y, V.ref c.L]) htp hx
      refine r_isT (r := true) (M.fL.ty hx1) upd_same (kit2 M.kt.ly M.kt.ll) ?_
      walk_at "rd"
      refine r_fldE hx1 M.fL.cl M.tL rfl ?_
      walk_at "rd"
      exact q _ (same_new htp)
end
/-! ### filled up to whole blocks -/
def pad (n : Nat) : Nat := (512 - n % 512) % 512
def filled (xs : List Nat) : List Nat := xs ++ List.replicate (pad xs.length) 0
theorem pad_int (n : Nat) : (-(n : Int)) % 512 = ((pad n : Nat) : Int) := by
  unfold pad
  omega
theorem pad_lt (n : Nat) : pad n < 512 := by
  unfold pad
  omega
theorem filled_len (xs : List Nat) : (filled xs).length = xs.length + pad xs.length := by
  unfold filled
  rw [List.length_append, List.length_replicate]
theorem filled_lt {xs : List Nat} (h : ∀ x ∈ xs, x < 256) : ∀ x ∈ filled xs, x < 256 := fun x hx => by
  rcases List.mem_append.mp hx with hx | hx
  · exact h x hx
  · rw [List.eq_of_mem_replicate hx]
    decide
section
variable {P : Program} {w : World} {K : PySem.W.Frag} {mg : Str → Option Value} {base : Heap}
def spPadded : Sp := fun vs H Q _ => ∃ xs : List Nat, vs = [.byt (Bt.byOf xs)] ∧ xs.length ≤ 99000 ∧ Q (.byt (Bt.byOf (filled xs))) H
theorem sp_padded {xs : List Nat} {H : Hp} {Q : VK} {E : XK} (h : xs.length ≤ 99000) (q : Q (.byt (Bt.byOf (filled xs))) H) : spPadded ([.byt (Bt.byOf xs)] ++ []) H Q E := ⟨xs, rfl, h, q⟩
theorem ok_padded {f : Addr} {fd : FuncData} {k : Nat} {t1 : Tok} (F : Fun K "padded" "padded" s_padded f fd) (m1 : mg "len" = none) (m2 : mg "bytes" = none) (m_BS : mg "BLOCK_SIZE" = some (.int 512 t1)) : FnOk P w K mg base CX0 (k + 2) f fd ["data"] spPadded := by
  refine F.ok sc_padded (fun vs H Q E h => ?_) (fun cdv A outer s H vs Q E hr h => ?_)
  · obtain ⟨xs, rfl, _⟩ := h
    rfl
  · obtain ⟨xs, rfl, hl, q⟩ := h
    have hu := hu_of hr
    have nd := sc_padded.nd
    have hsz : (Bt.byOf xs).size = xs.length := byOf_size xs
    refine ⟨_, (pss_one (ps_ret (pe_op op_addY (pv 0) (pe_callTy call_bytesN (by rfl) (by assumption) (by decide +kernel) (pa_cons (pe_op op_mod (pe_un un_neg (pe_callB call_rLenY (by rfl) (by assumption) (by decide +kernel) (pa_cons (pv 0) pa_nil))) (pe_glob (v := .int 512) (by rfl) m_BS (by first | exact rfl | exact ⟨_, rfl⟩))) pa_nil))))), ?_⟩
    walk_at "rd"
    rw [hsz, pad_int]
    have hp := pad_lt xs.length
    refine r_bytesN (by omega) (by omega) ?_
    rw [Int.toNat_natCast, byOf_zero]
    refine r_addY (by rw [byOf_size, byOf_size, List.length_replicate]; omega) ?_
    rw [byOf_app]
    exact q
def spFilled : Sp := fun vs H Q _ => ∃ (p : Addr) (xs : List Nat), vs = [.ref p] ∧ LN H p xs ∧ xs.length ≤ 90000 ∧ ∀ q H', H q = none → Same H H' → LN H' q (filled xs) → Q (.ref q) H'
end
/-! ### texts of numbers -/
def dz (i : Int) : Str := toString i
theorem dz_ok : ∀ n ∈ List.range 4097, ((dz (n : Nat)).cps.toList.all (fun c => decide (c < 128)) && decide ((dz (n : Nat)).length ≤ 4)) = true := by decide +kernel
def numsOf (z : Int) (sp : List (Int × Int)) : List Int := z :: (sp.length : Int) :: sp.flatMap fun s => [s.1, s.2]
def linesOf (ns : List Int) : List Nat := ns.flatMap fun i => (dz i).cps.toList ++ [10]
theorem dz_small {i : Int} (h0 : 0 ≤ i) (h1 : i ≤ 4096) : PySem.W.KSb.Asc (dz i) ∧ (dz i).length ≤ 4 := by
  obtain ⟨n, rfl⟩ := Int.eq_ofNat_of_zero_le h0
  have h := dz_ok n (List.mem_range.mpr (by omega))
  simp only [Bool.and_eq_true, decide_eq_true_eq] at h
  exact ⟨fun c hc => of_decide_eq_true (List.all_eq_true.mp h.1 c hc), h.2⟩
theorem flat_join : ∀ (is : List Int), (is.map fun i => (Str.empty ++ dz i ++ ("\n" : Str)).cps.toList).flatten = linesOf is
  | [] => rfl
  | i :: is => by
    rw [List.map_cons, List.flatten_cons, flat_join is]
    show _ = (dz i).cps.toList ++ [10] ++ linesOf is
    congr 1
    show ((#[] ++ (dz i).cps) ++ #[10] : Array Nat).toList = _
    simp
theorem join_flat : ∀ (ys : List Str), (Txt.join "" ys).cps.toList = (ys.map fun y => y.cps.toList).flatten := by
  intro ys
  rw [TL.join_eq]
  induction ys with
  | nil => rfl
  | cons y ys ih =>
    cases ys with
    | nil =>
      show y.cps.toList = _
      simp
    | cons z zs =>
      show (y ++ ("" : Str) ++ Str.join "" (z :: zs)).cps.toList = _
      have e : (y ++ ("" : Str) ++ Str.join "" (z :: zs)).cps.toList = y.cps.toList ++ (Str.join "" (z :: zs)).cps.toList := by
        show ((y.cps ++ #[]) ++ (Str.join "" (z :: zs)).cps).toList = _
        simp
      rw [e, ih]
      rfl
theorem sp_padded' {z : Str} {H : Hp} {Q : VK} {E : XK} (h : z.cps.toList.length ≤ 99000) (q : Q (.byt (Bt.byOf (filled z.cps.toList))) H) : spPadded ([.byt (Bt.byOf z.cps.toList)] ++ []) H Q E := ⟨_, rfl, h, q⟩
theorem log_small {i : Int} (h0 : 0 ≤ i) (h1 : i ≤ 4096) : i.natAbs.log2 < 1920 := by
  by_cases h : i.natAbs = 0
  · rw [h]; decide
  · exact Nat.lt_trans ((Nat.log2_lt (k := 13) h).mpr (Nat.lt_of_le_of_lt (by omega : i.natAbs ≤ 4096) (by decide))) (by decide)
def lnS (i : Int) : Str := Str.empty ++ dz i ++ ("\n" : Str)
theorem lnS_len (i : Int) : (lnS i).length = (dz i).length + 1 := by
  show ((#[] ++ (dz i).cps) ++ #[10] : Array Nat).size = (dz i).cps.size + 1
  simp
theorem lns_sum : ∀ (is : List Int), (∀ i ∈ is, 0 ≤ i ∧ i ≤ 4096) → ((is.map lnS).map (·.length)).sum ≤ 5 * is.length
  | [], _ => Nat.le_refl _
  | i :: is, h => by
    have h1 := lns_sum is fun j hj => h j (List.mem_cons_of_mem _ hj)
    obtain ⟨a, b⟩ := h i List.mem_cons_self
    have h2 := (dz_small a b).2
    simp only [List.map_cons, List.sum_cons, List.length_cons, lnS_len]
    omega
theorem lines_lt {is : List Int} (h : ∀ i ∈ is, 0 ≤ i ∧ i ≤ 4096) : ∀ c ∈ linesOf is, c < 128 := fun c hc => by
  obtain ⟨i, hi, hci⟩ := List.mem_flatMap.mp hc
  obtain ⟨a, b⟩ := h i hi
  rcases List.mem_append.mp hci with hci | hci
  · exact (dz_small a b).1 c hci
  · rw [List.mem_singleton.mp hci]; decide
theorem lines_len : ∀ (is : List Int), (∀ i ∈ is, 0 ≤ i ∧ i ≤ 4096) → (linesOf is).length ≤ 5 * is.length
  | [], _ => Nat.le_refl _
  | i :: is, h => by
    have h1 := lines_len is fun j hj => h j (List.mem_cons_of_mem _ hj)
    obtain ⟨a, b⟩ := h i List.mem_cons_self
    have h2 : (dz i).cps.toList.length ≤ 4 := by simpa [Str.length] using (dz_small a b).2
    show ((dz i).cps.toList ++ [10] ++ linesOf is).length ≤ _
    simp only [List.length_append, List.length_cons, List.length_nil]
    omega
theorem lns_join (is : List Int) : (Txt.join "" (is.map lnS)).cps.toList = linesOf is := by
  rw [join_flat, List.map_map]
  exact flat_join is
def preOf (z n : Int) (sp : List (Int × Int)) (i : Nat) : List Int := z :: n :: (sp.take i).flatMap fun s => [s.1, s.2]
theorem pre_next {z n : Int} {sp : List (Int × Int)} {i : Nat} {s : Int × Int} (h : sp[i]? = some s) : preOf z n sp i ++ [s.1] ++ [s.2] = preOf z n sp (i + 1) := by
  unfold preOf
  rw [List.take_succ, h]
  simp
def spMap : Sp := fun vs H Q _ => ∃ (z : Int) (p : Addr) (sp : List (Int × Int)), vs = [.int z, .ref p] ∧ SpnL H p sp ∧ sp.length ≤ 50 ∧ (∀ i ∈ numsOf z sp, 0 ≤ i ∧ i ≤ 4096) ∧ ∀ H', Same H H' → Q (.byt (Bt.byOf (filled (linesOf (numsOf z sp))))) H'
section
variable {P : Program} {w : World} {K : PySem.W.Frag} {mg : Str → Option Value} {base : Heap}
theorem ok_map {f : Addr} {fd : FuncData} {k : Nat} (F : Fun K "map_block" "map_block" s_map_block f fd) (m1 : mg "len" = none) (c_padded : CalT P w K mg base 2 "padded" spPadded) : FnOk P w K mg base CX0 (k + 3) f fd ["size", "spans"] spMap := by
  refine F.ok sc_map_block (fun vs H Q E h => ?_) (fun cdv A outer s H vs Q E hr h => ?_)
  · obtain ⟨z, p, sp, rfl, _⟩ := h
    rfl
  · obtain ⟨z, p, sp, rfl, ⟨as, hp, hpd⟩, hl, hn, q⟩ := h
    have hu := hu_of hr
    have nd := sc_map_block.nd
    have hlen : (as.map V.ref).length = sp.length := by rw [List.length_map]; exact hpd.length
    refine ⟨_, (pss_cons (ps_set (i := 2) nd rfl (Or.inl rfl) (pe_lst (pa_cons (pv 0) (pa_cons (pe_callB (call_lenK K) (by rfl) (by assumption) (by decide +kernel) (pa_cons (pv 1) pa_nil)) pa_nil))))
      (pss_cons (ps_for PassesOwn.never rfl (pi_list (pv 1)) (pg_tupK K (pg_tup rfl (pgs_cons (pg_name (i := 3) nd rfl (Or.inl rfl)) (pgs_cons (pg_name (i := 4) nd rfl (Or.inl rfl)) pgs_nil))))
        (pss_cons (ps_expr (pe_bm PySem.F.plainAttrs_list PySem.F.slot_list_append PySem.F.type_list_append mt_append (pv 2) (pa_cons (pv 3) pa_nil)))
      (pss_one (ps_expr (pe_bm PySem.F.plainAttrs_list PySem.F.slot_list_append PySem.F.type_list_append mt_append (pv 2) (pa_cons (pv 4) pa_nil))))))
      (pss_cons (ps_set (i := 5) nd rfl (Or.inl rfl) (pe_bm PySem.F.plainAttrs_str PySem.F.slot_str_join PySem.F.type_str_join (mt_joinK K) pe_str (pa_cons (pe_lc (own := [("number", 6)]) (g := (gName 6)) (tt := tYes) rfl nd (pi_list (pv 2)) (blkOk_by (N := N_map_block) (sc := defScope s_map_block) (by decide +kernel)) (fun _ _ _ _ _ => (pg_name (i := 6) nd rfl (Or.inl rfl))) (fun _ _ _ _ _ => pts_nil) (fun _ _ _ _ _ => (pe_joinN (pe_joined (PJ.cons (pe_fmt (pv 6)) (PJ.cons pe_str PJ.nil)))))) pa_nil)))
      (pss_one (ps_ret (pe_cc c_padded hr (by omega) (by rfl) (pa_cons (pe_bm PySem.F.plainAttrs_str PySem.F.slot_str_encode PySem.F.type_str_encode mt_encN (pv 5) (pa_cons pe_str pa_nil)) pa_nil))))))), ?_⟩
    walk_at "rd"
    rename_i g hg
    refine for_it (walk_list (xs := as.map V.ref)) (fun i σ H' => ∃ (v3 v4 v5 v6 : Option V), σ = [some (.int z), some (.ref p), some (.ref g), v3, v4, v5, v6] ∧ H' g = some (.lst ((preOf z sp.length sp i).map V.int)) ∧ But g H H') ?_ (fun i σ H' _ ⟨_, _, _, _, _, _, e⟩ => SqL.of (e _ _ (ne_of_none hp hg) hp)) ?_ ?_
    · refine ⟨_, _, _, _, rfl, ?_, fun b o nb e => by rw [upd_ne nb]; exact e⟩
      rw [upd_same, hlen]
      rfl
    · rintro i x σ Hc H' hi ⟨v3, v4, v5, v6, rfl, hg', e⟩ ⟨rfl, hx⟩
      rw [List.getElem?_map] at hx
      obtain ⟨qa, hqa, rfl⟩ : ∃ qa, as[i]? = some qa ∧ V.ref qa = x := by
        cases e : as[i]? with
        | none => rw [e] at hx; cases hx
        | some qa => rw [e] at hx; exact ⟨qa, rfl, Option.some.inj hx⟩
      obtain ⟨s, hsi, hqt⟩ := paired_at hpd hqa
      have hq' := e _ _ (ne_of_none hqt hg) hqt
      have hil : i ≤ 50 := by rw [List.length_map, hpd.length] at hi; omega
      walk_at "rd"
      have hsz : ((preOf z sp.length sp i).map V.int).length ≤ 102 := by
        rw [List.length_map]
        unfold preOf
        simp only [List.length_cons, List.length_flatMap, List.length_nil]
        have h2 : ∀ l : List (Int × Int), (l.map fun _ => 0 + 1 + 1).sum = 2 * l.length := fun l => by
          induction l with
          | nil => rfl
          | cons a l ih => simp only [List.map_cons, List.sum_cons, ih, List.length_cons]; omega
        rw [h2, List.length_take]
        omega
      refine r_append hg' (Nat.lt_of_le_of_lt hsz (by decide)) ?_
      walk_at "rd"
      refine r_append upd_same (Nat.lt_of_le_of_lt (by rw [List.length_append]; exact Nat.add_le_add_right hsz 1) (by decide)) ?_
      walk_at "rd"
      refine ⟨_, _, _, _, rfl, ?_, fun b o nb eb => by rw [upd_ne nb, upd_ne nb]; exact e b o nb eb⟩
      rw [upd_same, ← pre_next hsi]
      simp
    · rintro σ Hc ⟨v3, v4, v5, v6, rfl, hg', e⟩
      walk_at "rd"
      have hnn : preOf z sp.length sp (as.map V.ref).length = numsOf z sp := by
        unfold preOf numsOf
        rw [hlen, List.take_length]
      rw [hnn] at hg'
      have hnl : (numsOf z sp).length ≤ 102 := by
        unfold numsOf
        simp only [List.length_cons, List.length_flatMap, List.length_nil]
        have h2 : ∀ l : List (Int × Int), (l.map fun _ => 0 + 1 + 1).sum = 2 * l.length := fun l => by
          induction l with
          | nil => rfl
          | cons a l ih => simp only [List.map_cons, List.sum_cons, ih, List.length_cons]; omega
        rw [h2]
        omega
      refine ⟨by first | exact rfl | exact trivial, ?_⟩
      walk_at "rd"
      intro D hD
      refine lc_map (cs := numsOf z sp) (enc := V.int) (f := fun i => V.str (lnS i)) walk_list hD (Nat.lt_of_le_of_lt hnl (by decide)) (fun H' e => SqL.of (e _ _ hg')) (fun x => rfl) ?_ ?_
      · intro i hi H' e' Q' k'
        obtain ⟨i0, i1⟩ := hn i hi
        walk_at "rd"
        show tVar 6 _ _ _
        walk_at "rd"
        have hd := (dz_small i0 i1).2
        refine .inr ⟨i, rfl, log_small i0 i1, dz i, rfl, Nat.le_trans (by show ((#[] : Array Nat) ++ (dz i).cps).size ≤ 4; simpa [Str.length] using hd) (by decide), ?_⟩
        walk_at "rd"
        exact ⟨Nat.le_trans (by rw [show (Str.empty ++ dz i ++ ("\n" : Str)).length = (lnS i).length from rfl, lnS_len]; omega : _ ≤ 5) (by decide), k' _ (Same.refl _)⟩
      · intro H' e' hl'
        walk_at "rd"
        have hs := lns_sum _ hn
        have hll := lines_len _ hn
        refine ⟨_, D, (numsOf z sp).map lnS, rfl, rfl, .inl (by rw [List.map_map]; exact SqL.of hl'), by have e0 : ("" : Str).length = 0 := rfl; rw [e0, Nat.mul_zero]; omega, ?_⟩
        walk_at "rd"
        have et := lns_join (numsOf z sp)
        generalize Txt.join "" ((numsOf z sp).map lnS) = T at *
        have hT : PySem.W.KSb.Asc T := by intro c hc; rw [et] at hc; exact lines_lt hn c hc
        have hTl : T.cps.toList.length ≤ 1000 := by rw [et]; omega
        refine ⟨rfl, ?_⟩
        walk_at "rd"
        refine r_enc hT (by simpa [Str.length] using Nat.le_trans hTl (by decide : 1000 ≤ 100000)) ?_
        walk_at "rd"
        refine sp_padded' (Nat.le_trans hTl (by decide)) ?_
        rw [et]
        exact q _ (fun b o eb => e' _ _ (e b o (ne_of_none eb hg) eb))
end
theorem sp_map {z : Int} {p : Addr} {sp : List (Int × Int)} {H : Hp} {Q : VK} {E : XK} (hp : SpnL H p sp) (hl : sp.length ≤ 50) (hn : ∀ i ∈ numsOf z sp, 0 ≤ i ∧ i ≤ 4096) (k : ∀ H', Same H H' → Q (.byt (Bt.byOf (filled (linesOf (numsOf z sp))))) H') : spMap ([.int z, .ref p] ++ []) H Q E := ⟨z, p, sp, rfl, hp, hl, hn, k⟩
/-! ### what is stored -/
theorem all_nat : ∀ {ns : List Int}, ns.all inByte = true → nL (ns.map Int.toNat) = ns
  | [], _ => rfl
  | i :: ns, h => by
    rw [List.all_cons, Bool.and_eq_true] at h
    have h1 := h.1
    unfold inByte at h1
    simp only [Bool.and_eq_true, decide_eq_true_eq] at h1
    show ((i.toNat : Nat) : Int) :: nL (ns.map Int.toNat) = _
    rw [all_nat h.2, Int.toNat_of_nonneg h1.1]
theorem all_lt {ns : List Int} (h : ns.all inByte = true) : ∀ x ∈ ns.map Int.toNat, x < 256 := fun x hx => by
  obtain ⟨i, hi, rfl⟩ := List.mem_map.mp hx
  have h1 := List.all_eq_true.mp h i hi
  unfold inByte at h1
  simp only [Bool.and_eq_true, decide_eq_true_eq] at h1
  omega
theorem byteArr_nat {ns : List Int} (h : ns.all inByte = true) : byteArr ns = Bt.byOf (ns.map Int.toNat) := by
  have e := byteArr_nL (ns.map Int.toNat)
  rw [all_nat h] at e
  exact e
/-- offsets and lengths -/
def spn (sp : List (Int × List Int)) : List (Int × Int) := sp.map fun s => (s.1, (s.2.length : Int))
def cat (sp : List (Int × List Int)) : List Nat := sp.flatMap fun s => s.2.map Int.toNat
def Mem.stored : Mem → List Nat
  | .file _ _ _ ns => ns.map Int.toNat
  | .sparse _ _ _ z sp => filled (linesOf (numsOf z (spn sp))) ++ cat sp
  | _ => []
theorem spn_small {z : Int} {sp : List (Int × List Int)} (hz : 0 ≤ z) (hz' : z ≤ 4096) (hl : sp.length ≤ 50) (h : spansOk z 0 (spn sp)) : ∀ i ∈ numsOf z (spn sp), 0 ≤ i ∧ i ≤ 4096 := by
  intro i hi
  unfold numsOf at hi
  rcases List.mem_cons.mp hi with rfl | hi
  · exact ⟨hz, hz'⟩
  rcases List.mem_cons.mp hi with rfl | hi
  · unfold spn
    rw [List.length_map]
    omega
  · obtain ⟨s, hs, his⟩ := List.mem_flatMap.mp hi
    obtain ⟨a, b, c⟩ := spansOk_all (Int.le_refl 0) h s hs
    simp only [List.mem_cons, List.not_mem_nil, or_false] at his
    rcases his with rfl | rfl
    · omega
    · omega
theorem flat_cat : ∀ (sp : List (Int × List Int)), flatB (sp.map fun s => Bt.byOf (s.2.map Int.toNat)) = (cat sp).map Nat.toUInt8
  | [] => rfl
  | s :: sp => by
    have ih := flat_cat sp
    show ((Bt.byOf (s.2.map Int.toNat)).toList ++ flatB (sp.map fun s => Bt.byOf (s.2.map Int.toNat))) = (s.2.map Int.toNat ++ cat sp).map Nat.toUInt8
    rw [ih, List.map_append]
    rfl
theorem cat_len : ∀ {z : Int} {sp : List (Int × List Int)}, z ≤ 4096 → ∀ {e : Int}, 0 ≤ e → spansOk z e (spn sp) → ((cat sp).length : Int) ≤ max 0 (z - e)
  | z, [], _, e, _, _ => by simp [cat]; omega
  | z, s :: sp, hz, e, he, h => by
    obtain ⟨h1, h2, h3, h4⟩ := h
    have h1' : e ≤ s.1 := h1
    have h2' : 1 ≤ (s.2.length : Int) := h2
    have h3' : s.1 + (s.2.length : Int) ≤ z := h3
    have ih := cat_len (z := z) (sp := sp) hz (e := s.1 + (s.2.length : Int) + 1) (by omega) h4
    have e1 : (cat (s :: sp)).length = s.2.length + (cat sp).length := by
      show (s.2.map Int.toNat ++ cat sp).length = _
      rw [List.length_append, List.length_map]
    rw [e1]
    omega
section
variable {P : Program} {w : World} {K : PySem.W.Frag} {mg : Str → Option Value} {base : Heap}
def spStored (c : Cs) : Sp := fun vs H Q _ => ∃ (x : Addr) (m : Mem), vs = [.ref x] ∧ m.Ins c H x ∧ m.Ok ∧ ∀ H', Same H H' → Q (.byt (Bt.byOf m.stored)) H'
theorem sp_stored {c : Cs} {x : Addr} {m : Mem} {H : Hp} {Q : VK} {E : XK} (h : m.Ins c H x) (ho : m.Ok) (k : ∀ H', Same H H' → Q (.byt (Bt.byOf m.stored)) H') : spStored c ([.ref x] ++ []) H Q E := ⟨x, m, rfl, h, ho, k⟩
theorem ok_stored {f aM : Addr} {fd : FuncData} {k : Nat} {c : Cs} (F : Fun K "stored_bytes" "stored_bytes" s_stored_bytes f fd) (m1 : mg "isinstance" = none) (m2 : mg "len" = none) (M : MF K c aM) (m_F : mg "File" = some (.ref c.F)) (m_S : mg "Sparse" = some (.ref c.S))
    (c_map : CalT P w K mg base 3 "map_block" spMap) : FnOk P w K mg base CX0 (k + 4) f fd ["member"] (spStored c) := by
  refine F.ok sc_stored_bytes (fun vs H Q E h => ?_) (fun cdv A outer s H vs Q E hr h => ?_)
  · obtain ⟨x, m, rfl, _⟩ := h
    rfl
  · obtain ⟨x, m, rfl, hin, hok, q⟩ := h
    have hu := hu_of hr
    have nd := sc_stored_bytes.nd
    refine ⟨_, (pss_cons (ps_if (pt_val (pe_callB (call_isiK1 K) (by rfl) (by assumption) (by decide +kernel) (pa_cons (pv 0) (pa_cons (pe_glob (v := .ref c.F) (by rfl) m_F (by first | exact rfl | exact ⟨_, rfl⟩)) pa_nil))))
        (pss_one (ps_ret (pe_fld (pv 0) rfl)))
        pss_nil)
      (pss_cons (ps_if (pt_val (pe_callB (call_isiK1 K) (by rfl) (by assumption) (by decide +kernel) (pa_cons (pv 0) (pa_cons (pe_glob (v := .ref c.S) (by rfl) m_S (by first | exact rfl | exact ⟨_, rfl⟩)) pa_nil))))
        (pss_cons (ps_setLc (i := 1) (own := [("offset", 2), ("data", 3)]) (g := (gTup K 2 (gCons (gName 2) (gCons (gName 3) gNil)))) (tt := tYes) rfl nd rfl rfl (sw_true rfl rfl rfl (by decide +kernel)) (pi_tup (pe_fld (pv 0) rfl)) (blkOk_by (N := N_stored_bytes) (sc := defScope s_stored_bytes) (by decide +kernel)) (fun _ _ _ _ _ => (pg_tupK K (pg_tup rfl (pgs_cons (pg_name (i := 2) nd rfl (Or.inl rfl)) (pgs_cons (pg_name (i := 3) nd rfl (Or.inl rfl)) pgs_nil))))) (fun _ _ _ _ _ => pts_nil) (fun _ _ _ _ _ => (pe_tup (pa_cons (pv 2) (pa_cons (pe_callB call_rLenY (by rfl) (by assumption) (by decide +kernel) (pa_cons (pv 3) pa_nil)) pa_nil)))))
      (pss_one (ps_ret (pe_op op_addY (pe_cc c_map hr (by omega) (by rfl) (pa_cons (pe_fld (pv 0) rfl) (pa_cons (pv 1) pa_nil))) (pe_bmB PySem.W.FB.plainAttrs_bytes R59.slot_bjoin R59.type_bjoin mt_bjoin pe_byt (pa_cons (pe_lc (own := [("piece", 4)]) (g := (gName 4)) (tt := tYes) rfl nd (pi_tup (pe_fld (pv 0) rfl)) (blkOk_by (N := N_stored_bytes) (sc := defScope s_stored_bytes) (by decide +kernel)) (fun _ _ _ _ _ => (pg_name (i := 4) nd rfl (Or.inl rfl))) (fun _ _ _ _ _ => pts_nil) (fun _ _ _ _ _ => (pe_ix (ix_tupK K) (pv 4) pe_int (fun _ _ => rfl)))) pa_nil))))))
        pss_nil)
      (pss_one (ps_ret pe_byt)))), ?_⟩
    cases m with
    | file n b t ns =>
      obtain ⟨dx, hx⟩ := hin
      walk_at "rd"
      refine r_is1 (M.fF.ty hx) M.kt.ff ?_
      walk_at "rd"
      refine r_fldE hx M.fF.cl M.tF rfl ?_
      walk_at "rd"
      have e := q _ (Same.refl _)
      rw [show (Mem.file n b t ns).stored = ns.map Int.toNat from rfl, ← byteArr_nat hok.2.2] at e
      exact e
    | dir n b t =>
      obtain ⟨dx, hx⟩ := hin
      walk_at "rd"
      refine r_is1 (M.fD.ty hx) M.kt.df ?_
      walk_at "rd"
      refine r_is1 (M.fD.ty hx) M.kt.ds ?_
      walk_at "rd"
      exact q _ (Same.refl _)
    | sym n b t g =>
      obtain ⟨dx, hx⟩ := hin
      walk_at "rd"
      refine r_is1 (M.fY.ty hx) M.kt.yf ?_
      walk_at "rd"
      refine r_is1 (M.fY.ty hx) M.kt.ys ?_
      walk_at "rd"
      exact q _ (Same.refl _)
    | lnk n b t g =>
      obtain ⟨dx, hx⟩ := hin
      walk_at "rd"
      refine r_is1 (M.fL.ty hx) M.kt.lf ?_
      walk_at "rd"
      refine r_is1 (M.fL.ty hx) M.kt.ls ?_
      walk_at "rd"
      exact q _ (Same.refl _)
    | sparse n b t z sp =>
      obtain ⟨dx, p, hx, as, hp, hpd⟩ := hin
      walk_at "rd"
      refine r_is1 (M.fS.ty hx) M.kt.sf ?_
      walk_at "rd"
      refine r_is1 (M.fS.ty hx) M.kt.ss ?_
      walk_at "rd"
      obtain ⟨st, z0, z1, hsl, hso, hsb⟩ := hok
      have hsm := spn_small z0 z1 hsl hso
      have hso' : spansOk z 0 ((sp.map fun s => (s.1, byteArr s.2)).map fun s => (s.1, (s.2.size : Int))) := by
        rw [List.map_map, show ((fun s : Int × Array UInt8 => (s.1, (s.2.size : Int))) ∘ fun s : Int × List Int => (s.1, byteArr s.2)) = fun s => (s.1, (s.2.length : Int)) from by funext s; simp [byteArr_size]]
        exact hso
      have hall : ∀ s ∈ sp.map fun s => (s.1, byteArr s.2), 0 ≤ s.1 ∧ 1 ≤ (s.2.size : Int) ∧ s.1 + (s.2.size : Int) ≤ z := fun s hs => spansOk_all (Int.le_refl 0) hso' (s.1, (s.2.size : Int)) (List.mem_map.mpr ⟨s, hs, rfl⟩)
      have hal : as.length = sp.length := by have := hpd.length; rw [List.length_map] at this; exact this
      refine r_fldE hx M.fS.cl M.tS rfl ⟨p, rfl, ⟨_, SqT.of hp⟩, fun D2 hD2 => ?_⟩
      refine lc_it (walk_tup (xs := as.map V.ref)) (fun i H' => Same H H' ∧ ∃ bs : List Addr, H' D2 = some (.lst (bs.map V.ref)) ∧ Paired (fun q (s : Int × Array UInt8) => q ≠ D2 ∧ H' q = some (.tup [.int s.1, .int (s.2.size : Int)])) bs ((sp.map fun s => (s.1, byteArr s.2)).take i)) ?_ (fun i H' _ ⟨e', _⟩ => SqT.of (e' _ _ hp)) ?_ ?_
      · exact ⟨same_new hD2, [], upd_same, .nil⟩
      · rintro i v Hc H' hi ⟨e', bs, hb', hbp⟩ ⟨rfl, hv⟩
        rw [List.getElem?_map] at hv
        obtain ⟨qa, hqa, rfl⟩ : ∃ qa, as[i]? = some qa ∧ V.ref qa = v := by
          cases e : as[i]? with
          | none => rw [e] at hv; cases hv
          | some qa => rw [e] at hv; exact ⟨qa, rfl, Option.some.inj hv⟩
        obtain ⟨s, hsi, hqt⟩ := paired_at hpd hqa
        have hq' := e' _ _ hqt
        obtain ⟨a1, a2, a3⟩ := hall s (List.mem_of_getElem? hsi)
        have hy : s.2.size ≤ 100000 := by omega
        walk_at "rd"
        refine ⟨rfl, ?_⟩
        unfold tYes
        dsimp only
        rw [if_pos rfl]
        walk_at "rd"
        rename_i T hT
        have nTD : T ≠ D2 := (ne_of_none hb' hT).symm
        have hbl : (bs.map V.ref).length ≤ 50 := by
          rw [List.length_map, hbp.length, List.length_take, List.length_map]
          omega
        refine ⟨_, upd_old hT hb', Nat.lt_of_le_of_lt hbl (by decide), fun b o eo => ?_, bs ++ [T], by rw [upd_same, List.map_append]; rfl, ?_⟩
        · have h2 := e' _ _ eo
          rw [upd_ne (ne_of_none eo hD2), upd_ne (ne_of_none h2 hT)]
          exact h2
        · rw [take_snoc hsi]
          refine paired_snoc (Paired.mapP hbp fun y s ⟨n1, g1⟩ => ⟨n1, ?_⟩) ⟨nTD, ?_⟩
          · rw [upd_ne n1, upd_ne (ne_of_none g1 hT)]
            exact g1
          · rw [upd_ne nTD, upd_same]
      · rintro H2 ⟨e', bs, hb', hbp⟩
        rw [List.length_map, hal, ← List.length_map (as := sp) (fun s : Int × List Int => (s.1, byteArr s.2)), List.take_length] at hbp
        have hx2 := e' _ _ hx
        have hp2 := e' _ _ hp
        walk_at "rd"
        refine r_fldE hx2 M.fS.cl M.tZ rfl ?_
        walk_at "rd"
        have hsp : Paired (fun q (s : Int × Int) => H2 q = some (.tup [.int s.1, .int s.2])) bs ((sp.map fun s => (s.1, byteArr s.2)).map fun s => (s.1, (s.2.size : Int))) := paired_mapR (R := fun q (s : Int × Int) => H2 q = some (.tup [.int s.1, .int s.2])) (Paired.mapP hbp fun y s ⟨_, g1⟩ => g1)
        rw [List.map_map, show ((fun s : Int × Array UInt8 => (s.1, (s.2.size : Int))) ∘ fun s : Int × List Int => (s.1, byteArr s.2)) = fun s => (s.1, (s.2.length : Int)) from by funext s; simp [byteArr_size]] at hsp
        refine sp_map (sp := spn sp) ⟨bs, hb', hsp⟩ (by unfold spn; rw [List.length_map]; exact hsl) hsm (fun H3 e3 => ?_)
        have hx3 := e3 _ _ hx2
        have hp3 := e3 _ _ hp2
        walk_at "rd"
        refine r_bmB ?_
        refine ⟨_, rfl, ?_⟩
        walk_at "rd"
        refine r_fldE hx3 M.fS.cl M.tS rfl ⟨p, rfl, ⟨_, SqT.of hp3⟩, fun D4 hD4 => ?_⟩
        refine lc_it (walk_tup (xs := as.map V.ref)) (fun i H' => Same H3 H' ∧ H' D4 = some (.lst (((sp.map fun s => Bt.byOf (s.2.map Int.toNat)).take i).map V.byt))) ⟨same_new hD4, by rw [upd_same]; rfl⟩ (fun i H' _ ⟨e, _⟩ => SqT.of (e _ _ hp3)) ?_ ?_
        · rintro i v Hc H' hi ⟨e4, hb4⟩ ⟨rfl, hv⟩
          rw [List.getElem?_map] at hv
          obtain ⟨qa, hqa, rfl⟩ : ∃ qa, as[i]? = some qa ∧ V.ref qa = v := by
            cases e : as[i]? with
            | none => rw [e] at hv; cases hv
            | some qa => rw [e] at hv; exact ⟨qa, rfl, Option.some.inj hv⟩
          obtain ⟨s, hsi, hqt⟩ := paired_at hpd hqa
          have hq' := e4 _ _ (e3 _ _ (e' _ _ hqt))
          rw [List.length_map, hal] at hi
          walk_at "rd"
          obtain ⟨s0, hs0, rfl⟩ : ∃ s0, sp[i]? = some s0 ∧ (s0.1, byteArr s0.2) = s := by
            rw [List.getElem?_map] at hsi
            cases e : sp[i]? with
            | none => rw [e] at hsi; cases hsi
            | some s0 => rw [e] at hsi; exact ⟨s0, rfl, Option.some.inj hsi⟩
          have hbo := byteArr_nat (hsb s0 (List.mem_of_getElem? hs0))
          refine ⟨rfl, ?_⟩
          unfold tYes
          dsimp only
          rw [if_pos rfl]
          walk_at "rd"
          refine ⟨_, hb4, ?_, fun b o eo => ?_, ?_⟩
          · rw [List.length_map, List.length_take, List.length_map]
            exact Nat.lt_of_le_of_lt (by omega : _ ≤ 50) (by decide)
          · rw [upd_ne (ne_of_none eo hD4)]
            exact e4 _ _ eo
          · have hsn : (sp.map fun s => Bt.byOf (s.2.map Int.toNat))[i]? = some (Bt.byOf (s0.2.map Int.toNat)) := by rw [List.getElem?_map, hs0]; rfl
            rw [upd_same, take_snoc hsn, List.map_append, ← hbo]
            rfl
        · rintro H4 ⟨e4, hb4⟩
          refine r_nil ?_
          have hlt : (as.map V.ref).length = (sp.map fun s => Bt.byOf (s.2.map Int.toNat)).length := by rw [List.length_map, List.length_map, hal]
          rw [hlt, List.take_length] at hb4
          have hcl := cat_len z1 (Int.le_refl 0) hso
          have hll := lines_len _ hsm
          have hnl : (numsOf z (spn sp)).length ≤ 102 := by
            unfold numsOf spn
            simp only [List.length_cons, List.length_flatMap, List.length_nil, List.map_map]
            have h2 : ∀ l : List (Int × List Int), (l.map ((fun _ => 0 + 1 + 1) ∘ fun s => (s.1, (s.2.length : Int)))).sum = 2 * l.length := fun l => by
              induction l with
              | nil => rfl
              | cons a l ih => simp only [List.map_cons, List.sum_cons, ih, List.length_cons, Function.comp]; omega
            rw [h2]
            omega
          have hpd2 := pad_lt (linesOf (numsOf z (spn sp))).length
          refine r_bjoin hb4 (by rw [flat_cat, List.length_map]; omega) ?_
          rw [flat_cat]
          refine r_addY (by rw [byOf_size, filled_len]; show _ + (((cat sp).map Nat.toUInt8).toArray).size ≤ _; simp; omega) ?_
          rw [show ((cat sp).map Nat.toUInt8).toArray = Bt.byOf (cat sp) from rfl, byOf_app]
          exact q _ ((e'.trans e3).trans e4)
end
/-! ### long parts -/
def hsF {α : Type} (us mv ws : List α) : List α := match us, mv, ws with
  | [a, b], [m, t, g], [s] => [a, b, m, s, t, g]
  | _, _, _ => []
def LL : Str := "././@LongLink"
def longP (k z : Str) : List Nat := if z.length ≤ 100 then [] else HD k LL "" 0 (z.length + 1) 0 ++ filled (z.cps.toList ++ [0])
theorem LL_asc : PySem.W.KSb.Asc LL := by show ∀ c ∈ _, _; decide +kernel
theorem LL_len : LL.length ≤ 1000 := by decide +kernel
theorem em_asc : PySem.W.KSb.Asc ("" : Str) := fun c hc => by cases hc
section
variable {P : Program} {w : World} {K : PySem.W.Frag} {mg : Str → Option Value} {base : Heap}
def spLongP : Sp := fun vs H Q _ => ∃ k z : Str, vs = [.str k, .str z] ∧ k.length = 1 ∧ PySem.W.KSb.Asc k ∧ z.length ≤ 250 ∧ PySem.W.KSb.Asc z ∧ ∀ H', Same H H' → Q (.byt (Bt.byOf (longP k z))) H'
theorem sp_longp {k z : Str} {H : Hp} {Q : VK} {E : XK} (h1 : k.length = 1) (h2 : PySem.W.KSb.Asc k) (h3 : z.length ≤ 250) (h4 : PySem.W.KSb.Asc z) (q : ∀ H', Same H H' → Q (.byt (Bt.byOf (longP k z))) H') : spLongP ([.str k, .str z] ++ []) H Q E := ⟨k, z, rfl, h1, h2, h3, h4, q⟩
theorem ok_longp {f : Addr} {fd : FuncData} {k : Nat} {t1 t2 : Tok} (F : Fun K "long_part" "long_part" s_long_part f fd) (m1 : mg "len" = none) (m_TS : mg "TEXT_SIZE" = some (.int 100 t1)) (m_LN : mg "LONG_NAME" = some (.str "././@LongLink" t2)) (c_padded : CalT P w K mg base 2 "padded" spPadded)
    (c_header_s : CalN P w K mg base 4 "header" 2 ["size"] (fun us ws => hsF us [.int 0, .int 0, .str ""] ws) spHeader) : FnOk P w K mg base CX0 (k + 5) f fd ["kind", "text"] spLongP := by
  refine F.ok sc_long_part (fun vs H Q E h => ?_) (fun cdv A outer s H vs Q E hr h => ?_)
  · obtain ⟨k, z, rfl, _⟩ := h
    rfl
  · obtain ⟨l, z, rfl, hl, hla, hz, hza, q⟩ := h
    have hu := hu_of hr
    have nd := sc_long_part.nd
    refine ⟨_, (pss_cons (ps_if (pt_cmpR op_le (pe_callB call_rLenZ (by rfl) (by assumption) (by decide +kernel) (pa_cons (pv 1) pa_nil)) (pe_glob (v := .int 100) (by rfl) m_TS (by first | exact rfl | exact ⟨_, rfl⟩)) (nomark _))
        (pss_one (ps_ret pe_byt))
        pss_nil)
      (pss_cons (ps_set (i := 2) nd rfl (Or.inl rfl) (pe_op op_addY (pe_bm PySem.F.plainAttrs_str PySem.F.slot_str_encode PySem.F.type_str_encode mt_encN (pv 1) (pa_cons pe_str pa_nil)) pe_byt))
      (pss_one (ps_ret (pe_op op_addY (pe_ckN c_header_s hr (by omega) (by rfl) (pa_cons (pv 0) (pa_cons (pe_glob (v := .str "././@LongLink") (by rfl) m_LN (by first | exact rfl | exact ⟨_, rfl⟩)) pa_nil)) (pk_cons (pe_callB call_rLenY (by rfl) (by assumption) (by decide +kernel) (pa_cons (pv 2) pa_nil)) pk_nil)) (pe_cc c_padded hr (by omega) (by rfl) (pa_cons (pv 2) pa_nil))))))), ?_⟩
    walk_at "rd"
    have hzl : z.cps.toList.length = z.length := by simp [Str.length]
    have hsz : (Bt.byOf (z.cps.toList ++ [0])).size = z.length + 1 := by rw [byOf_size, List.length_append, hzl]; rfl
    refine r_iteD (fun h1 => ?_) (fun h1 => ?_)
    · walk_at "rd"
      have e := q _ (Same.refl _)
      rw [show longP l z = [] from if_pos (by omega)] at e
      exact e
    · have hlp : longP l z = HD l LL "" 0 (z.length + 1) 0 ++ filled (z.cps.toList ++ [0]) := if_neg (by omega)
      walk_at "rd"
      refine ⟨rfl, ?_⟩
      walk_at "rd"
      refine r_enc hza (by omega) ?_
      walk_at "rd"
      refine r_addY (by rw [byOf_size, hzl]; show _ + 1 ≤ _; omega) ?_
      rw [show (#[0] : Array UInt8) = Bt.byOf [0] from rfl, byOf_app]
      walk_at "rd"
      refine ⟨rfl, rfl, l, LL, "", 0, z.length + 1, 0, by rw [hsz]; rfl, hl, LL_len, by decide, hla, LL_asc, em_asc, by decide, by omega, by decide, fun H1 e1 => ?_⟩
      walk_at "rd"
      refine sp_padded (by rw [List.length_append, hzl]; simp; omega) ?_
      have hp := pad_lt (z.cps.toList ++ [0]).length
      have hHl := HD_len (l := l) (z := LL) (a := "") (m := 0) (s := z.length + 1) (t := 0) (by simpa [Str.length] using hl) hla LL_asc em_asc (by decide) (by omega) (by decide)
      refine r_addY (by rw [byOf_size, byOf_size, filled_len, List.length_append, hzl, hHl]; simp only [List.length_append, hzl, List.length_cons, List.length_nil] at hp ⊢; omega) ?_
      rw [byOf_app, ← hlp]
      exact q _ e1
def spLLong : Sp := fun vs H Q _ => ∃ k z : Str, vs = [.str k, .str z] ∧ k.length = 1 ∧ PySem.W.KSb.Asc k ∧ z.length ≤ 250 ∧ PySem.W.KSb.Asc z ∧ ∀ p H', H p = none → Same H H' → LN H' p (longP k z) → Q (.ref p) H'
end
/-! ### a member's blocks -/
def ix_kdN {X : Cx} (K : PySem.W.Frag) (w : World) (h1 : X.K = K := by rfl) (h2 : X.w = w := by rfl) : IxR X (rIxD K w) := h1 ▸ h2 ▸ ix_kdict
def Mem.kd : Mem → Str
  | .file .. => "file"
  | .sparse .. => "sparse"
  | .dir .. => "directory"
  | .sym .. => "symlink"
  | .lnk .. => "link"
def Mem.kc : Mem → Str
  | .file .. => "0"
  | .sparse .. => "S"
  | .dir .. => "5"
  | .sym .. => "2"
  | .lnk .. => "1"
def Mem.bits : Mem → Int
  | .file _ b _ _ => b
  | .sparse _ b _ _ _ => b
  | .dir _ b _ => b
  | .sym _ b _ _ => b
  | .lnk _ b _ _ => b
def Mem.tm : Mem → Int
  | .file _ _ t _ => t
  | .sparse _ _ t _ _ => t
  | .dir _ _ t => t
  | .sym _ _ t _ => t
  | .lnk _ _ t _ => t
def Mem.bytes (m : Mem) : List Nat := longP "K" m.tgt ++ longP "L" m.nm ++ HD m.kc m.nm m.tgt m.bits.toNat m.stored.length m.tm.toNat ++ filled m.stored
theorem Mem.has {K : PySem.W.Frag} {c : Cs} {aM : Addr} {H : Hp} {x : Addr} {m : Mem} (M : MF K c aM) (h : m.Ins c H x) : ∃ C dx fs, H x = some (.ins C dx fs) ∧ CF K C aM m.kd ∧ fs.lookup ("KIND" : Str) = none ∧ fs.lookup ("name" : Str) = some (.str m.nm) ∧ fs.lookup ("mode" : Str) = some (.int m.bits) ∧ fs.lookup ("time" : Str) = some (.int m.tm) := by
  cases m with
  | file n b t ns => obtain ⟨dx, hx⟩ := h; exact ⟨_, dx, _, hx, M.fF, rfl, rfl, rfl, rfl⟩
  | sparse n b t z sp => obtain ⟨dx, p, hx, _⟩ := h; exact ⟨_, dx, _, hx, M.fS, rfl, rfl, rfl, rfl⟩
  | dir n b t => obtain ⟨dx, hx⟩ := h; exact ⟨_, dx, _, hx, M.fD, rfl, rfl, rfl, rfl⟩
  | sym n b t g => obtain ⟨dx, hx⟩ := h; exact ⟨_, dx, _, hx, M.fY, rfl, rfl, rfl, rfl⟩
  | lnk n b t g => obtain ⟨dx, hx⟩ := h; exact ⟨_, dx, _, hx, M.fL, rfl, rfl, rfl, rfl⟩
theorem Mem.Ok.stamp {m : Mem} (h : m.Ok) : stampOk m.nm m.bits m.tm := by
  cases m with
  | dir n b t => exact h
  | _ => exact h.1
theorem name_asc {z : Str} (h : nameB z = true) : PySem.W.KSb.Asc z := fun c hc => by
  have h1 := (of_name h).2.2
  unfold charsB at h1
  have h2 := of_decide_eq_true (List.all_eq_true.mp h1 c hc)
  have h3 : ∀ d ∈ NC.cps.toList, d < 128 := by decide +kernel
  exact h3 c h2
theorem Mem.Ok.tgt {m : Mem} (h : m.Ok) : PySem.W.KSb.Asc m.tgt ∧ m.tgt.length ≤ 250 := by
  cases m with
  | sym n b t g => exact ⟨name_asc h.2, (of_name h.2).2.1⟩
  | lnk n b t g => exact ⟨name_asc h.2, (of_name h.2).2.1⟩
  | _ => exact ⟨em_asc, (by show ("" : Str).length ≤ 250; decide)⟩
theorem Mem.Ok.nm {m : Mem} (h : m.Ok) : PySem.W.KSb.Asc m.nm ∧ m.nm.length ≤ 250 := ⟨name_asc (Mem.Ok.stamp h).1, (of_name (Mem.Ok.stamp h).1).2.1⟩
theorem Mem.kc_ok (m : Mem) : PySem.W.KSb.Asc m.kc ∧ m.kc.length = 1 := by
  have h : ∀ z ∈ (["0", "S", "5", "2", "1"] : List Str), PySem.W.KSb.Asc z ∧ z.length = 1 := by
    intro z hz
    simp only [List.mem_cons, List.not_mem_nil, or_false] at hz
    rcases hz with rfl | rfl | rfl | rfl | rfl <;> exact ⟨(by show ∀ c ∈ _, _; decide +kernel), by decide +kernel⟩
  cases m with
  | file n b t ns => exact h "0" (by simp)
  | sparse n b t z sp => exact h "S" (by simp)
  | dir n b t => exact h "5" (by simp)
  | sym n b t g => exact h "2" (by simp)
  | lnk n b t g => exact h "1" (by simp)
theorem Mem.Ok.stored {m : Mem} (h : m.Ok) : m.stored.length ≤ 4700 ∧ ∀ x ∈ m.stored, x < 256 := by
  cases m with
  | file n b t ns => exact ⟨by show (ns.map Int.toNat).length ≤ _; rw [List.length_map]; exact Nat.le_trans h.2.1 (by decide), all_lt h.2.2⟩
  | sparse n b t z sp =>
    obtain ⟨st, z0, z1, hsl, hso, hsb⟩ := h
    have hsm := spn_small z0 z1 hsl hso
    have hcl := cat_len z1 (Int.le_refl 0) hso
    have hll := lines_len _ hsm
    have hnl : (numsOf z (spn sp)).length ≤ 102 := by
      unfold numsOf spn
      simp only [List.length_cons, List.length_flatMap, List.length_nil, List.map_map]
      have h2 : ∀ l : List (Int × List Int), (l.map ((fun _ => 0 + 1 + 1) ∘ fun s => (s.1, (s.2.length : Int)))).sum = 2 * l.length := fun l => by
        induction l with
        | nil => rfl
        | cons a l ih => simp only [List.map_cons, List.sum_cons, ih, List.length_cons, Function.comp]; omega
      rw [h2]
      omega
    have hpd2 : (linesOf (numsOf z (spn sp))).length + pad (linesOf (numsOf z (spn sp))).length ≤ 512 := by
      unfold pad
      omega
    refine ⟨?_, fun x hx => ?_⟩
    · show (filled _ ++ cat sp).length ≤ _
      rw [List.length_append, filled_len]
      omega
    · rcases List.mem_append.mp hx with hx | hx
      · exact filled_lt (fun x hx => Nat.lt_trans (lines_lt hsm x hx) (by decide)) x hx
      · obtain ⟨s, hs, hxs⟩ := List.mem_flatMap.mp hx
        exact all_lt (hsb s hs) x hxs
  | _ => exact ⟨(by show ([] : List Nat).length ≤ 4700; decide), fun x hx => (by cases (show x ∈ ([] : List Nat) from hx))⟩
theorem longP_len {l z : Str} (hl : l.length = 1) (hla : PySem.W.KSb.Asc l) (hz : z.length ≤ 250) : (longP l z).length ≤ 1300 := by
  unfold longP
  split
  · decide
  · have hzl : z.cps.toList.length = z.length := by simp [Str.length]
    have hHl := HD_len (l := l) (z := LL) (a := "") (m := 0) (s := z.length + 1) (t := 0) (by simpa [Str.length] using hl) hla LL_asc em_asc (by decide) (by omega) (by decide)
    have hpd := pad_lt (z.cps.toList ++ [0]).length
    rw [List.length_append, hHl, filled_len]
    simp only [List.length_append, hzl, List.length_cons, List.length_nil] at hpd ⊢
    omega
theorem chK : PySem.W.KSb.Asc ("K" : Str) := by show ∀ c ∈ _, _; decide +kernel
theorem chL : PySem.W.KSb.Asc ("L" : Str) := by show ∀ c ∈ _, _; decide +kernel
theorem chKl : ("K" : Str).length = 1 := by decide +kernel
theorem chLl : ("L" : Str).length = 1 := by decide +kernel
theorem Mem.hd_len {m : Mem} (h : m.Ok) : (HD m.kc m.nm m.tgt m.bits.toNat m.stored.length m.tm.toNat).length = 512 := by
  obtain ⟨st1, st2, st3, st4, st5⟩ := Mem.Ok.stamp h
  obtain ⟨ka, kl⟩ := m.kc_ok
  have hs := (Mem.Ok.stored h).1
  exact HD_len (by simpa [Str.length] using kl) ka (Mem.Ok.nm h).1 (Mem.Ok.tgt h).1 (by omega) (by omega) (by omega)
section
variable {P : Program} {w : World} {K : PySem.W.Frag} {mg : Str → Option Value} {base : Heap}
def spPacked (c : Cs) : Sp := fun vs H Q _ => ∃ (x : Addr) (m : Mem), vs = [.ref x] ∧ m.Ins c H x ∧ m.Ok ∧ ∀ H', Same H H' → Q (.byt (Bt.byOf m.bytes)) H'
theorem sp_packed {c : Cs} {x : Addr} {m : Mem} {H : Hp} {Q : VK} {E : XK} (h : m.Ins c H x) (ho : m.Ok) (k : ∀ H', Same H H' → Q (.byt (Bt.byOf m.bytes)) H') : spPacked c ([.ref x] ++ []) H Q E := ⟨x, m, rfl, h, ho, k⟩
theorem ok_packed {f aM aKC : Addr} {fd : FuncData} {k : Nat} {c : Cs} (F : Fun K "packed" "packed" s_packed f fd) (m1 : mg "len" = none) (M : MF K c aM) (m_KC : mg "KIND_CHARACTERS" = some (.ref aKC)) (hKC : ∀ m : Mem, KDct K w aKC m.kd (.str m.kc))
    (c_target : CalT P w K mg base 2 "target_of" (spTarget c)) (c_stored : CalT P w K mg base 4 "stored_bytes" (spStored c)) (c_padded : CalT P w K mg base 2 "padded" spPadded) (c_longp : CalT P w K mg base 5 "long_part" spLongP)
    (c_header_k2 : CalN P w K mg base 4 "header" 2 ["mode", "size", "time", "target"] (fun us ws => us ++ ws) spHeader) : FnOk P w K mg base CX0 (k + 6) f fd ["member"] (spPacked c) := by
  refine F.ok sc_packed (fun vs H Q E h => ?_) (fun cdv A outer s H vs Q E hr h => ?_)
  · obtain ⟨x, m, rfl, _⟩ := h
    rfl
  · obtain ⟨x, m, rfl, hin, hok, q⟩ := h
    have hu := hu_of hr
    have nd := sc_packed.nd
    refine ⟨_, (pss_cons (ps_set (i := 1) nd rfl (Or.inl rfl) (pe_cc c_target hr (by omega) (by rfl) (pa_cons (pv 0) pa_nil)))
      (pss_cons (ps_set (i := 2) nd rfl (Or.inl rfl) (pe_cc c_stored hr (by omega) (by rfl) (pa_cons (pv 0) pa_nil)))
      (pss_cons (ps_set (i := 3) nd rfl (Or.inl rfl) (pe_ckN c_header_k2 hr (by omega) (by rfl) (pa_cons (pe_ix (ix_kdN K w) (pe_glob (v := .ref aKC) (by rfl) m_KC (by first | exact rfl | exact ⟨_, rfl⟩)) (pe_con (pv 0) rfl) (fun _ _ => rfl)) (pa_cons (pe_fld (pv 0) rfl) pa_nil)) (pk_cons (pe_fld (pv 0) rfl) (pk_cons (pe_callB call_rLenY (by rfl) (by assumption) (by decide +kernel) (pa_cons (pv 2) pa_nil)) (pk_cons (pe_fld (pv 0) rfl) (pk_cons (pv 1) pk_nil))))))
      (pss_one (ps_ret (pe_op op_addY (pe_op op_addY (pe_op op_addY (pe_cc c_longp hr (by omega) (by rfl) (pa_cons pe_str (pa_cons (pv 1) pa_nil))) (pe_cc c_longp hr (by omega) (by rfl) (pa_cons pe_str (pa_cons (pe_fld (pv 0) rfl) pa_nil)))) (pv 3)) (pe_cc c_padded hr (by omega) (by rfl) (pa_cons (pv 2) pa_nil)))))))), ?_⟩
    obtain ⟨C, dx, fs, hx, hC, fk, f1, f2, f3⟩ := Mem.has M hin
    obtain ⟨u, hu1⟩ := hC.con
    obtain ⟨st1, st2, st3, st4, st5⟩ := Mem.Ok.stamp hok
    obtain ⟨ta, tl⟩ := Mem.Ok.tgt hok
    obtain ⟨na, nl⟩ := Mem.Ok.nm hok
    obtain ⟨sl, slt⟩ := Mem.Ok.stored hok
    obtain ⟨ka, kl⟩ := m.kc_ok
    walk_at "rd"
    refine sp_target hin (fun H1 e1 => ?_)
    have hin1 := Mem.Ins.same e1 hin
    walk_at "rd"
    refine sp_stored hin1 hok (fun H2 e2 => ?_)
    have hx2 := e2 _ _ (e1 _ _ hx)
    walk_at "rd"
    have hsz : (Bt.byOf m.stored).size = m.stored.length := byOf_size _
    refine r_con ?_
    walk_at "rd"
    refine ⟨x, C, dx, fs, _, u, rfl, hx2, hC.cl, hu1, fk, ?_⟩
    refine ⟨aKC, m.kd, .str m.kc, rfl, rfl, hKC m, ?_⟩
    walk_at "rd"
    refine r_fldE hx2 hC.cl hC.n1 f1 ?_
    walk_at "rd"
    refine r_fldE hx2 hC.cl hC.n2 f2 ?_
    walk_at "rd"
    refine r_fldE hx2 hC.cl hC.n3 f3 ?_
    walk_at "rd"
    refine ⟨rfl, rfl, m.kc, m.nm, m.tgt, m.bits.toNat, m.stored.length, m.tm.toNat, by rw [hsz, Int.toNat_of_nonneg st2, Int.toNat_of_nonneg st4]; rfl, kl, by omega, by omega, ka, na, ta, by omega, by omega, by omega, fun H3 e3 => ?_⟩
    have hx3 := e3 _ _ hx2
    walk_at "rd"
    have lK := longP_len chKl chK tl
    have lL := longP_len chLl chL nl
    have lH := Mem.hd_len hok
    have lp := pad_lt m.stored.length
    refine sp_longp chKl chK tl ta (fun H4 e4 => ?_)
    have hx4 := e4 _ _ hx3
    walk_at "rd"
    refine r_fldE hx4 hC.cl hC.n1 f1 ?_
    walk_at "rd"
    refine sp_longp chLl chL nl na (fun H5 e5 => ?_)
    refine r_addY (by rw [byOf_size, byOf_size]; omega) ?_
    rw [byOf_app]
    walk_at "rd"
    refine r_addY (by rw [byOf_size, byOf_size, List.length_append]; omega) ?_
    rw [byOf_app]
    walk_at "rd"
    refine sp_padded (by omega) ?_
    refine r_addY (by rw [byOf_size, byOf_size, List.length_append, List.length_append, filled_len]; omega) ?_
    rw [byOf_app]
    exact q _ ((((e1.trans e2).trans e3).trans e4).trans e5)
end
/-! ### the law's stored bytes -/
theorem flat2 : ∀ l : List (Int × Int), (l.flatMap fun s => [s.1, s.2]).length = 2 * l.length
  | [] => rfl
  | a :: l => by
    simp only [List.flatMap_cons, List.length_append, flat2 l, List.length_cons, List.length_nil]
    omega
theorem nums_len (z : Int) (sp : List (Int × Int)) : (numsOf z sp).length = 2 + 2 * sp.length := by
  unfold numsOf
  rw [List.length_cons, List.length_cons, flat2]
  omega
section
variable {P : Program} {w : World} {K : PySem.W.Frag} {mg : Str → Option Value} {base : Heap}
def spLStored : Sp := fun vs H Q _ => ∃ (p : Addr) (m : Mem), vs = [.ref p] ∧ m.At H p ∧ m.Ok ∧ ∀ d H', Same H H' → LN H' d m.stored → Q (.ref d) H'
end
/-! ### the law's bytes -/
section
variable {P : Program} {w : World} {K : PySem.W.Frag} {mg : Str → Option Value} {base : Heap}
def tB (K : PySem.W.Frag) : TS := tSeq (tAsg (tCall spLStored [] E0 (tCons (tVar 0) tNil)) (gName 2))
                (tSeq
                  (tAsg
                    (tDGet
                      (tDisp
                        [(tC (V.str (Str.ofString "file")), tC (V.str (Str.ofString "0"))),
                          (tC (V.str (Str.ofString "sparse")), tC (V.str (Str.ofString "S"))),
                          (tC (V.str (Str.ofString "directory")), tC (V.str (Str.ofString "5"))),
                          (tC (V.str (Str.ofString "symlink")), tC (V.str (Str.ofString "2"))),
                          (tC (V.str (Str.ofString "link")), tC (V.str (Str.ofString "1")))])
                      (tOp (rIxL K) (tVar 0) (tC (V.int 0))))
                    (gName 3))
                  (tSeq
                    (tAsg
                      (tCall (spHead K) [] E0
                        (tCons (tVar 3)
                          (tCons (tOp (rIxL K) (tVar 0) (tC (V.int 1)))
                            (tCons
                              (tTup
                                (tCons (tOp (rIxL K) (tVar 0) (tC (V.int 2)))
                                  (tCons (tCB (rLenQ K) (tCons (tVar 2) tNil))
                                    (tCons (tOp (rIxL K) (tVar 0) (tC (V.int 3))) tNil))))
                              (tCons (tVar 1) tNil)))))
                      (gName 4))
                    (tRet
                      (tOp rCat
                        (tOp rCat
                          (tOp rCat (tCall spLLong [] E0 (tCons (tC (V.str (Str.ofString "K"))) (tCons (tVar 1) tNil)))
                            (tCall spLLong [] E0
                              (tCons (tC (V.str (Str.ofString "L")))
                                (tCons (tOp (rIxL K) (tVar 0) (tC (V.int 1))) tNil))))
                          (tVar 4))
                        (tCall spFilled [] E0 (tCons (tVar 2) tNil))))))
theorem Mem.At.hd {H : Hp} {p : Addr} {m : Mem} (h : m.At H p) : ∃ rest, H p = some (.lst (.str m.kd :: .str m.nm :: .int m.bits :: .int m.tm :: rest)) := by
  cases m with
  | file n b t ns => obtain ⟨d, h1, _⟩ := h; exact ⟨_, h1⟩
  | sparse n b t z sp => obtain ⟨d, h1, _⟩ := h; exact ⟨_, h1⟩
  | dir n b t => exact ⟨_, h⟩
  | sym n b t g => exact ⟨_, h⟩
  | lnk n b t g => exact ⟨_, h⟩
end
abbrev s_written : Stmt := topS 91
abbrev N_written : List Str := ["members", "member"]
theorem sc_written : FnScope N_written ["members"] (defScope s_written) := ⟨rfl, rfl, rfl, by decide +kernel, rfl, by decide +kernel, by decide +kernel⟩
/-! ### an archive -/
def arch (ms : List Mem) : List Nat := ms.flatMap Mem.bytes ++ List.replicate 1024 0
theorem Mem.bytes_len {m : Mem} (h : m.Ok) : m.bytes.length ≤ 8400 := by
  have lK := longP_len chKl chK (Mem.Ok.tgt h).2
  have lL := longP_len chLl chL (Mem.Ok.nm h).2
  have lH := Mem.hd_len h
  have lp := pad_lt m.stored.length
  have ls := (Mem.Ok.stored h).1
  unfold Mem.bytes
  rw [List.length_append, List.length_append, List.length_append, filled_len]
  omega
theorem longP_lt {k z : Str} (hk : PySem.W.KSb.Asc k) (hz : PySem.W.KSb.Asc z) : ∀ x ∈ longP k z, x < 256 := fun x hx => by
  unfold longP at hx
  split at hx
  · cases hx
  · rcases List.mem_append.mp hx with hx | hx
    · exact HD_lt hk LL_asc em_asc x hx
    · refine filled_lt (fun y hy => ?_) x hx
      rcases List.mem_append.mp hy with hy | hy
      · exact Nat.lt_trans (hz y hy) (by decide)
      · rw [List.mem_singleton.mp hy]; decide
theorem Mem.bytes_lt {m : Mem} (h : m.Ok) : ∀ x ∈ m.bytes, x < 256 := fun x hx => by
  unfold Mem.bytes at hx
  rcases List.mem_append.mp hx with hx | hx
  · rcases List.mem_append.mp hx with hx | hx
    · rcases List.mem_append.mp hx with hx | hx
      · exact longP_lt chK (Mem.Ok.tgt h).1 x hx
      · exact longP_lt chL (Mem.Ok.nm h).1 x hx
    · exact HD_lt m.kc_ok.1 (Mem.Ok.nm h).1 (Mem.Ok.tgt h).1 x hx
  · exact filled_lt (Mem.Ok.stored h).2 x hx
theorem flat_bytes : ∀ (ms : List Mem), flatB (ms.map fun m => Bt.byOf m.bytes) = (ms.flatMap Mem.bytes).map Nat.toUInt8
  | [] => rfl
  | m :: ms => by
    have ih := flat_bytes ms
    show (Bt.byOf m.bytes).toList ++ flatB (ms.map fun m => Bt.byOf m.bytes) = (m.bytes ++ ms.flatMap Mem.bytes).map Nat.toUInt8
    rw [ih, List.map_append]
    rfl
def Made (c : Cs) (H : Hp) (xs : List Addr) (ms : List Mem) : Prop := Paired (fun x m => Mem.Ins c H x m ∧ m.Ok) xs ms
theorem Made.same {c : Cs} {H H' : Hp} {xs : List Addr} {ms : List Mem} (e : Same H H') (h : Made c H xs ms) : Made c H' xs ms := Paired.mapP h fun x m ⟨a, b⟩ => ⟨Mem.Ins.same e a, b⟩
theorem Made.ok {c : Cs} {H : Hp} : ∀ {xs : List Addr} {ms : List Mem}, Made c H xs ms → ∀ m ∈ ms, m.Ok
  | _, _, .nil, m, hm => nomatch hm
  | _, _, .cons h t, m, hm => by
    rcases List.mem_cons.mp hm with rfl | hm
    · exact h.2
    · exact Made.ok t m hm
section
variable {P : Program} {w : World} {K : PySem.W.Frag} {mg : Str → Option Value} {base : Heap}
def spWritten (K : PySem.W.Frag) (tp : Bool) (c : Cs) : Sp := fun vs H Q _ => ∃ (p : Addr) (xs : List Addr) (ms : List Mem), vs = [.ref p] ∧ (if tp = true then SqT K H p (xs.map V.ref) else SqL K H p (xs.map V.ref)) ∧ Made c H xs ms ∧ ms.length ≤ 200 ∧ (ms.flatMap Mem.bytes).length ≤ 90000 ∧ ∀ H', Same H H' → Q (.byt (Bt.byOf (arch ms))) H'
theorem ok_written {f : Addr} {fd : FuncData} {k : Nat} {c : Cs} {t1 : Tok} (F : Fun K "written" "written" s_written f fd) (m1 : mg "bytes" = none) (m_ES : mg "END_SIZE" = some (.int 1024 t1)) (c_packed : CalT P w K mg base 6 "packed" (spPacked c)) : FnOk P w K mg base CX0 (k + 7) f fd ["members"] (spWritten K false c) := by
  refine F.ok sc_written (fun vs H Q E h => ?_) (fun cdv A outer s H vs Q E hr h => ?_)
  · obtain ⟨p, xs, ms, rfl, _⟩ := h
    rfl
  · obtain ⟨p, xs, ms, rfl, hp, hm, hml, hmb, q⟩ := h
    have hp : SqL K H p (xs.map V.ref) := hp
    have hu := hu_of hr
    have nd := sc_written.nd
    refine ⟨_, (pss_one (ps_ret (pe_op op_addY (pe_bmB PySem.W.FB.plainAttrs_bytes R59.slot_bjoin R59.type_bjoin mt_bjoin pe_byt (pa_cons (pe_lc (own := [("member", 1)]) (g := (gName 1)) (tt := tYes) rfl nd (pi_list (pv 0)) (blkOk_by (N := N_written) (sc := defScope s_written) (by decide +kernel)) (fun _ _ _ _ _ => (pg_name (i := 1) nd rfl (Or.inl rfl))) (fun _ _ _ _ _ => pts_nil) (fun _ _ _ _ _ => (pe_cc c_packed hr (by omega) (by rfl) (pa_cons (pv 1) pa_nil)))) pa_nil)) (pe_callTy call_bytesN (by rfl) (by assumption) (by decide +kernel) (pa_cons (pe_glob (v := .int 1024) (by rfl) m_ES (by first | exact rfl | exact ⟨_, rfl⟩)) pa_nil))))), ?_⟩
    walk_at "rd"
    refine r_bmB ?_
    refine ⟨_, rfl, ?_⟩
    walk_at "rd"
    intro D hD
    have hl : xs.length = ms.length := Paired.length hm
    refine lc_it (walk_list (xs := xs.map V.ref)) (fun i H' => Same H H' ∧ H' D = some (.lst (((ms.map fun m => Bt.byOf m.bytes).take i).map V.byt))) ⟨same_new hD, by rw [upd_same]; rfl⟩ (fun i H' _ ⟨e, _⟩ => e.seq hp) ?_ ?_
    · rintro i v Hc H' hi ⟨e, hb⟩ ⟨rfl, hv⟩
      rw [List.getElem?_map] at hv
      obtain ⟨x, hx, rfl⟩ : ∃ x, xs[i]? = some x ∧ V.ref x = v := by
        cases e : xs[i]? with
        | none => rw [e] at hv; cases hv
        | some x => rw [e] at hv; exact ⟨x, rfl, Option.some.inj hv⟩
      obtain ⟨m, hmi, hin, hok⟩ := paired_at hm hx
      rw [List.length_map, hl] at hi
      walk_at "rd"
      refine ⟨rfl, ?_⟩
      unfold tYes
      dsimp only
      rw [if_pos rfl]
      walk_at "rd"
      refine sp_packed (Mem.Ins.same e hin) hok (fun H2 e2 => ?_)
      refine ⟨_, e2 _ _ hb, ?_, fun b o eo => ?_, ?_⟩
      · rw [List.length_map, List.length_take, List.length_map]
        exact Nat.lt_of_le_of_lt (by omega : _ ≤ 200) (by decide)
      · rw [upd_ne (ne_of_none eo hD)]
        exact e2 _ _ (e _ _ eo)
      · have hsn : (ms.map fun m => Bt.byOf m.bytes)[i]? = some (Bt.byOf m.bytes) := by rw [List.getElem?_map, hmi]; rfl
        rw [upd_same, take_snoc hsn, List.map_append]
        rfl
    · rintro H1 ⟨e, hb⟩
      refine r_nil ?_
      rw [List.length_map, hl, show ms.length = (ms.map fun m => Bt.byOf m.bytes).length from by rw [List.length_map], List.take_length] at hb
      refine r_bjoin hb (by rw [flat_bytes, List.length_map]; omega) ?_
      rw [flat_bytes]
      walk_at "rd"
      refine r_bytesN (by decide) (by decide) ?_
      rw [show (1024 : Int).toNat = 1024 from rfl, byOf_zero]
      refine r_addY (by rw [byOf_size, List.length_replicate]; rw [List.size_toArray, List.length_map]; omega) ?_
      rw [show ((ms.flatMap Mem.bytes).map Nat.toUInt8).toArray = Bt.byOf (ms.flatMap Mem.bytes) from rfl, byOf_app]
      exact q _ e
def spBlocks (c : Cs) : Sp := fun vs H Q _ => ∃ (x : Addr) (m : Mem), vs = [.ref x] ∧ m.Ins c H x ∧ m.Ok ∧ ∀ H', Same H H' → Q (.int ((m.bytes.length / 512 : Nat) : Int)) H'
end
/-! ### lists of members -/
def LNew (H H' : Hp) (as : List Addr) (ms : List Mem) : Prop := Paired (fun q m => Mem.New H H' q m ∧ m.Ok ∧ m.Few) as ms
theorem LNew.to {H H' H2 : Hp} {as : List Addr} {ms : List Mem} (h : LNew H H' as ms) (y : ∀ b o, H b = none → H' b = some o → H2 b = some o) : LNew H H2 as ms := Paired.mapP h fun q m ⟨h1, h2⟩ => ⟨h1.to y, h2⟩
theorem LNew.from {H0 H H' : Hp} {as : List Addr} {ms : List Mem} (h : LNew H H' as ms) (y : ∀ b, H b = none → H0 b = none) : LNew H0 H' as ms := Paired.mapP h fun q m ⟨h1, h2⟩ => ⟨h1.from y, h2⟩
def LAt (H : Hp) (as : List Addr) (ms : List Mem) : Prop := Paired (fun q m => Mem.At H q m ∧ m.Ok) as ms
theorem LAt.same {H H' : Hp} {as : List Addr} {ms : List Mem} (e : Same H H') (h : LAt H as ms) : LAt H' as ms := Paired.mapP h fun q m ⟨h1, h2⟩ => ⟨Mem.At.same e h1, h2⟩
theorem LNew.at {H H' : Hp} {as : List Addr} {ms : List Mem} (h : LNew H H' as ms) : LAt H' as ms := Paired.mapP h fun q m ⟨h1, h2⟩ => ⟨h1.at, h2.1⟩
theorem LNew.few {H H' : Hp} : ∀ {as : List Addr} {ms : List Mem}, LNew H H' as ms → ∀ m ∈ ms, m.Few
  | _, _, .nil, m, hm => nomatch hm
  | _, _, .cons h t, m, hm => by
    rcases List.mem_cons.mp hm with rfl | hm
    · exact h.2.2
    · exact LNew.few t m hm
theorem LAt.ok {H : Hp} : ∀ {as : List Addr} {ms : List Mem}, LAt H as ms → ∀ m ∈ ms, m.Ok
  | _, _, .nil, m, hm => nomatch hm
  | _, _, .cons h t, m, hm => by
    rcases List.mem_cons.mp hm with rfl | hm
    · exact h.2
    · exact LAt.ok t m hm
abbrev s_text_in : Stmt := topS 69
abbrev N_text_in : List Str := ["data", "text", "byte"]
theorem sc_text_in : FnScope N_text_in ["data"] (defScope s_text_in) := ⟨rfl, rfl, rfl, by decide +kernel, rfl, by decide +kernel, by decide +kernel⟩
abbrev s_number_in : Stmt := topS 70
abbrev N_number_in : List Str := ["data", "digits", "byte"]
theorem sc_number_in : FnScope N_number_in ["data"] (defScope s_number_in) := ⟨rfl, rfl, rfl, by decide +kernel, rfl, by decide +kernel, by decide +kernel⟩
abbrev s_wrong_field : Stmt := topS 71
abbrev N_wrong_field : List Str := ["block", "heading", "long_name", "long_target", "is_long", "least", "most", "checks", "field", "is_right"]
theorem sc_wrong_field : FnScope N_wrong_field ["block", "heading", "long_name", "long_target"] (defScope s_wrong_field) := ⟨rfl, rfl, rfl, by decide +kernel, rfl, by decide +kernel, by decide +kernel⟩
abbrev s_is_right_name : Stmt := topS 72
abbrev N_is_right_name : List Str := ["name", "long_name"]
theorem sc_is_right_name : FnScope N_is_right_name ["name", "long_name"] (defScope s_is_right_name) := ⟨rfl, rfl, rfl, by decide +kernel, rfl, by decide +kernel, by decide +kernel⟩
abbrev s_is_right_kind : Stmt := topS 73
abbrev N_is_right_kind : List Str := ["kind", "is_long", "long_target"]
theorem sc_is_right_kind : FnScope N_is_right_kind ["kind", "is_long", "long_target"] (defScope s_is_right_kind) := ⟨rfl, rfl, rfl, by decide +kernel, rfl, by decide +kernel, by decide +kernel⟩
abbrev s_is_right_target : Stmt := topS 74
abbrev N_is_right_target : List Str := ["heading", "long_target"]
theorem sc_is_right_target : FnScope N_is_right_target ["heading", "long_target"] (defScope s_is_right_target) := ⟨rfl, rfl, rfl, by decide +kernel, rfl, by decide +kernel, by decide +kernel⟩
abbrev s_Heading___init__ : Stmt := inClass (topS 68) 0
abbrev N_Heading___init__ : List Str := ["self", "block"]
theorem sc_Heading___init__ : FnScope N_Heading___init__ ["self", "block"] (defScope s_Heading___init__) := ⟨rfl, rfl, rfl, by decide +kernel, rfl, by decide +kernel, by decide +kernel⟩
abbrev s_read_map : Stmt := topS 78
abbrev N_read_map : List Str := ["block", "stored", "text", "lines", "numbers", "size", "spans", "line", "at", "byte", "offset", "length"]
theorem sc_read_map : FnScope N_read_map ["block", "stored"] (defScope s_read_map) := ⟨rfl, rfl, rfl, by decide +kernel, rfl, by decide +kernel, by decide +kernel⟩
abbrev s_Scanner___init__ : Stmt := inClass (topS 80) 0
abbrev N_Scanner___init__ : List Str := ["self", "offset"]
theorem sc_Scanner___init__ : FnScope N_Scanner___init__ ["self", "offset"] (defScope s_Scanner___init__) := ⟨rfl, rfl, rfl, by decide +kernel, rfl, by decide +kernel, by decide +kernel⟩
abbrev s_Scanner_is_over : Stmt := inClass (topS 80) 1
abbrev N_Scanner_is_over : List Str := ["self"]
theorem sc_Scanner_is_over : FnScope N_Scanner_is_over ["self"] (defScope s_Scanner_is_over) := ⟨rfl, rfl, rfl, by decide +kernel, rfl, by decide +kernel, by decide +kernel⟩
abbrev s_Scanner_take : Stmt := inClass (topS 80) 2
abbrev N_Scanner_take : List Str := ["self", "data", "found", "end"]
theorem sc_Scanner_take : FnScope N_Scanner_take ["self", "data"] (defScope s_Scanner_take) := ⟨rfl, rfl, rfl, by decide +kernel, rfl, by decide +kernel, by decide +kernel⟩
abbrev s_Scanner_take_block : Stmt := inClass (topS 80) 3
abbrev N_Scanner_take_block : List Str := ["self", "block", "place"]
theorem sc_Scanner_take_block : FnScope N_Scanner_take_block ["self", "block"] (defScope s_Scanner_take_block) := ⟨rfl, rfl, rfl, by decide +kernel, rfl, by decide +kernel, by decide +kernel⟩
abbrev s_Scanner_take_header : Stmt := inClass (topS 80) 4
abbrev N_Scanner_take_header : List Str := ["self", "block", "heading"]
theorem sc_Scanner_take_header : FnScope N_Scanner_take_header ["self", "block"] (defScope s_Scanner_take_header) := ⟨rfl, rfl, rfl, by decide +kernel, rfl, by decide +kernel, by decide +kernel⟩
abbrev s_Scanner_take_stored : Stmt := inClass (topS 80) 5
abbrev N_Scanner_take_stored : List Str := ["self", "block"]
theorem sc_Scanner_take_stored : FnScope N_Scanner_take_stored ["self", "block"] (defScope s_Scanner_take_stored) := ⟨rfl, rfl, rfl, by decide +kernel, rfl, by decide +kernel, by decide +kernel⟩
abbrev s_Scanner_wrong_stored : Stmt := inClass (topS 80) 6
abbrev N_Scanner_wrong_stored : List Str := ["self", "size", "text", "padding"]
theorem sc_Scanner_wrong_stored : FnScope N_Scanner_wrong_stored ["self"] (defScope s_Scanner_wrong_stored) := ⟨rfl, rfl, rfl, by decide +kernel, rfl, by decide +kernel, by decide +kernel⟩
abbrev s_Scanner_ended : Stmt := inClass (topS 80) 7
abbrev N_Scanner_ended : List Str := ["self", "heading", "found"]
theorem sc_Scanner_ended : FnScope N_Scanner_ended ["self"] (defScope s_Scanner_ended) := ⟨rfl, rfl, rfl, by decide +kernel, rfl, by decide +kernel, by decide +kernel⟩
abbrev s_Scanner_member_of : Stmt := inClass (topS 80) 8
abbrev N_Scanner_member_of : List Str := ["self", "heading", "name", "target", "size", "spans", "pieces"]
theorem sc_Scanner_member_of : FnScope N_Scanner_member_of ["self", "heading"] (defScope s_Scanner_member_of) := ⟨rfl, rfl, rfl, by decide +kernel, rfl, by decide +kernel, by decide +kernel⟩
abbrev s_cut : Stmt := topS 81
abbrev N_cut : List Str := ["data", "spans", "pieces", "end", "offset", "length"]
theorem sc_cut : FnScope N_cut ["data", "spans"] (defScope s_cut) := ⟨rfl, rfl, rfl, by decide +kernel, rfl, by decide +kernel, by decide +kernel⟩
abbrev s_check_data_reading : Stmt := topS 84
abbrev N_check_data_reading : List Str := ["thing"]
theorem sc_check_data_reading : FnScope N_check_data_reading ["thing"] (defScope s_check_data_reading) := ⟨rfl, rfl, rfl, by decide +kernel, rfl, by decide +kernel, by decide +kernel⟩
abbrev s_check_source : Stmt := topS 86
abbrev N_check_source : List Str := ["data", "offset"]
theorem sc_check_source : FnScope N_check_source ["data", "offset"] (defScope s_check_source) := ⟨rfl, rfl, rfl, by decide +kernel, rfl, by decide +kernel, by decide +kernel⟩
abbrev s_File___eq__ : Stmt := inClass (topS 45) 2
abbrev N_File___eq__ : List Str := ["self", "other"]
theorem sc_File___eq__ : FnScope N_File___eq__ ["self", "other"] (defScope s_File___eq__) := ⟨rfl, rfl, rfl, by decide +kernel, rfl, by decide +kernel, by decide +kernel⟩
abbrev s_Sparse___eq__ : Stmt := inClass (topS 46) 2
abbrev N_Sparse___eq__ : List Str := ["self", "other"]
theorem sc_Sparse___eq__ : FnScope N_Sparse___eq__ ["self", "other"] (defScope s_Sparse___eq__) := ⟨rfl, rfl, rfl, by decide +kernel, rfl, by decide +kernel, by decide +kernel⟩
abbrev s_Directory___eq__ : Stmt := inClass (topS 47) 2
abbrev N_Directory___eq__ : List Str := ["self", "other"]
theorem sc_Directory___eq__ : FnScope N_Directory___eq__ ["self", "other"] (defScope s_Directory___eq__) := ⟨rfl, rfl, rfl, by decide +kernel, rfl, by decide +kernel, by decide +kernel⟩
abbrev s_Symlink___eq__ : Stmt := inClass (topS 48) 2
abbrev N_Symlink___eq__ : List Str := ["self", "other"]
theorem sc_Symlink___eq__ : FnScope N_Symlink___eq__ ["self", "other"] (defScope s_Symlink___eq__) := ⟨rfl, rfl, rfl, by decide +kernel, rfl, by decide +kernel, by decide +kernel⟩
abbrev s_Link___eq__ : Stmt := inClass (topS 49) 2
abbrev N_Link___eq__ : List Str := ["self", "other"]
theorem sc_Link___eq__ : FnScope N_Link___eq__ ["self", "other"] (defScope s_Link___eq__) := ⟨rfl, rfl, rfl, by decide +kernel, rfl, by decide +kernel, by decide +kernel⟩
/-! ### the text of bytes, the number of octal digits -/
def stripN (xs : List Nat) : List Nat := (xs.reverse.dropWhile fun c => c == 0).reverse
def txtS (xs : List Nat) : Str := ⟨xs.toArray⟩
def textV (xs : List Nat) : V := if (stripN xs).all (fun c => decide (c < 128)) = true then .str (txtS (stripN xs)) else .non
def octs (xs : List Nat) : Bool := xs.all fun c => decide (48 ≤ c) && decide (c ≤ 55)
def numN (xs : List Nat) : Int := if (xs.getLast? == some 0 && octs xs.dropLast) = true then ((Ox.octNum xs.dropLast : Nat) : Int) else -1
theorem strip_drop : ∀ (ys : List Nat), (∀ c ∈ ys, c < 256) → (ys.map Nat.toUInt8).dropWhile (fun c => c == 0) = (ys.dropWhile fun c => c == 0).map Nat.toUInt8
  | [], _ => rfl
  | c :: ys, h => by
    have hc := h c List.mem_cons_self
    have e : (c.toUInt8 == 0) = (c == 0) := by
      rw [Bool.eq_iff_iff, beq_iff_eq, beq_iff_eq, ← UInt8.toNat_inj, Nat.toUInt8, UInt8.toNat_ofNat']
      show c % 256 = 0 ↔ c = 0
      omega
    rw [List.map_cons]
    cases q : (c == 0) with
    | true =>
      rw [List.dropWhile_cons_of_pos (by rw [e]; exact q), List.dropWhile_cons_of_pos (by exact q)]
      exact strip_drop ys fun d hd => h d (List.mem_cons_of_mem _ hd)
    | false =>
      rw [List.dropWhile_cons_of_neg (by rw [e, q]; exact Bool.false_ne_true), List.dropWhile_cons_of_neg (by rw [q]; exact Bool.false_ne_true)]
      rfl
theorem strip_by {xs : List Nat} (h : ∀ c ∈ xs, c < 256) : Bt.stripB (Bt.byOf xs) = Bt.byOf (stripN xs) := by
  unfold Bt.stripB Bt.byOf stripN
  show ((((xs.map Nat.toUInt8).reverse).dropWhile _).reverse).toArray = _
  rw [← List.map_reverse, strip_drop _ fun c hc => h c (List.mem_reverse.mp hc), List.map_reverse]
theorem strip_mem {xs : List Nat} {c : Nat} (h : c ∈ stripN xs) : c ∈ xs := by
  unfold stripN at h
  exact List.mem_reverse.mp ((List.dropWhile_suffix _).subset (List.mem_reverse.mp h))
theorem strip_len {xs : List Nat} : (stripN xs).length ≤ xs.length := by
  unfold stripN
  have := (List.dropWhile_suffix (l := xs.reverse) fun c => c == 0).length_le
  rw [List.length_reverse] at this
  rw [List.length_reverse]
  exact this
theorem tx_by {xs : List Nat} (h : ∀ c ∈ xs, c < 256) : Bt.txOf (Bt.byOf xs) = txtS xs := by
  unfold Bt.txOf Bt.byOf txtS
  congr 1
  rw [List.map_toArray, List.map_map]
  congr 1
  refine (List.map_congr_left fun c hc => ?_).trans (List.map_id _)
  have := h c hc
  show c.toUInt8.toNat = c
  rw [Nat.toUInt8, UInt8.toNat_ofNat']
  omega
section
variable {P : Program} {w : World} {K : PySem.W.Frag} {mg : Str → Option Value} {base : Heap}
def spTextIn : Sp := fun vs H Q _ => ∃ xs : List Nat, vs = [.byt (Bt.byOf xs)] ∧ (∀ c ∈ xs, c < 256) ∧ xs.length ≤ 90000 ∧ ∀ H', Same H H' → Q (textV xs) H'
theorem ok_textin {f : Addr} {fd : FuncData} {k : Nat} (F : Fun K "text_in" "text_in" s_text_in f fd) (m1 : mg "all" = none) : FnOk P w K mg base CX0 (k + 2) f fd ["data"] spTextIn := by
  refine F.ok sc_text_in (fun vs H Q E h => ?_) (fun cdv A outer s H vs Q E hr h => ?_)
  · obtain ⟨xs, rfl, _⟩ := h
    rfl
  · obtain ⟨xs, rfl, hx, hz, q⟩ := h
    have hu := hu_of hr
    have nd := sc_text_in.nd
    refine ⟨_, (pss_cons (ps_set (i := 1) nd rfl (Or.inl rfl) (pe_bmB PySem.W.FB.plainAttrs_bytes Bt.slot_rs Bt.type_rs Bt.mt_rs (pv 0) (pa_cons pe_byt pa_nil)))
      (pss_cons (ps_if (pt_not (pt_val (pe_callB (call_allK K) (by rfl) (by assumption) (by decide +kernel) (pa_cons (pe_lc (own := [("byte", 2)]) (g := (gName 2)) (tt := tYes) rfl nd (pi_byt (pv 1)) (blkOk_by (N := N_text_in) (sc := defScope s_text_in) (by decide +kernel)) (fun _ _ _ _ _ => (pg_name (i := 2) nd rfl (Or.inl rfl))) (fun _ _ _ _ _ => pts_nil) (fun _ _ _ _ _ => (pe_cmpR op_lt (pv 2) pe_int (nomark _)))) pa_nil))))
        (pss_one (ps_ret pe_non))
        pss_nil)
      (pss_one (ps_ret (pe_bmB PySem.W.FB.plainAttrs_bytes PySem.W.FB.slot_bytes_decode PySem.W.FB.type_bytes_decode Bt.mt_dec (pv 1) (pa_cons pe_str pa_nil)))))), ?_⟩
    walk_at "rd"
    have hs256 : ∀ c ∈ stripN xs, c < 256 := fun c hc => hx c (strip_mem hc)
    have hsl : (stripN xs).length ≤ xs.length := strip_len
    refine r_bmB (r_var rfl ⟨_, rfl, r_cons (r_nil ⟨_, rfl, rfl, by rw [byOf_size]; omega, ?_⟩)⟩)
    rw [strip_by hx]
    walk_at "rd"
    unfold iByt
    refine r_var rfl ⟨_, rfl, fun D hD => ?_⟩
    refine lc_map (cs := stripN xs) (enc := fun (k : Nat) => V.int (k : Int)) (f := fun (k : Nat) => V.bl (decide (k < 128))) (Bt.walk_byOf hs256) hD (Nat.lt_of_le_of_lt (by omega : _ ≤ 90000) (by decide)) (fun _ _ => True.intro) (fun _ => rfl) ?_ ?_
    · intro c hc H' e Q' k'
      walk_at "rd"
      rw [show decide ((c : Int) < 128) = decide (c < 128) by rw [Bool.eq_iff_iff]; simp; omega]
      exact k' _ (Same.refl _)
    · intro H' e hl
      walk_at "rd"
      refine r_all (bs := (stripN xs).map fun c => decide (c < 128)) (by rw [List.map_map]; exact SqL.of hl) ?_
      have e2 : ((stripN xs).map fun c => decide (c < 128)).all id = (stripN xs).all fun c => decide (c < 128) := by rw [List.all_map]; rfl
      rw [e2]
      have q' := q H' e
      unfold textV at q'
      cases hb : (stripN xs).all fun c => decide (c < 128) with
      | false =>
        rw [hb, if_neg Bool.false_ne_true] at q'
        walk_at "rd"
        exact q'
      | true =>
        rw [hb, if_pos rfl] at q'
        walk_at "rd"
        refine r_bmB (r_var rfl ⟨_, rfl, r_cons (r_c (r_nil ⟨_, rfl, rfl, fun c hc => ?_, by rw [byOf_size]; omega, ?_⟩))⟩)
        · have hc' : c ∈ (Bt.byOf (stripN xs)).toList := by simpa using hc
          unfold Bt.byOf at hc'
          obtain ⟨k, hk, rfl⟩ := List.mem_map.mp (show c ∈ (stripN xs).map Nat.toUInt8 from by simpa using hc')
          have := of_decide_eq_true (List.all_eq_true.mp hb k hk)
          rw [Nat.toUInt8, UInt8.toNat_ofNat']
          omega
        · rw [tx_by hs256]
          exact q'
def spNumIn : Sp := fun vs H Q _ => ∃ xs : List Nat, vs = [.byt (Bt.byOf xs)] ∧ (∀ c ∈ xs, c < 256) ∧ 2 ≤ xs.length ∧ xs.length ≤ 600 ∧ ∀ H', Same H H' → Q (.int (numN xs)) H'
theorem ok_numin {f : Addr} {fd : FuncData} {k : Nat} (F : Fun K "number_in" "number_in" s_number_in f fd) (m1 : mg "all" = none) (m2 : mg "int" = none) : FnOk P w K mg base CX0 (k + 2) f fd ["data"] spNumIn := by
  refine F.ok sc_number_in (fun vs H Q E h => ?_) (fun cdv A outer s H vs Q E hr h => ?_)
  · obtain ⟨xs, rfl, _⟩ := h
    rfl
  · obtain ⟨xs, rfl, hx, hl2, hz, q⟩ := h
    have hu := hu_of hr
    have nd := sc_number_in.nd
    refine ⟨_, (pss_cons (ps_set (i := 1) nd rfl (Or.inl rfl) (pe_slice sl_Y (pv 0) po_none (po_some (pe_un un_neg pe_int))))
      (pss_cons (ps_if (PW.pt (pw_or (pt_cmpR op_ne (pe_ix Bt.ix_bytN (pv 0) (pe_un un_neg pe_int) (fun _ _ => rfl)) pe_int (nomark _)) (pw_or1 (pt_not (pt_val (pe_callB (call_allK K) (by rfl) (by assumption) (by decide +kernel) (pa_cons (pe_lc (own := [("byte", 2)]) (g := (gName 2)) (tt := tYes) rfl nd (pi_byt (pv 1)) (blkOk_by (N := N_number_in) (sc := defScope s_number_in) (by decide +kernel)) (fun _ _ _ _ _ => (pg_name (i := 2) nd rfl (Or.inl rfl))) (fun _ _ _ _ _ => pts_nil) (fun _ _ _ _ _ => (pe_cmpR Bt.op_inIB (pv 2) pe_byt (by rfl)))) pa_nil)))))))
        (pss_one (ps_ret (pe_un un_neg pe_int)))
        pss_nil)
      (pss_one (ps_ret (pe_callTy Ox.call_int8 (by rfl) (by assumption) (by decide +kernel) (pa_cons (pe_bmB PySem.W.FB.plainAttrs_bytes PySem.W.FB.slot_bytes_decode PySem.W.FB.type_bytes_decode Bt.mt_dec (pv 1) (pa_cons pe_str pa_nil)) (pa_cons pe_int pa_nil))))))), ?_⟩
    obtain ⟨ys, z, rfl⟩ : ∃ ys z, xs = ys ++ [z] := ⟨xs.dropLast, xs.getLast (by intro e; rw [e] at hl2; simp at hl2), (List.dropLast_concat_getLast _).symm⟩
    have hy1 : 1 ≤ ys.length := by rw [List.length_append, List.length_singleton] at hl2; omega
    have hy2 : ys.length ≤ 600 := by rw [List.length_append, List.length_singleton] at hz; omega
    have hys : ∀ c ∈ ys, c < 256 := fun c hc => hx c (List.mem_append_left _ hc)
    have hz256 : z < 256 := hx z (List.mem_append_right _ (List.mem_singleton.mpr rfl))
    have eN : numN (ys ++ [z]) = if (z == 0 && octs ys) = true then ((Ox.octNum ys : Nat) : Int) else -1 := by
      unfold numN
      rw [List.getLast?_concat, List.dropLast_concat]
      have e : (some z == some 0) = (z == 0) := by simp
      rw [e]
    have q' := fun H' e => q H' e
    rw [eN] at q'
    walk_at "rd"
    refine ⟨_, rfl, by rw [byOf_size, List.length_append, List.length_singleton]; omega, ?_⟩
    have eb : Bt.byOf (ys ++ [z]) = (ys.map Nat.toUInt8 ++ [z.toUInt8]).toArray := by
      unfold Bt.byOf
      rw [List.map_append]
      rfl
    have ep : PySem.W.KBy.picked (Bt.byOf (ys ++ [z])) none (some (-1)) = Bt.byOf ys := by
      rw [eb, L2.pk_butlast]
      rfl
    rw [ep]
    walk_at "rd"
    refine ⟨ys ++ [z], -1, z, rfl, rfl, by rw [List.length_append, List.length_singleton]; omega, hx, ?_, ?_⟩
    · have e1 : ixN (ys ++ [z]).length (-1) = some ys.length := by
        unfold ixN
        rw [if_neg (by decide), if_pos (by rw [List.length_append, List.length_singleton]; omega)]
        congr 1
        rw [List.length_append, List.length_singleton]
        omega
      unfold atI
      rw [e1]
      exact List.getElem?_concat_length ..
    walk_at "rd"
    by_cases hz0 : z = 0
    · subst hz0
      rw [if_neg (by simp)]
      walk_at "rd"
      unfold iByt
      refine r_var rfl ⟨_, rfl, fun D hD => ?_⟩
      refine lc_map (cs := ys) (enc := fun (k : Nat) => V.int (k : Int)) (f := fun (k : Nat) => V.bl (decide (48 ≤ k) && decide (k ≤ 55))) (Bt.walk_byOf hys) hD (Nat.lt_of_le_of_lt hy2 (by decide)) (fun _ _ => True.intro) (fun _ => rfl) ?_ ?_
      · intro c hc H' e Q' k'
        walk_at "rd"
        refine ⟨c, _, rfl, hys c hc, rfl, ?_⟩
        have e3 : (Bt.nums (#[48, 49, 50, 51, 52, 53, 54, 55] : Array UInt8).toList).contains ((c : Nat) : Int) = (decide (48 ≤ c) && decide (c ≤ 55)) := by
          rw [show Bt.nums (#[48, 49, 50, 51, 52, 53, 54, 55] : Array UInt8).toList = [48, 49, 50, 51, 52, 53, 54, 55] from rfl, Bool.eq_iff_iff]
          simp
          omega
        rw [e3]
        exact k' _ (Same.refl _)
      · intro H' e hl
        walk_at "rd"
        refine r_all (bs := ys.map fun c => decide (48 ≤ c) && decide (c ≤ 55)) (by rw [List.map_map]; exact SqL.of hl) ?_
        have e2 : (ys.map fun c => decide (48 ≤ c) && decide (c ≤ 55)).all id = octs ys := by rw [List.all_map]; rfl
        rw [e2]
        have qq := q' H' e
        rw [show ((0 : Nat) == 0) = true from rfl, Bool.true_and] at qq
        cases hb : octs ys with
        | false =>
          rw [hb, if_neg Bool.false_ne_true] at qq
          walk_at "rd"
          exact qq
        | true =>
          rw [hb, if_pos rfl] at qq
          have ho : ∀ c ∈ ys, Ox.IsOct c := fun c hc => by
            have := List.all_eq_true.mp hb c hc
            simp only [Bool.and_eq_true, decide_eq_true_eq] at this
            exact this
          walk_at "rd"
          refine r_bmB (r_var rfl ⟨_, rfl, r_cons (r_c (r_nil ⟨_, rfl, rfl, fun c hc => ?_, by rw [byOf_size]; omega, ?_⟩))⟩)
          · have hc' : c ∈ (Bt.byOf ys).toList := by simpa using hc
            unfold Bt.byOf at hc'
            obtain ⟨k, hk, rfl⟩ := List.mem_map.mp (show c ∈ ys.map Nat.toUInt8 from by simpa using hc')
            have := (ho k hk).2
            rw [Nat.toUInt8, UInt8.toNat_ofNat']
            omega
          · rw [tx_by hys]
            refine r_cons (r_c (r_nil ⟨_, rfl, ?_, ?_, ?_, ?_⟩))
            · intro e0
              have : ys = [] := by simpa [txtS] using e0
              rw [this] at hy1
              exact absurd hy1 (by decide)
            · show (txtS ys).cps.size ≤ 640
              simp [txtS]
              omega
            · intro c hc
              exact ho c (by simpa [txtS] using hc)
            · rw [show (txtS ys).cps.toList = ys by simp [txtS]]
              exact qq
    · rw [if_pos (by simp; omega)]
      walk_at "rd"
      have qq := q' H (Same.refl _)
      rw [show (z == 0) = false from beq_eq_false_iff_ne.mpr hz0, Bool.false_and, if_neg Bool.false_ne_true] at qq
      exact qq
end
/-! ### the fields of a right header, read -/
theorem octNum_snoc (l : List Nat) (c : Nat) : Ox.octNum (l ++ [c]) = Ox.octNum l * 8 + (c - 48) := by
  unfold Ox.octNum
  rw [List.foldl_append]
  rfl
theorem octNum_digs : ∀ (k n : Nat), n < 8 ^ k → Ox.octNum (Bt.digs k n).reverse = n
  | 0, n, h => by
    have : n = 0 := by simpa using h
    subst this
    rfl
  | k + 1, n, h => by
    have e : Bt.digs (k + 1) n = (48 + n % 8) :: Bt.digs k (n / 8) := rfl
    rw [e, List.reverse_cons, octNum_snoc, octNum_digs k (n / 8) (by rw [Nat.pow_succ] at h; omega)]
    omega
theorem octNum_octP {n k : Nat} (hk : 1 ≤ k) (h : n < 8 ^ k) : Ox.octNum (Bt.octP n k) = n := by
  rw [← Bt.digs_oct k n hk h]
  exact octNum_digs k n h
theorem numN_fld {n k : Nat} (hk : 1 ≤ k) (h : n < 8 ^ k) : numN (fldO n k) = (n : Int) := by
  unfold numN fldO
  rw [List.getLast?_concat, List.dropLast_concat]
  have e : octs (Bt.octP n k) = true := by
    refine List.all_eq_true.mpr fun c hc => ?_
    have := Bt.octP_signs n k c hc
    simp only [Bool.and_eq_true, decide_eq_true_eq]
    omega
  rw [e, if_pos (by rfl), octNum_octP hk h]
theorem strip_pad {l : List Nat} {n : Nat} (h : ∀ c ∈ l, c ≠ 0) : stripN (l ++ List.replicate n 0) = l := by
  unfold stripN
  rw [List.reverse_append, List.reverse_replicate, List.dropWhile_append_of_pos (fun c hc => by rw [List.eq_of_mem_replicate hc]; rfl)]
  have e : l.reverse.dropWhile (fun c => c == 0) = l.reverse := by
    cases q : l.reverse with
    | nil => rfl
    | cons c r =>
      have hc : c ∈ l := List.mem_reverse.mp (by rw [q]; exact List.mem_cons_self)
      rw [List.dropWhile_cons_of_neg (by rw [beq_iff_eq]; exact h c hc)]
  rw [e, List.reverse_reverse]
/-- signs that are no zero, below 128 -/
def Pl (z : Str) : Prop := ∀ c ∈ z.cps.toList, c ≠ 0 ∧ c < 128
theorem textV_pad {l : List Nat} {n : Nat} (h : ∀ c ∈ l, c ≠ 0 ∧ c < 128) : textV (l ++ List.replicate n 0) = .str (txtS l) := by
  unfold textV
  rw [strip_pad fun c hc => (h c hc).1, if_pos (List.all_eq_true.mpr fun c hc => decide_eq_true (h c hc).2)]
theorem textV_fld {z : Str} (h : Pl z) : textV (fldT z) = .str (txtS (z.cps.toList.take 100)) := textV_pad fun c hc => h c (List.mem_of_mem_take hc)
theorem txtS_self (z : Str) : txtS z.cps.toList = z := by
  unfold txtS
  simp
theorem txtS_take {z : Str} (h : z.length ≤ 100) : txtS (z.cps.toList.take 100) = z := by
  rw [List.take_of_length_le (by rw [Array.length_toList]; exact h), txtS_self]
theorem nc_plain : ∀ c ∈ NC.cps.toList, c ≠ 0 ∧ c < 128 := by decide +kernel
theorem pl_name {z : Str} (h : nameB z = true) : Pl z := fun c hc => by
  have h1 := (of_name h).2.2
  unfold charsB at h1
  have h2 := List.all_eq_true.mp h1 c hc
  exact nc_plain c (of_decide_eq_true h2)
/-! ### the parts of a header -/
theorem seg_at {α : Type} {pre seg post : List α} {i n : Nat} (hi : pre.length = i) (hn : seg.length = n) : ((pre ++ (seg ++ post)).drop i).take n = seg := by
  rw [← hi, List.drop_left, ← hn, List.take_left]
theorem r_slMid {xs : List Nat} {i j : Nat} {H : Hp} {Q : VK} (hi : i ≤ xs.length) (hj : j ≤ xs.length) (hz : xs.length ≤ 100000) (h : Q (.byt (Bt.byOf ((xs.drop i).take (j - i)))) H) : rSlY (.byt (Bt.byOf xs)) (some (i : Int)) (some (j : Int)) H Q := by
  refine ⟨_, rfl, by rw [byOf_size]; omega, ?_⟩
  unfold Bt.byOf
  rw [L2.pk_mid (by rw [List.length_map]; exact hi) (by rw [List.length_map]; exact hj), ← List.map_drop, ← List.map_take]
  exact h
structure HdOk (l z a : Str) (m s t : Nat) : Prop where
  l1 : l.cps.toList.length = 1
  pl : Pl l
  pz : Pl z
  pa : Pl a
  hm : m < 8 ^ 7
  hs : s < 8 ^ 11
  ht : t < 8 ^ 11
theorem pl_asc {z : Str} (h : Pl z) : PySem.W.KSb.Asc z := fun c hc => (h c hc).2
section
variable {l z a : Str} {m s t : Nat} (h : HdOk l z a m s t)
include h
theorem hd_sm : SM l z a m s t < 8 ^ 6 := SM_lt h.l1 (pl_asc h.pl) (pl_asc h.pz) (pl_asc h.pa) h.hm h.hs h.ht
theorem l_mode : (fldO m 7).length = 8 := fldO_len (by decide) h.hm
theorem l_size : (fldO s 11).length = 12 := fldO_len (by decide) h.hs
theorem l_time : (fldO t 11).length = 12 := fldO_len (by decide) h.ht
theorem l_sum : (fldO (SM l z a m s t) 6 ++ [32]).length = 8 := by rw [List.length_append, fldO_len (by decide) (hd_sm h)]; rfl
theorem hd_len : (HD l z a m s t).length = 512 := by
  unfold HD
  rw [List.length_append, List.length_append, List.length_append, FR_len h.hm h.hs h.ht, BK_len h.l1, fldO_len (by decide) (hd_sm h)]
  rfl
theorem f_name : (HD l z a m s t).take 100 = fldT z := by
  have e : HD l z a m s t = [] ++ (fldT z ++ (fldO m 7 ++ fldO 0 7 ++ fldO 0 7 ++ fldO s 11 ++ fldO t 11 ++ fldO (SM l z a m s t) 6 ++ [32] ++ BK l a)) := by unfold HD FR; simp only [List.append_assoc, List.nil_append]
  rw [e]
  exact seg_at (i := 0) rfl (fldT_len z)
theorem f_mode : ((HD l z a m s t).drop 100).take 8 = fldO m 7 := by
  have e : HD l z a m s t = fldT z ++ (fldO m 7 ++ (fldO 0 7 ++ fldO 0 7 ++ fldO s 11 ++ fldO t 11 ++ fldO (SM l z a m s t) 6 ++ [32] ++ BK l a)) := by unfold HD FR; simp only [List.append_assoc]
  rw [e]
  exact seg_at (fldT_len z) (l_mode h)
theorem f_owner : ((HD l z a m s t).drop 108).take 8 = fldO 0 7 := by
  have e : HD l z a m s t = (fldT z ++ fldO m 7) ++ (fldO 0 7 ++ (fldO 0 7 ++ fldO s 11 ++ fldO t 11 ++ fldO (SM l z a m s t) 6 ++ [32] ++ BK l a)) := by unfold HD FR; simp only [List.append_assoc]
  rw [e]
  exact seg_at (by rw [List.length_append, fldT_len, l_mode h]) rfl
theorem f_group : ((HD l z a m s t).drop 116).take 8 = fldO 0 7 := by
  have e : HD l z a m s t = (fldT z ++ fldO m 7 ++ fldO 0 7) ++ (fldO 0 7 ++ (fldO s 11 ++ fldO t 11 ++ fldO (SM l z a m s t) 6 ++ [32] ++ BK l a)) := by unfold HD FR; simp only [List.append_assoc]
  rw [e]
  exact seg_at (by rw [List.length_append, List.length_append, fldT_len, l_mode h]; rfl) rfl
theorem f_size : ((HD l z a m s t).drop 124).take 12 = fldO s 11 := by
  have e : HD l z a m s t = (fldT z ++ fldO m 7 ++ fldO 0 7 ++ fldO 0 7) ++ (fldO s 11 ++ (fldO t 11 ++ fldO (SM l z a m s t) 6 ++ [32] ++ BK l a)) := by unfold HD FR; simp only [List.append_assoc]
  rw [e]
  exact seg_at (by rw [List.length_append, List.length_append, List.length_append, fldT_len, l_mode h]; rfl) (l_size h)
theorem f_time : ((HD l z a m s t).drop 136).take 12 = fldO t 11 := by
  have e : HD l z a m s t = (fldT z ++ fldO m 7 ++ fldO 0 7 ++ fldO 0 7 ++ fldO s 11) ++ (fldO t 11 ++ (fldO (SM l z a m s t) 6 ++ [32] ++ BK l a)) := by unfold HD FR; simp only [List.append_assoc]
  rw [e]
  exact seg_at (by simp only [List.length_append]; rw [fldT_len, l_mode h, l_size h]; rfl) (l_time h)
theorem f_sum : ((HD l z a m s t).drop 148).take 8 = fldO (SM l z a m s t) 6 ++ [32] := by
  have e : HD l z a m s t = FR z m s t ++ ((fldO (SM l z a m s t) 6 ++ [32]) ++ BK l a) := by unfold HD; simp only [List.append_assoc]
  rw [e]
  exact seg_at (FR_len h.hm h.hs h.ht) (l_sum h)
theorem l_pre : (FR z m s t ++ fldO (SM l z a m s t) 6 ++ [32]).length = 156 := by
  rw [List.append_assoc, List.length_append, FR_len h.hm h.hs h.ht, l_sum h]
theorem f_kind : ((HD l z a m s t).drop 156).take 1 = l.cps.toList := by
  have e : HD l z a m s t = (FR z m s t ++ fldO (SM l z a m s t) 6 ++ [32]) ++ (l.cps.toList ++ (fldT a ++ [117, 115, 116, 97, 114] ++ [0, 48, 48] ++ List.replicate 247 0)) := by unfold HD BK; simp only [List.append_assoc]
  rw [e]
  exact seg_at (l_pre h) h.l1
theorem f_target : ((HD l z a m s t).drop 157).take 100 = fldT a := by
  have e : HD l z a m s t = (FR z m s t ++ fldO (SM l z a m s t) 6 ++ [32] ++ l.cps.toList) ++ (fldT a ++ ([117, 115, 116, 97, 114] ++ [0, 48, 48] ++ List.replicate 247 0)) := by unfold HD BK; simp only [List.append_assoc]
  rw [e]
  exact seg_at (by rw [List.length_append, l_pre h, h.l1]) (fldT_len a)
theorem f_magic : ((HD l z a m s t).drop 257).take 8 = [117, 115, 116, 97, 114, 0, 48, 48] := by
  have e : HD l z a m s t = (FR z m s t ++ fldO (SM l z a m s t) 6 ++ [32] ++ l.cps.toList ++ fldT a) ++ ([117, 115, 116, 97, 114, 0, 48, 48] ++ List.replicate 247 0) := by
    unfold HD BK
    simp only [List.append_assoc]
    rfl
  rw [e]
  exact seg_at (by rw [List.length_append, List.length_append, l_pre h, h.l1, fldT_len]) rfl
theorem f_rest : (HD l z a m s t).drop 265 = List.replicate 247 0 := by
  have e : HD l z a m s t = (FR z m s t ++ fldO (SM l z a m s t) 6 ++ [32] ++ l.cps.toList ++ fldT a ++ [117, 115, 116, 97, 114, 0, 48, 48]) ++ List.replicate 247 0 := by
    unfold HD BK
    simp only [List.append_assoc]
    rfl
  have hp : (FR z m s t ++ fldO (SM l z a m s t) 6 ++ [32] ++ l.cps.toList ++ fldT a ++ [117, 115, 116, 97, 114, 0, 48, 48]).length = 265 := by
    rw [List.length_append, List.length_append, List.length_append, l_pre h, h.l1, fldT_len]
    rfl
  rw [e, ← hp, List.drop_left]
end
/-! ### Heading -/
structure HdV where
  name : V
  mode : Int
  owner : Int
  group : Int
  size : Int
  time : Int
  kind : V
  target : V
def hdF (v : HdV) : List (Str × V) := putF "target" v.target (putF "kind" v.kind (putF "time" (.int v.time) (putF "size" (.int v.size) (putF "group" (.int v.group) (putF "owner" (.int v.owner) (putF "mode" (.int v.mode) (putF "name" v.name [])))))))
def hdOf (xs : List Nat) : HdV := ⟨textV (xs.take 100), numN ((xs.drop 100).take 8), numN ((xs.drop 108).take 8), numN ((xs.drop 116).take 8), numN ((xs.drop 124).take 12), numN ((xs.drop 136).take 12), textV ((xs.drop 156).take 1), textV ((xs.drop 157).take 100)⟩
theorem sp_textin {xs : List Nat} {H : Hp} {Q : VK} {E : XK} (hx : ∀ c ∈ xs, c < 256) (hz : xs.length ≤ 90000) (k : ∀ H', Same H H' → Q (textV xs) H') : spTextIn ([.byt (Bt.byOf xs)] ++ []) H Q E := ⟨xs, rfl, hx, hz, k⟩
theorem sp_numin {xs : List Nat} {H : Hp} {Q : VK} {E : XK} (hx : ∀ c ∈ xs, c < 256) (h2 : 2 ≤ xs.length) (hz : xs.length ≤ 600) (k : ∀ H', Same H H' → Q (.int (numN xs)) H') : spNumIn ([.byt (Bt.byOf xs)] ++ []) H Q E := ⟨xs, rfl, hx, h2, hz, k⟩
theorem lt_take {xs : List Nat} {n : Nat} (h : ∀ c ∈ xs, c < 256) : ∀ c ∈ xs.take n, c < 256 := fun c hc => h c (List.mem_of_mem_take hc)
theorem lt_drop {xs : List Nat} {n : Nat} (h : ∀ c ∈ xs, c < 256) : ∀ c ∈ xs.drop n, c < 256 := fun c hc => h c (List.mem_of_mem_drop hc)
section
variable {P : Program} {w : World} {K : PySem.W.Frag} {mg : Str → Option Value} {base : Heap}
def spHdI (C : Addr) : Sp := fun vs H Q _ => ∃ (x dx : Addr) (xs : List Nat), vs = [.ref x, .byt (Bt.byOf xs)] ∧ H x = some (.ins C dx []) ∧ xs.length = 512 ∧ (∀ c ∈ xs, c < 256) ∧ ∀ H', Frame x H H' → H' x = some (.ins C dx (hdF (hdOf xs))) → Q .non H'
theorem ok_hdI {f C : Addr} {fd : FuncData} {k : Nat} (F : Fun K "__init__" "Heading.__init__" s_Heading___init__ f fd) (hc : Cls K C) (a1 : NoAttr K C "name") (a2 : NoAttr K C "mode") (a3 : NoAttr K C "owner") (a4 : NoAttr K C "group") (a5 : NoAttr K C "size") (a6 : NoAttr K C "time") (a7 : NoAttr K C "kind") (a8 : NoAttr K C "target")
    (c_textin : CalT P w K mg base 2 "text_in" spTextIn) (c_numin : CalT P w K mg base 2 "number_in" spNumIn) : FnOk P w K mg base CX0 (k + 4) f fd ["self", "block"] (spHdI C) := by
  refine F.ok sc_Heading___init__ (fun vs H Q E h => ?_) (fun cdv A outer s H vs Q E hr h => ?_)
  · obtain ⟨x, dx, xs, rfl, _⟩ := h
    rfl
  · obtain ⟨x, dx, xs, rfl, hx, hl, h8, q⟩ := h
    have hu := hu_of hr
    have nd := sc_Heading___init__.nd
    refine ⟨_, (pss_cons (ps_fld (pv 0) (pe_cc c_textin hr (by omega) (by rfl) (pa_cons (pe_slice sl_Y (pv 1) po_none (po_some pe_int)) pa_nil)) rfl)
      (pss_cons (ps_fld (pv 0) (pe_cc c_numin hr (by omega) (by rfl) (pa_cons (pe_slice sl_Y (pv 1) (po_some pe_int) (po_some pe_int)) pa_nil)) rfl)
      (pss_cons (ps_fld (pv 0) (pe_cc c_numin hr (by omega) (by rfl) (pa_cons (pe_slice sl_Y (pv 1) (po_some pe_int) (po_some pe_int)) pa_nil)) rfl)
      (pss_cons (ps_fld (pv 0) (pe_cc c_numin hr (by omega) (by rfl) (pa_cons (pe_slice sl_Y (pv 1) (po_some pe_int) (po_some pe_int)) pa_nil)) rfl)
      (pss_cons (ps_fld (pv 0) (pe_cc c_numin hr (by omega) (by rfl) (pa_cons (pe_slice sl_Y (pv 1) (po_some pe_int) (po_some pe_int)) pa_nil)) rfl)
      (pss_cons (ps_fld (pv 0) (pe_cc c_numin hr (by omega) (by rfl) (pa_cons (pe_slice sl_Y (pv 1) (po_some pe_int) (po_some pe_int)) pa_nil)) rfl)
      (pss_cons (ps_fld (pv 0) (pe_cc c_textin hr (by omega) (by rfl) (pa_cons (pe_slice sl_Y (pv 1) (po_some pe_int) (po_some pe_int)) pa_nil)) rfl)
      (pss_one (ps_fld (pv 0) (pe_cc c_textin hr (by omega) (by rfl) (pa_cons (pe_slice sl_Y (pv 1) (po_some pe_int) (po_some pe_int)) pa_nil)) rfl))))))))), ?_⟩
    walk_at "rd"
    refine r_slTo (n := 100) (by omega) (by omega) ?_
    walk_at "rd"
    refine sp_textin (lt_take h8) (by rw [List.length_take]; omega) (fun H1 e1 => ?_)
    have x1 := e1 _ _ hx
    walk_at "rd"
    refine r_slMid (i := 100) (j := 108) (by omega) (by omega) (by omega) ?_
    walk_at "rd"
    refine sp_numin (lt_take (lt_drop h8)) (by rw [List.length_take, List.length_drop]; omega) (by rw [List.length_take, List.length_drop]; omega) (fun H2 e2 => ?_)
    have x2 := e2 _ _ upd_same
    walk_at "rd"
    refine r_slMid (i := 108) (j := 116) (by omega) (by omega) (by omega) ?_
    walk_at "rd"
    refine sp_numin (lt_take (lt_drop h8)) (by rw [List.length_take, List.length_drop]; omega) (by rw [List.length_take, List.length_drop]; omega) (fun H3 e3 => ?_)
    have x3 := e3 _ _ upd_same
    walk_at "rd"
    refine r_slMid (i := 116) (j := 124) (by omega) (by omega) (by omega) ?_
    walk_at "rd"
    refine sp_numin (lt_take (lt_drop h8)) (by rw [List.length_take, List.length_drop]; omega) (by rw [List.length_take, List.length_drop]; omega) (fun H4 e4 => ?_)
    have x4 := e4 _ _ upd_same
    walk_at "rd"
    refine r_slMid (i := 124) (j := 136) (by omega) (by omega) (by omega) ?_
    walk_at "rd"
    refine sp_numin (lt_take (lt_drop h8)) (by rw [List.length_take, List.length_drop]; omega) (by rw [List.length_take, List.length_drop]; omega) (fun H5 e5 => ?_)
    have x5 := e5 _ _ upd_same
    walk_at "rd"
    refine r_slMid (i := 136) (j := 148) (by omega) (by omega) (by omega) ?_
    walk_at "rd"
    refine sp_numin (lt_take (lt_drop h8)) (by rw [List.length_take, List.length_drop]; omega) (by rw [List.length_take, List.length_drop]; omega) (fun H6 e6 => ?_)
    have x6 := e6 _ _ upd_same
    walk_at "rd"
    refine r_slMid (i := 156) (j := 157) (by omega) (by omega) (by omega) ?_
    walk_at "rd"
    refine sp_textin (lt_take (lt_drop h8)) (by rw [List.length_take, List.length_drop]; omega) (fun H7 e7 => ?_)
    have x7 := e7 _ _ upd_same
    walk_at "rd"
    refine r_slMid (i := 157) (j := 257) (by omega) (by omega) (by omega) ?_
    walk_at "rd"
    refine sp_textin (lt_take (lt_drop h8)) (by rw [List.length_take, List.length_drop]; omega) (fun H8 e8 => ?_)
    have x8 := e8 _ _ upd_same
    walk_at "rd"
    refine q _ (fun b o nb e => ?_) upd_same
    rw [upd_ne nb]
    refine e8 _ _ ?_
    rw [upd_ne nb]
    refine e7 _ _ ?_
    rw [upd_ne nb]
    refine e6 _ _ ?_
    rw [upd_ne nb]
    refine e5 _ _ ?_
    rw [upd_ne nb]
    refine e4 _ _ ?_
    rw [upd_ne nb]
    refine e3 _ _ ?_
    rw [upd_ne nb]
    refine e2 _ _ ?_
    rw [upd_ne nb]
    exact e1 _ _ e
end
/-! ### the checks of a right header -/
def take1 (z : Str) : Str := txtS (z.cps.toList.take 100)
/-- the kinds of headers with the least and the greatest number of stored bytes -/
def szOf (l : Str) : Option (Int × Int) :=
  if l = "0" then some (0, 4096) else if l = "S" then some (512, 4608) else if l = "K" then some (102, 251) else if l = "L" then some (102, 251) else if l = "5" then some (0, 0) else if l = "2" then some (0, 0) else if l = "1" then some (0, 0) else none
theorem sz_cases {l : Str} {n : Int × Int} (h : szOf l = some n) : (l = "0" ∧ n = (0, 4096)) ∨ (l = "S" ∧ n = (512, 4608)) ∨ (l = "K" ∧ n = (102, 251)) ∨ (l = "L" ∧ n = (102, 251)) ∨ (l = "5" ∧ n = (0, 0)) ∨ (l = "2" ∧ n = (0, 0)) ∨ (l = "1" ∧ n = (0, 0)) := by
  unfold szOf at h
  repeat' split at h
  all_goals first | (exfalso; revert h; simp; done) | (have h2 := (Option.some.inj h).symm; simp_all)
section
variable {P : Program} {w : World} {K : PySem.W.Frag} {mg : Str → Option Value} {base : Heap}
theorem eqV_str {a b : Str} : eqV (.str a) (.str b) = decide (a = b) := by
  show (a == b) = decide (a = b)
  rw [Bool.eq_iff_iff, beq_iff_eq, decide_eq_true_iff]
def kdIn (l : Str) : Bool := decide (l = "K") || decide (l = "L")
/-! ### the target -/
structure HdC (K : PySem.W.Frag) (C : Addr) : Prop where
  cl : Cls K C
  nm : NoAttr K C "name"
  md : NoAttr K C "mode"
  ow : NoAttr K C "owner"
  gr : NoAttr K C "group"
  sz : NoAttr K C "size"
  tm : NoAttr K C "time"
  kd : NoAttr K C "kind"
  tg : NoAttr K C "target"
end
/-! ### a right header has no wrong field -/
theorem dec_str {a b : Str} : decide (V.str a = V.str b) = decide (a = b) := by
  rw [Bool.eq_iff_iff, decide_eq_true_iff, decide_eq_true_iff]
  exact ⟨fun h => by injection h, fun h => by rw [h]⟩
/-! ### the checks of any header -/
def TxV (x : V) : Prop := (∃ z : Str, x = .str z ∧ z.length ≤ 5000) ∨ x = .non
theorem TxV.leaf {x : V} (h : TxV x) : ∃ l, Dk.leafV x = some l := by
  rcases h with ⟨z, rfl, _⟩ | rfl
  · exact ⟨_, rfl⟩
  · exact ⟨_, rfl⟩
theorem TxV.flat {x : V} (h : TxV x) : flatV x = true := by
  rcases h with ⟨z, rfl, _⟩ | rfl <;> rfl
theorem textV_tx {xs : List Nat} (h : xs.length ≤ 5000) : TxV (textV xs) := by
  unfold textV
  split
  · refine .inl ⟨_, rfl, ?_⟩
    have := strip_len (xs := xs)
    show (stripN xs).toArray.size ≤ 5000
    rw [List.size_toArray]
    omega
  · exact .inr rfl
def szG : V → Option (Int × Int)
  | .str l => szOf l
  | _ => none
structure KdG (K : PySem.W.Frag) (w : World) (aSZ aLK aTK aBL : Addr) : Prop where
  ask : ∀ l : V, TxV l → (szG l = none ∧ Dk.GetA K w aSZ l none) ∨ ∃ (n : Int × Int) (p : Addr), szG l = some n ∧ Dk.GetA K w aSZ l (some (.ref p)) ∧ ∀ H, SqT K H p [.int n.1, .int n.2]
  lk : ∀ H, SqT K H aLK [.str "K", .str "L"]
  tk : ∀ H, SqT K H aTK [.str "1", .str "2"]
  bl : ∀ H, SqT K H aBL [.str "L", .str "1", .str "2"]
section
variable {P : Program} {w : World} {K : PySem.W.Frag} {mg : Str → Option Value} {base : Heap}
theorem TxV.any {x : V} {H : Hp} (h : TxV x) : AnyS K H x := by
  rcases h with h | rfl
  · exact .inl h
  · exact .inr ⟨rfl, _, .base .non, by decide +kernel⟩
def nmRightV (x : V) (ln : Str) : Bool := if ln = "" then decide (x = .str LL) || nameV x else decide (x = .str (cutS ln none (some 100)))
def spRNameG : Sp := fun vs H Q _ => ∃ (x : V) (ln : Str), vs = [x, .str ln] ∧ TxV x ∧ ln.length ≤ 5000 ∧ ∀ H', Same H H' → Q (.bl (nmRightV x ln)) H'
theorem ok_rnameG {f : Addr} {fd : FuncData} {k : Nat} {t1 t2 : Tok} (F : Fun K "is_right_name" "is_right_name" s_is_right_name f fd) (m_TS : mg "TEXT_SIZE" = some (.int 100 t1)) (m_LN : mg "LONG_NAME" = some (.str "././@LongLink" t2))
    (c_is_name : CalT P w K mg base 2 "is_name" (spName K)) : FnOk P w K mg base CX0 (k + 4) f fd ["name", "long_name"] spRNameG := by
  refine F.ok sc_is_right_name (fun vs H Q E h => ?_) (fun cdv A outer s H vs Q E hr h => ?_)
  · obtain ⟨x, ln, rfl, _⟩ := h
    rfl
  · obtain ⟨x, ln, rfl, h1, h2, q⟩ := h
    have hu := hu_of hr
    have nd := sc_is_right_name.nd
    unfold nmRightV at q
    have sc : ∀ z : Str, scal x (.str z) = true := fun z => by rcases h1 with ⟨z, rfl, _⟩ | rfl <;> rfl
    refine ⟨_, (pss_cons (ps_if (pt_cmpR op_ne (pv 1) pe_str (nomark _))
        (pss_one (ps_ret (pe_cmpR op_eq (pv 0) (pe_slice sl_str (pv 1) po_none (po_some (pe_glob (v := .int 100) (by rfl) m_TS (by first | exact rfl | exact ⟨_, rfl⟩)))) (nomark _))))
        pss_nil)
      (pss_one (ps_ret (pe_or (pe_cmpR op_eq (pv 0) (pe_glob (v := .str "././@LongLink") (by rfl) m_LN (by first | exact rfl | exact ⟨_, rfl⟩)) (nomark _)) (pe_one (pe_cc c_is_name hr (by omega) (by rfl) (pa_cons (pv 0) pa_nil))))))), ?_⟩
    walk_at "rd"
    by_cases e : ln = ""
    · rw [if_pos e] at q
      subst e
      walk_at "rd"
      refine r_eq (sc _) ?_
      have ELL : LL = "././@LongLink" := rfl
      rw [← ELL]
      by_cases e2 : x = .str LL
      · rw [decide_eq_true e2, Bool.true_or] at q
        rw [decide_eq_true e2]
        walk_at "rd"
        exact q H (Same.refl _)
      · rw [decide_eq_false e2, Bool.false_or] at q
        rw [decide_eq_false e2]
        walk_at "rd"
        exact sp_name h1.any fun H' e => q H' e
    · rw [if_neg e] at q
      rw [show (!decide (V.str ln = V.str "")) = true from by rw [decide_eq_false fun h => e (by injection h)]; rfl]
      walk_at "rd"
      exact r_eq (sc _) (q H (Same.refl _))
def kdInV (x : V) : Bool := inV x [.str "K", .str "L"]
def kdRightV (x : V) (b : Bool) (lt : Str) : Bool := if (szG x).isNone = true ∨ kdInV x ≠ b then false else decide (lt = "") || inV x [.str "L", .str "1", .str "2"]
def spRKindG : Sp := fun vs H Q _ => ∃ (x : V) (b : Bool) (lt : Str), vs = [x, .bl b, .str lt] ∧ TxV x ∧ Q (.bl (kdRightV x b lt)) H
theorem ok_rkindG {f aSZ aLK aTK aBL : Addr} {fd : FuncData} {k : Nat} (F : Fun K "is_right_kind" "is_right_kind" s_is_right_kind f fd) (m_SZ : mg "SIZES" = some (.ref aSZ)) (m_LK : mg "LONG_KINDS" = some (.ref aLK)) (m_BL : mg "BEHIND_LONG_TARGETS" = some (.ref aBL)) (KF : KdG K w aSZ aLK aTK aBL) :
    FnOk P w K mg base CX0 (k + 2) f fd ["kind", "is_long", "long_target"] spRKindG := by
  refine F.ok sc_is_right_kind (fun vs H Q E h => ?_) (fun cdv A outer s H vs Q E hr h => ?_)
  · obtain ⟨x, b, lt, rfl, _⟩ := h
    rfl
  · obtain ⟨x, b, lt, rfl, h1, q⟩ := h
    have hu := hu_of hr
    have nd := sc_is_right_kind.nd
    obtain ⟨l, hl⟩ := h1.leaf
    unfold kdRightV at q
    refine ⟨_, (pss_cons (ps_if (PW.pt (pw_or (pt_cmpR (Dk.op_notInAK K w) (pv 0) (pe_glob (v := .ref aSZ) (by rfl) m_SZ (by first | exact rfl | exact ⟨_, rfl⟩)) (by rfl)) (pw_or1 (pt_cmpR op_ne (pe_cmpR (op_inK K) (pv 0) (pe_glob (v := .ref aLK) (by rfl) m_LK (by first | exact rfl | exact ⟨_, rfl⟩)) (by rfl)) (pv 1) (nomark _)))))
        (pss_one (ps_ret pe_bl))
        pss_nil)
      (pss_one (ps_ret (pe_or (pe_cmpR op_eq (pv 2) pe_str (nomark _)) (pe_one (pe_cmpR (op_inK K) (pv 0) (pe_glob (v := .ref aBL) (by rfl) m_BL (by first | exact rfl | exact ⟨_, rfl⟩)) (by rfl))))))), ?_⟩
    walk_at "rd"
    rcases KF.ask x h1 with ⟨hn, D⟩ | ⟨n, p, hn, D, hp⟩
    · refine ⟨_, l, _, rfl, hl, D, ?_⟩
      rw [hn, if_pos (.inl rfl)] at q
      walk_at "rd"
      exact q
    · refine ⟨_, l, _, rfl, hl, D, ?_⟩
      walk_at "rd"
      refine r_inT (KF.lk H) h1.flat rfl ?_
      walk_at "rd"
      rw [show inV x [.str "K", .str "L"] = kdInV x from rfl]
      by_cases e1 : kdInV x = b
      · rw [hn, if_neg (by rintro (h | h); exact Bool.false_ne_true h; exact h e1)] at q
        rw [e1, decide_eq_true rfl]
        walk_at "rd"
        by_cases e2 : lt = ""
        · rw [decide_eq_true e2, Bool.true_or] at q
          subst e2
          walk_at "rd"
          exact q
        · rw [decide_eq_false e2, Bool.false_or] at q
          rw [show decide (V.str lt = V.str "") = false from decide_eq_false fun h => e2 (by injection h)]
          walk_at "rd"
          exact r_inT (KF.bl H) h1.flat rfl q
      · rw [if_pos (.inr e1)] at q
        rw [decide_eq_false (fun h => e1 (by injection h))]
        walk_at "rd"
        exact q
def tgRightV (k a : V) (lt : Str) : Bool := if inV k [.str "1", .str "2"] = true then (if lt = "" then nameV a else decide (a = .str (cutS lt none (some 100)))) else decide (a = .str "")
def spRTargetG (C : Addr) : Sp := fun vs H Q _ => ∃ (x dx : Addr) (v : HdV) (lt : Str), vs = [.ref x, .str lt] ∧ H x = some (.ins C dx (hdF v)) ∧ TxV v.kind ∧ TxV v.target ∧ lt.length ≤ 5000 ∧ ∀ H', Same H H' → Q (.bl (tgRightV v.kind v.target lt)) H'
theorem ok_rtargetG {f C aSZ aLK aTK aBL : Addr} {fd : FuncData} {k : Nat} {t1 : Tok} (F : Fun K "is_right_target" "is_right_target" s_is_right_target f fd) (hc : HdC K C) (m_TK : mg "TARGET_KINDS" = some (.ref aTK)) (KF : KdG K w aSZ aLK aTK aBL)
    (m_TS : mg "TEXT_SIZE" = some (.int 100 t1)) (c_is_name : CalT P w K mg base 2 "is_name" (spName K)) : FnOk P w K mg base CX0 (k + 4) f fd ["heading", "long_target"] (spRTargetG C) := by
  refine F.ok sc_is_right_target (fun vs H Q E h => ?_) (fun cdv A outer s H vs Q E hr h => ?_)
  · obtain ⟨x, dx, v, lt, rfl, _⟩ := h
    rfl
  · obtain ⟨x, dx, v, lt, rfl, hx, hk, ht, hz, q⟩ := h
    have hu := hu_of hr
    have nd := sc_is_right_target.nd
    obtain ⟨n, m, o, g, s', t, k', tg'⟩ := v
    dsimp only at hk ht q
    have sc : ∀ z : Str, scal tg' (.str z) = true := fun z => by rcases ht with ⟨z, rfl, _⟩ | rfl <;> rfl
    unfold tgRightV at q
    refine ⟨_, (pss_cons (ps_if (pt_cmpR (op_notInK K) (pe_fld (pv 0) rfl) (pe_glob (v := .ref aTK) (by rfl) m_TK (by first | exact rfl | exact ⟨_, rfl⟩)) (by rfl))
        (pss_one (ps_ret (pe_cmpR op_eq (pe_fld (pv 0) rfl) pe_str (nomark _))))
        pss_nil)
      (pss_cons (ps_if (pt_cmpR op_ne (pv 1) pe_str (nomark _))
        (pss_one (ps_ret (pe_cmpR op_eq (pe_fld (pv 0) rfl) (pe_slice sl_str (pv 1) po_none (po_some (pe_glob (v := .int 100) (by rfl) m_TS (by first | exact rfl | exact ⟨_, rfl⟩)))) (nomark _))))
        pss_nil)
      (pss_one (ps_ret (pe_cc c_is_name hr (by omega) (by rfl) (pa_cons (pe_fld (pv 0) rfl) pa_nil)))))), ?_⟩
    walk_at "rd"
    refine r_fldE hx hc.cl hc.kd rfl ?_
    walk_at "rd"
    refine ⟨_, _, rfl, .inr (KF.tk H), hk.flat, rfl, ?_⟩
    by_cases e : inV k' [.str "1", .str "2"] = true
    · rw [if_pos e] at q
      rw [e]
      walk_at "rd"
      by_cases e2 : lt = ""
      · rw [if_pos e2] at q
        subst e2
        walk_at "rd"
        refine r_fldE hx hc.cl hc.tg rfl ?_
        walk_at "rd"
        exact sp_name ht.any fun H' e => q H' e
      · rw [if_neg e2] at q
        rw [show (!decide (V.str lt = V.str "")) = true from by rw [decide_eq_false fun h => e2 (by injection h)]; rfl]
        walk_at "rd"
        refine r_fldE hx hc.cl hc.tg rfl ?_
        walk_at "rd"
        exact r_eq (sc _) (q H (Same.refl _))
    · rw [if_neg e] at q
      rw [Bool.not_eq_true] at e
      rw [e]
      rw [if_pos (by rfl)]
      walk_at "rd"
      refine r_fldE hx hc.cl hc.tg rfl ?_
      walk_at "rd"
      exact r_eq (sc _) (q H (Same.refl _))
end
/-! ### wrong_field of any header -/
def checksL (xs : List Nat) (ln lt : Str) : List (Str × Bool) :=
  [("name", nmRightV (hdOf xs).name ln),
   ("mode", if (hdOf xs).name = .str LL then decide ((hdOf xs).mode = 0) else (decide (0 ≤ (hdOf xs).mode) && decide ((hdOf xs).mode ≤ 4095))),
   ("owner", decide ((hdOf xs).owner = 0)), ("group", decide ((hdOf xs).group = 0)), ("size", decide (0 ≤ (hdOf xs).size)),
   ("time", if (hdOf xs).name = .str LL then decide ((hdOf xs).time = 0) else decide (0 ≤ (hdOf xs).time)),
   ("kind", kdRightV (hdOf xs).kind (decide ((hdOf xs).name = .str LL)) lt),
   ("target", tgRightV (hdOf xs).kind (hdOf xs).target lt),
   ("magic", decide (Bt.byOf ((xs.drop 257).take 8) = #[117, 115, 116, 97, 114, 0, 48, 48])),
   ("rest", decide (Bt.byOf (xs.drop 265) = Bt.byOf (List.replicate 247 0))),
   ("checksum", decide (Bt.byOf ((xs.drop 148).take 8) = Bt.byOf (fldO (CS xs) 6 ++ [32]))),
   ("size", decide (((szG (hdOf xs).kind).getD (0, 0)).1 ≤ (hdOf xs).size) && decide ((hdOf xs).size ≤ ((szG (hdOf xs).kind).getD (0, 0)).2))]
def wrongF (xs : List Nat) (ln lt : Str) : Str := (((checksL xs ln lt).find? fun p => !p.2).map fun p => p.1).getD ""
theorem hdOf_tx {xs : List Nat} (h : xs.length = 512) : TxV (hdOf xs).name ∧ TxV (hdOf xs).kind ∧ TxV (hdOf xs).target := by
  refine ⟨textV_tx ?_, textV_tx ?_, textV_tx ?_⟩ <;> simp only [List.length_take, List.length_drop] <;> omega
theorem find_step {α : Type} {f : α → Bool} : ∀ {xs : List α} {i : Nat} {x : α}, xs[i]? = some x → (∀ y ∈ xs.take i, f y = false) → f x = true → xs.find? f = some x
  | [], _, _, h, _, _ => by simp at h
  | y :: ys, 0, x, h, _, hx => by
    rw [List.getElem?_cons_zero] at h
    obtain rfl := Option.some.inj h
    rw [List.find?_cons_of_pos hx]
  | y :: ys, i + 1, x, h, hb, hx => by
    rw [List.getElem?_cons_succ] at h
    have h0 : f y = false := hb y (by rw [List.take_succ_cons]; exact List.mem_cons_self)
    rw [List.find?_cons_of_neg (by rw [h0]; exact Bool.false_ne_true)]
    exact find_step h (fun z hz => hb z (by rw [List.take_succ_cons]; exact List.mem_cons_of_mem _ hz)) hx
theorem r_joinB {c : Bool} {b : Bool} {ta tb : TE} {σ : L2.St} {H : Hp} {Q : VK} (k : Q (.bl b) H) (h1 : c = true → ∀ Q' : VK, Q' (.bl b) H → ta σ H Q') (h2 : c = false → ∀ Q' : VK, Q' (.bl b) H → tb σ H Q') : if c = true then ta σ H Q else tb σ H Q := by
  cases c with
  | true => rw [if_pos rfl]; exact h1 rfl Q k
  | false => rw [if_neg Bool.false_ne_true]; exact h2 rfl Q k
theorem dec_intV {a b : Int} : decide (V.int a = V.int b) = decide (a = b) := by
  rw [Bool.eq_iff_iff, decide_eq_true_iff, decide_eq_true_iff]
  exact ⟨fun h => by injection h, fun h => by rw [h]⟩
theorem dec_bytV {a b : Array UInt8} : decide (V.byt a = V.byt b) = decide (a = b) := by
  rw [Bool.eq_iff_iff, decide_eq_true_iff, decide_eq_true_iff]
  exact ⟨fun h => by injection h, fun h => by rw [h]⟩
theorem r_chB {p : Bool} {j k : Int} {K : VK} {σ : L2.St} {H : Hp} {i : Nat} (hv : σ[i]? = some (some (.int k))) (h : K (.bl (p && decide (j ≤ k))) H) : if p = true then tVar i σ H (fun w' H4 => rI0 (fun i j => V.bl (decide (i ≤ j))) (.int j) w' H4 K) else K (.bl false) H := by
  cases p with
  | true => rw [if_pos rfl]; exact r_var hv (r_I0 h)
  | false => rw [if_neg Bool.false_ne_true]; exact h
section
variable {P : Program} {w : World} {K : PySem.W.Frag} {mg : Str → Option Value} {base : Heap}
def spWFieldG (C : Addr) : Sp := fun vs H Q _ => ∃ (x dx : Addr) (xs : List Nat) (ln lt : Str), vs = [.byt (Bt.byOf xs), .ref x, .str ln, .str lt] ∧ xs.length = 512 ∧ (∀ c ∈ xs, c < 256) ∧ ln.length ≤ 5000 ∧ lt.length ≤ 5000 ∧
  H x = some (.ins C dx (hdF (hdOf xs))) ∧ ∀ H', Same H H' → Q (.str (wrongF xs ln lt)) H'
theorem ok_wfieldG {f C aSZ aLK aTK aBL : Addr} {fd : FuncData} {k : Nat} {t1 t2 t3 : Tok} (F : Fun K "wrong_field" "wrong_field" s_wrong_field f fd) (hc : HdC K C) (KF : KdG K w aSZ aLK aTK aBL) (m_SZ : mg "SIZES" = some (.ref aSZ))
    (m1 : mg "bytes" = none) (m_LN : mg "LONG_NAME" = some (.str "././@LongLink" t1)) (m_MG : mg "MAGIC" = some (.bytes #[117, 115, 116, 97, 114, 0, 48, 48] t2)) (m_RS : mg "REST_SIZE" = some (.int 247 t3))
    (c_rname : CalT P w K mg base 4 "is_right_name" spRNameG) (c_rkind : CalT P w K mg base 2 "is_right_kind" spRKindG) (c_rtarget : CalT P w K mg base 4 "is_right_target" (spRTargetG C)) (c_ismode : CalT P w K mg base 3 "is_mode" (spIn 0 4095)) (c_cfield : CalT P w K mg base 3 "checksum_field" spCField) :
    FnOk P w K mg base CX0 (k + 5) f fd ["block", "heading", "long_name", "long_target"] (spWFieldG C) := by
  refine F.ok sc_wrong_field (fun vs H Q E h => ?_) (fun cdv A outer s H vs Q E hr h => ?_)
  · obtain ⟨x, dx, xs, ln, lt, rfl, _⟩ := h
    rfl
  · obtain ⟨x, dx, xs, ln, lt, rfl, hl, h8, h1, h2, hx, q⟩ := h
    have hu := hu_of hr
    have nd := sc_wrong_field.nd
    obtain ⟨tn, tk, tt⟩ := hdOf_tx hl
    have qq := q
    unfold wrongF checksL at q
    generalize hv : hdOf xs = v at *
    obtain ⟨nm, md, ow, gr, sz, tm, kd, tg⟩ := v
    dsimp only at tn tk tt q
    have sc : ∀ z : Str, scal nm (.str z) = true := fun z => by rcases tn with ⟨z, rfl, _⟩ | rfl <;> rfl
    obtain ⟨lf, hlf⟩ := tk.leaf
    have ELL : LL = "././@LongLink" := rfl
    have hw : HdV.mk nm md ow gr sz tm kd tg = hdOf xs := hv.symm
    refine ⟨_, (pss_cons (ps_set (i := 4) nd rfl (Or.inl rfl) (pe_cmpR op_eq (pe_fld (pv 1) rfl) (pe_glob (v := .str "././@LongLink") (by rfl) m_LN (by first | exact rfl | exact ⟨_, rfl⟩)) (nomark _)))
      (pss_cons (ps_asg (Dk.pe_getAK K w (pe_glob (v := .ref aSZ) (by rfl) m_SZ (by first | exact rfl | exact ⟨_, rfl⟩)) (pe_fld (pv 1) rfl) (pe_tup (pa_cons pe_int (pa_cons pe_int pa_nil)))) (pg_tupK K (pg_tup rfl (pgs_cons (pg_name (i := 5) nd rfl (Or.inl rfl)) (pgs_cons (pg_name (i := 6) nd rfl (Or.inl rfl)) pgs_nil)))))
      (pss_cons (ps_set (i := 7) nd rfl (Or.inl rfl) (pe_lst (pa_cons (pe_tup (pa_cons pe_str (pa_cons (pe_cc c_rname hr (by omega) (by rfl) (pa_cons (pe_fld (pv 1) rfl) (pa_cons (pv 2) pa_nil))) pa_nil))) (pa_cons (pe_tup (pa_cons pe_str (pa_cons (pe_ifExp (pt_val (pv 4)) (pe_cmpR op_eq (pe_fld (pv 1) rfl) pe_int (nomark _)) (pe_cc c_ismode hr (by omega) (by rfl) (pa_cons (pe_fld (pv 1) rfl) pa_nil))) pa_nil))) (pa_cons (pe_tup (pa_cons pe_str (pa_cons (pe_cmpR op_eq (pe_fld (pv 1) rfl) pe_int (nomark _)) pa_nil))) (pa_cons (pe_tup (pa_cons pe_str (pa_cons (pe_cmpR op_eq (pe_fld (pv 1) rfl) pe_int (nomark _)) pa_nil))) (pa_cons (pe_tup (pa_cons pe_str (pa_cons (pe_cmpR op_ge (pe_fld (pv 1) rfl) pe_int (nomark _)) pa_nil))) (pa_cons (pe_tup (pa_cons pe_str (pa_cons (pe_ifExp (pt_val (pv 4)) (pe_cmpR op_eq (pe_fld (pv 1) rfl) pe_int (nomark _)) (pe_cmpR op_ge (pe_fld (pv 1) rfl) pe_int (nomark _))) pa_nil))) (pa_cons (pe_tup (pa_cons pe_str (pa_cons (pe_cc c_rkind hr (by omega) (by rfl) (pa_cons (pe_fld (pv 1) rfl) (pa_cons (pv 4) (pa_cons (pv 3) pa_nil)))) pa_nil))) (pa_cons (pe_tup (pa_cons pe_str (pa_cons (pe_cc c_rtarget hr (by omega) (by rfl) (pa_cons (pv 1) (pa_cons (pv 3) pa_nil))) pa_nil))) (pa_cons (pe_tup (pa_cons pe_str (pa_cons (pe_cmpR op_eq (pe_slice sl_Y (pv 0) (po_some pe_int) (po_some pe_int)) (pe_glob (v := .byt #[117, 115, 116, 97, 114, 0, 48, 48]) (by rfl) m_MG (by first | exact rfl | exact ⟨_, rfl⟩)) (nomark _)) pa_nil))) (pa_cons (pe_tup (pa_cons pe_str (pa_cons (pe_cmpR op_eq (pe_slice sl_Y (pv 0) (po_some pe_int) po_none) (pe_callTy call_bytesN (by rfl) (by assumption) (by decide +kernel) (pa_cons (pe_glob (v := .int 247) (by rfl) m_RS (by first | exact rfl | exact ⟨_, rfl⟩)) pa_nil)) (nomark _)) pa_nil))) (pa_cons (pe_tup (pa_cons pe_str (pa_cons (pe_cmpR op_eq (pe_slice sl_Y (pv 0) (po_some pe_int) (po_some pe_int)) (pe_cc c_cfield hr (by omega) (by rfl) (pa_cons (pv 0) pa_nil)) (nomark _)) pa_nil))) (pa_cons (pe_tup (pa_cons pe_str (pa_cons (pe_chain op_le op_le (pv 5) (pe_fld (pv 1) rfl) (pv 6)) pa_nil))) pa_nil))))))))))))))
      (pss_cons (ps_for PassesOwn.never rfl (pi_list (pv 7)) (pg_tupK K (pg_tup rfl (pgs_cons (pg_name (i := 8) nd rfl (Or.inl rfl)) (pgs_cons (pg_name (i := 9) nd rfl (Or.inl rfl)) pgs_nil))))
        (pss_one (ps_if (pt_not (pt_val (pv 9)))
        (pss_one (ps_ret (pv 8)))
        pss_nil)))
      (pss_one (ps_ret pe_str)))))), ?_⟩
    walk_at "rd"
    refine r_fldE (v := nm) hx hc.cl hc.nm rfl ?_
    walk_at "rd"
    refine r_eq (sc _) ?_
    rw [← ELL]
    generalize hil : decide (nm = V.str LL) = il at *
    walk_at "rd"
    have ask : ∃ (r : Option V) (n : Int × Int), Dk.GetA K w aSZ kd r ∧ (szG kd).getD (0, 0) = n ∧ ∀ (T : Addr) (H' : Hp), H' T = some (.tup [.int 0, .int 0]) → ∃ p, r.getD (.ref T) = .ref p ∧ SqT K H' p [.int n.1, .int n.2] := by
      rcases KF.ask kd tk with ⟨hn, D⟩ | ⟨n, p, hn, D, hp⟩
      · exact ⟨none, (0, 0), D, by rw [hn]; rfl, fun T H' hT => ⟨T, rfl, SqT.of hT⟩⟩
      · exact ⟨some (.ref p), n, D, by rw [hn]; rfl, fun T H' hT => ⟨p, rfl, hp H'⟩⟩
    obtain ⟨r, n, D, en, hr'⟩ := ask
    rw [en] at q
    refine ⟨_, rfl, ⟨kd, r, D⟩, ?_⟩
    walk_at "rd"
    refine r_fldE (v := kd) hx hc.cl hc.kd rfl ?_
    walk_at "rd"
    rename_i T0 g0
    refine ⟨lf, r, hlf, D, ?_⟩
    obtain ⟨pn, epn, hpn⟩ := hr' T0 _ (upd_same (H := H) (a := T0) (o := .tup [.int 0, .int 0]))
    rw [epn]
    refine r_gtup hpn rfl ?_
    walk_at "rd"
    refine r_fldE (v := nm) (by walk_at "lk") hc.cl hc.nm rfl ?_
    walk_at "rd"
    refine ⟨nm, ln, rfl, tn, h1, fun H1 e1 => ?_⟩
    generalize nmRightV nm ln = b1 at q
    have x1 : H1 x = some (.ins C dx (hdF ⟨nm, md, ow, gr, sz, tm, kd, tg⟩)) := e1 _ _ (by walk_at "lk")
    have E1 : Same H H1 := fun b o hb => e1 _ _ (upd_old (by assumption) hb)
    walk_at "rd"
    generalize hb2 : (if nm = V.str LL then decide (md = 0) else decide (0 ≤ md) && decide (md ≤ 4095)) = b2 at q
    refine r_joinB (b := b2) ?_ (fun hT Q' k => ?_) (fun hF Q' k => ?_)
    rotate_left
    · walk_at "rd"
      refine r_fldE (v := .int md) (by walk_at "lk") hc.cl hc.md rfl ?_
      walk_at "rd"
      rw [dec_intV]
      rw [if_pos (of_decide_eq_true (hil.trans hT))] at hb2
      rw [hb2]
      exact k
    · walk_at "rd"
      refine r_fldE (v := .int md) (by walk_at "lk") hc.cl hc.md rfl ?_
      walk_at "rd"
      rw [if_neg (of_decide_eq_false (hil.trans hF))] at hb2
      exact ⟨md, rfl, by rw [hb2]; exact k⟩
    walk_at "rd"
    refine r_fldE (v := .int ow) (by walk_at "lk") hc.cl hc.ow rfl ?_
    walk_at "rd"
    refine r_fldE (v := .int gr) (by walk_at "lk") hc.cl hc.gr rfl ?_
    walk_at "rd"
    refine r_fldE (v := .int sz) (by walk_at "lk") hc.cl hc.sz rfl ?_
    walk_at "rd"
    generalize hb6 : (if nm = V.str LL then decide (tm = 0) else decide (0 ≤ tm)) = b6 at q
    refine r_joinB (b := b6) ?_ (fun hT Q' k => ?_) (fun hF Q' k => ?_)
    rotate_left
    · walk_at "rd"
      refine r_fldE (v := .int tm) (by walk_at "lk") hc.cl hc.tm rfl ?_
      walk_at "rd"
      rw [dec_intV]
      rw [if_pos (of_decide_eq_true (hil.trans hT))] at hb6
      rw [hb6]
      exact k
    · walk_at "rd"
      refine r_fldE (v := .int tm) (by walk_at "lk") hc.cl hc.tm rfl ?_
      walk_at "rd"
      rw [if_neg (of_decide_eq_false (hil.trans hF))] at hb6
      rw [hb6]
      exact k
    walk_at "rd"
    refine r_fldE (v := kd) (by walk_at "lk") hc.cl hc.kd rfl ?_
    walk_at "rd"
    refine ⟨kd, il, lt, rfl, tk, ?_⟩
    generalize kdRightV kd il lt = b7 at *
    walk_at "rd"
    rename_i p1 g1 p2 g2 p3 g3 p4 g4 p5 g5 p6 g6 p7 g7
    refine ⟨x, dx, ⟨nm, md, ow, gr, sz, tm, kd, tg⟩, lt, rfl, by walk_at "lk", tk, tt, h2, fun H2 e2 => ?_⟩
    dsimp only
    generalize tgRightV kd tg lt = b8 at *
    have E2 : Same H1 H2 := fun b o hb => e2 _ _ (upd_old g7 (upd_old g6 (upd_old g5 (upd_old g4 (upd_old g3 (upd_old g2 (upd_old g1 hb)))))))
    have y1 := e2 _ _ (upd_old g7 (upd_old g6 (upd_old g5 (upd_old g4 (upd_old g3 (upd_old g2 upd_same))))))
    have y2 := e2 _ _ (upd_old g7 (upd_old g6 (upd_old g5 (upd_old g4 (upd_old g3 upd_same)))))
    have y3 := e2 _ _ (upd_old g7 (upd_old g6 (upd_old g5 (upd_old g4 upd_same))))
    have y4 := e2 _ _ (upd_old g7 (upd_old g6 (upd_old g5 upd_same)))
    have y5 := e2 _ _ (upd_old g7 (upd_old g6 upd_same))
    have y6 := e2 _ _ (upd_old g7 upd_same)
    have y7 := e2 _ _ upd_same
    have x2 : H2 x = some (.ins C dx (hdF ⟨nm, md, ow, gr, sz, tm, kd, tg⟩)) := E2 _ _ x1
    clear e2 e1 g1 g2 g3 g4 g5 g6 g7
    rw [dec_intV] at y3 y4
    walk_at "rd"
    refine r_slMid (i := 257) (j := 265) (by omega) (by omega) (by omega) ?_
    generalize hz9 : Bt.byOf ((xs.drop 257).take 8) = z9 at q
    walk_at "rd"
    refine r_slFrom (n := 265) (by omega) (by omega) ?_
    generalize hz10 : Bt.byOf (xs.drop 265) = z10 at *
    walk_at "rd"
    refine r_bytesN (by decide) (by decide) ?_
    walk_at "rd"
    refine r_slMid (i := 148) (j := 156) (by omega) (by omega) (by omega) ?_
    generalize hz11 : Bt.byOf ((xs.drop 148).take 8) = z11 at q
    walk_at "rd"
    refine sp_cfield hl h8 ?_
    generalize hzc : Bt.byOf (fldO (CS xs) 6 ++ [32]) = zc at *
    walk_at "rd"
    refine r_fldE (v := .int sz) (by walk_at "lk") hc.cl hc.sz rfl ?_
    walk_at "rd"
    refine r_chB (K := _) rfl ?_
    generalize hb12 : (decide (n.1 ≤ sz) && decide (sz ≤ n.2)) = b12 at *
    walk_at "rd"
    rename_i p8 g8 p9 g9 p10 g10 p11 g11 p12 g12 pL gL
    have e9 : decide (V.byt z9 = V.byt #[117, 115, 116, 97, 114, 0, 48, 48]) = decide (z9 = #[117, 115, 116, 97, 114, 0, 48, 48]) := dec_bytV
    have e10 : decide (V.byt z10 = V.byt (Array.replicate (Int.toNat 247) 0)) = decide (z10 = Bt.byOf (List.replicate 247 0)) := by rw [byOf_zero]; exact dec_bytV
    have e11 : decide (V.byt z11 = V.byt zc) = decide (z11 = zc) := dec_bytV
    rw [← e9, ← e10, ← e11] at q
    have hP : Paired (fun (v : V) (s : Str × Bool) => ∃ q, v = .ref q ∧ (upd (upd (upd (upd (upd (upd H2 p8 (.tup [.str "target", .bl b8])) p9 (.tup [.str "magic", .bl (decide (V.byt z9 = V.byt #[117, 115, 116, 97, 114, 0, 48, 48]))])) p10 (.tup [.str "rest", .bl (decide (V.byt z10 = V.byt (Array.replicate (Int.toNat 247) 0)))])) p11 (.tup [.str "checksum", .bl (decide (V.byt z11 = V.byt zc))])) p12 (.tup [.str "size", .bl b12])) pL (.lst [V.ref p1, V.ref p2, V.ref p3, V.ref p4, V.ref p5, V.ref p6, V.ref p7, V.ref p8, V.ref p9, V.ref p10, V.ref p11, V.ref p12])) q = some (.tup [.str s.1, .bl s.2]))
        [V.ref p1, V.ref p2, V.ref p3, V.ref p4, V.ref p5, V.ref p6, V.ref p7, V.ref p8, V.ref p9, V.ref p10, V.ref p11, V.ref p12]
        [("name", b1), ("mode", b2), ("owner", decide (ow = 0)), ("group", decide (gr = 0)), ("size", decide (0 ≤ sz)), ("time", b6), ("kind", b7), ("target", b8), ("magic", decide (V.byt z9 = V.byt #[117, 115, 116, 97, 114, 0, 48, 48])), ("rest", decide (V.byt z10 = V.byt (Array.replicate (Int.toNat 247) 0))), ("checksum", decide (V.byt z11 = V.byt zc)), ("size", b12)] := by
      refine .cons ⟨_, rfl, upd_old gL (upd_old g12 (upd_old g11 (upd_old g10 (upd_old g9 (upd_old g8 y1)))))⟩ ?_
      refine .cons ⟨_, rfl, upd_old gL (upd_old g12 (upd_old g11 (upd_old g10 (upd_old g9 (upd_old g8 y2)))))⟩ ?_
      refine .cons ⟨_, rfl, upd_old gL (upd_old g12 (upd_old g11 (upd_old g10 (upd_old g9 (upd_old g8 y3)))))⟩ ?_
      refine .cons ⟨_, rfl, upd_old gL (upd_old g12 (upd_old g11 (upd_old g10 (upd_old g9 (upd_old g8 y4)))))⟩ ?_
      refine .cons ⟨_, rfl, upd_old gL (upd_old g12 (upd_old g11 (upd_old g10 (upd_old g9 (upd_old g8 y5)))))⟩ ?_
      refine .cons ⟨_, rfl, upd_old gL (upd_old g12 (upd_old g11 (upd_old g10 (upd_old g9 (upd_old g8 y6)))))⟩ ?_
      refine .cons ⟨_, rfl, upd_old gL (upd_old g12 (upd_old g11 (upd_old g10 (upd_old g9 (upd_old g8 y7)))))⟩ ?_
      refine .cons ⟨_, rfl, upd_old gL (upd_old g12 (upd_old g11 (upd_old g10 (upd_old g9 upd_same))))⟩ ?_
      refine .cons ⟨_, rfl, upd_old gL (upd_old g12 (upd_old g11 (upd_old g10 upd_same)))⟩ ?_
      refine .cons ⟨_, rfl, upd_old gL (upd_old g12 (upd_old g11 upd_same))⟩ ?_
      refine .cons ⟨_, rfl, upd_old gL (upd_old g12 upd_same)⟩ ?_
      exact .cons ⟨_, rfl, upd_old gL upd_same⟩ .nil
    have hSq : (upd (upd (upd (upd (upd (upd H2 p8 (.tup [.str "target", .bl b8])) p9 (.tup [.str "magic", .bl (decide (V.byt z9 = V.byt #[117, 115, 116, 97, 114, 0, 48, 48]))])) p10 (.tup [.str "rest", .bl (decide (V.byt z10 = V.byt (Array.replicate (Int.toNat 247) 0)))])) p11 (.tup [.str "checksum", .bl (decide (V.byt z11 = V.byt zc))])) p12 (.tup [.str "size", .bl b12])) pL (.lst [V.ref p1, V.ref p2, V.ref p3, V.ref p4, V.ref p5, V.ref p6, V.ref p7, V.ref p8, V.ref p9, V.ref p10, V.ref p11, V.ref p12])) pL = some (.lst [V.ref p1, V.ref p2, V.ref p3, V.ref p4, V.ref p5, V.ref p6, V.ref p7, V.ref p8, V.ref p9, V.ref p10, V.ref p11, V.ref p12]) := upd_same
    have hS : Same H (upd (upd (upd (upd (upd (upd H2 p8 (.tup [.str "target", .bl b8])) p9 (.tup [.str "magic", .bl (decide (V.byt z9 = V.byt #[117, 115, 116, 97, 114, 0, 48, 48]))])) p10 (.tup [.str "rest", .bl (decide (V.byt z10 = V.byt (Array.replicate (Int.toNat 247) 0)))])) p11 (.tup [.str "checksum", .bl (decide (V.byt z11 = V.byt zc))])) p12 (.tup [.str "size", .bl b12])) pL (.lst [V.ref p1, V.ref p2, V.ref p3, V.ref p4, V.ref p5, V.ref p6, V.ref p7, V.ref p8, V.ref p9, V.ref p10, V.ref p11, V.ref p12])) := fun b o hb => upd_old gL (upd_old g12 (upd_old g11 (upd_old g10 (upd_old g9 (upd_old g8 (E2 _ _ (E1 _ _ hb)))))))
    generalize (upd (upd (upd (upd (upd (upd H2 p8 (.tup [.str "target", .bl b8])) p9 (.tup [.str "magic", .bl (decide (V.byt z9 = V.byt #[117, 115, 116, 97, 114, 0, 48, 48]))])) p10 (.tup [.str "rest", .bl (decide (V.byt z10 = V.byt (Array.replicate (Int.toNat 247) 0)))])) p11 (.tup [.str "checksum", .bl (decide (V.byt z11 = V.byt zc))])) p12 (.tup [.str "size", .bl b12])) pL (.lst [V.ref p1, V.ref p2, V.ref p3, V.ref p4, V.ref p5, V.ref p6, V.ref p7, V.ref p8, V.ref p9, V.ref p10, V.ref p11, V.ref p12])) = H9 at *
    generalize [V.ref p1, V.ref p2, V.ref p3, V.ref p4, V.ref p5, V.ref p6, V.ref p7, V.ref p8, V.ref p9, V.ref p10, V.ref p11, V.ref p12] = ps at *
    generalize ([("name", b1), ("mode", b2), ("owner", decide (ow = 0)), ("group", decide (gr = 0)), ("size", decide (0 ≤ sz)), ("time", b6), ("kind", b7), ("target", b8), ("magic", decide (V.byt z9 = V.byt #[117, 115, 116, 97, 114, 0, 48, 48])), ("rest", decide (V.byt z10 = V.byt (Array.replicate (Int.toNat 247) 0))), ("checksum", decide (V.byt z11 = V.byt zc)), ("size", b12)] : List (Str × Bool)) = L at *
    refine for_it (walk_list (xs := ps)) (fun i σ H' => ∃ v1 v2 : Option V, σ = [some (V.byt (Bt.byOf xs)), some (.ref x), some (.str ln), some (.str lt), some (.bl il), some (.int n.1), some (.int n.2), some (.ref pL), v1, v2] ∧ Same H9 H' ∧ ∀ y ∈ L.take i, y.2 = true) ?_ (fun i σ H' _ ⟨_, _, _, e, _⟩ => SqL.of (e _ _ hSq)) ?_ ?_
    · exact ⟨_, _, rfl, Same.refl _, fun y hy => by simp at hy⟩
    · rintro i v σ Hc H' hi ⟨v1, v2, rfl, e, ck⟩ ⟨rfl, hv⟩
      obtain ⟨y, hy, qq2, rfl, hq⟩ := paired_at hP hv
      have hq' := e _ _ hq
      walk_at "rd"
      obtain ⟨fl, b⟩ := y
      cases b with
      | true =>
        refine r_iteNT (r_next ⟨_, _, rfl, e, fun y hy2 => ?_⟩)
        rw [take_snoc hy] at hy2
        rcases List.mem_append.mp hy2 with h | h
        · exact ck y h
        · rw [List.mem_singleton.mp h]
      | false =>
        refine r_iteNF (r_ret (r_var rfl ?_))
        rw [find_step hy (fun y hy2 => by rw [ck y hy2]; rfl) rfl] at q
        exact q _ (hS.trans e)
    · rintro σ Hc ⟨v1, v2, rfl, e, ck⟩
      walk_at "rd"
      rw [hP.length, List.take_length] at ck
      rw [List.find?_eq_none.mpr (fun y hy => by rw [ck y hy]; decide)] at q
      exact q _ (hS.trans e)
end
/-! ### are_spans of any pairs of ints -/
def spansC (z : Int) : Int → List (Int × Int) → Bool
  | _, [] => true
  | l, s :: r => if s.1 < l ∨ s.2 < 1 ∨ z < s.1 + s.2 then false else spansC z (s.1 + s.2 + 1) r
theorem spansC_cons {z l : Int} {s : Int × Int} {r : List (Int × Int)} : spansC z l (s :: r) = if s.1 < l ∨ s.2 < 1 ∨ z < s.1 + s.2 then false else spansC z (s.1 + s.2 + 1) r := rfl
theorem spansC_ok {z : Int} : ∀ {l : Int} {sp : List (Int × Int)}, spansC z l sp = true → spansOk z l sp
  | _, [], _ => trivial
  | l, s :: r, h => by
    unfold spansC at h
    split at h
    · cases h
    · rename_i g
      exact ⟨by omega, by omega, by omega, spansC_ok h⟩
section
variable {P : Program} {w : World} {K : PySem.W.Frag} {mg : Str → Option Value} {base : Heap}
def spASpansG : Sp := fun vs H Q _ => ∃ (z : Int) (p : Addr) (sp : List (Int × Int)), vs = [.int z, .ref p] ∧ SpnL H p sp ∧ ∀ H', Same H H' → Q (.bl (decide (sp.length ≤ 50) && spansC z 0 sp)) H'
theorem ok_aspansG {f : Addr} {fd : FuncData} {k : Nat} {t1 : Tok} (F : Fun K "are_spans" "are_spans" s_are_spans f fd) (m3 : mg "len" = none) (m_MP : mg "MOST_PIECES" = some (.int 50 t1)) : FnOk P w K mg base CX0 (k + 2) f fd ["size", "spans"] spASpansG := by
  refine F.ok sc_are_spans (fun vs H Q E h => ?_) (fun cdv A outer s H vs Q E hr h => ?_)
  · obtain ⟨z, p, ps, rfl, _⟩ := h
    rfl
  · obtain ⟨z, p, ps, rfl, ⟨as, hp, hpd⟩, q⟩ := h
    have hu := hu_of hr
    have nd := sc_are_spans.nd
    have hlen : (as.map V.ref).length = ps.length := by rw [List.length_map]; exact hpd.length
    refine ⟨_, (pss_cons (ps_if (pt_cmpR op_gt (pe_callB (call_lenK K) (by rfl) (by assumption) (by decide +kernel) (pa_cons (pv 1) pa_nil)) (pe_glob (v := .int 50) (by rfl) m_MP (by first | exact rfl | exact ⟨_, rfl⟩)) (nomark _))
        (pss_one (ps_ret pe_bl))
        pss_nil)
      (pss_cons (ps_set (i := 2) nd rfl (Or.inl rfl) pe_int)
      (pss_cons (ps_for PassesOwn.never rfl (pi_list (pv 1)) (pg_tupK K (pg_tup rfl (pgs_cons (pg_name (i := 3) nd rfl (Or.inl rfl)) (pgs_cons (pg_name (i := 4) nd rfl (Or.inl rfl)) pgs_nil))))
        (pss_cons (ps_if (PW.pt (pw_or (pt_cmpR op_lt (pv 3) (pv 2) (nomark _)) (pw_or (pt_cmpR op_lt (pv 4) pe_int (nomark _)) (pw_or1 (pt_cmpR op_gt (pe_op op_add (pv 3) (pv 4)) (pv 0) (nomark _))))))
        (pss_one (ps_ret pe_bl))
        pss_nil)
      (pss_one (ps_set (i := 2) nd rfl (Or.inl rfl) (pe_op op_add (pe_op op_add (pv 3) (pv 4)) pe_int)))))
      (pss_one (ps_ret pe_bl))))), ?_⟩
    walk_at "rd"
    refine r_iteD (fun h => ?_) (fun h => ?_)
    · walk_at "rd"
      rw [decide_eq_false (by omega), Bool.false_and] at q
      exact q _ (Same.refl _)
    rw [decide_eq_true (by omega), Bool.true_and] at q
    walk_at "rd"
    refine for_it (walk_list (xs := as.map V.ref)) (fun i σ H' => ∃ (l : Int) (v1 v2 : Option V), σ = [some (.int z), some (.ref p), some (.int l), v1, v2] ∧ Same H H' ∧ spansC z 0 ps = spansC z l (ps.drop i)) ?_ (fun i σ H' _ ⟨_, _, _, _, e, _⟩ => SqL.of (e _ _ hp)) ?_ ?_
    · exact ⟨0, _, _, rfl, Same.refl _, rfl⟩
    · rintro i x σ Hc H' hi ⟨l, v1, v2, rfl, e, hs⟩ ⟨rfl, hx⟩
      rw [List.getElem?_map] at hx
      obtain ⟨qa, hqa, rfl⟩ : ∃ qa, as[i]? = some qa ∧ V.ref qa = x := by
        cases e : as[i]? with
        | none => rw [e] at hx; cases hx
        | some qa => rw [e] at hx; exact ⟨qa, rfl, Option.some.inj hx⟩
      obtain ⟨s, hsi, hqt⟩ := paired_at hpd hqa
      have hq' := e _ _ hqt
      have hdrop : ps.drop i = s :: ps.drop (i + 1) := by
        obtain ⟨hlt, hge⟩ := List.getElem?_eq_some_iff.mp hsi
        rw [← hge]
        exact List.drop_eq_getElem_cons hlt
      rw [hdrop, spansC_cons] at hs
      have no : (s.1 < l ∨ s.2 < 1 ∨ z < s.1 + s.2) → ∀ H', Same H H' → Q (.bl false) H' := fun h H' e => by
        rw [hs, if_pos h] at q
        exact q H' e
      walk_at "rd"
      refine r_iteD (fun h => ?_) (fun h1 => ?_)
      · walk_at "rd"
        exact no (.inl h) _ e
      walk_at "rd"
      refine r_iteD (fun h => ?_) (fun h2 => ?_)
      · walk_at "rd"
        exact no (.inr (.inl h)) _ e
      walk_at "rd"
      refine r_iteD (fun h => ?_) (fun h3 => ?_)
      · walk_at "rd"
        exact no (.inr (.inr (by omega))) _ e
      walk_at "rd"
      rw [if_neg (by omega)] at hs
      exact ⟨_, _, _, rfl, e, hs⟩
    · rintro σ Hc ⟨l, v1, v2, rfl, e, hs⟩
      rw [hlen, List.drop_length] at hs
      rw [hs] at q
      walk_at "rd"
      exact q _ e
end
/-! ### map_block of up to 50 spans -/
def spMapG : Sp := fun vs H Q _ => ∃ (z : Int) (p : Addr) (sp : List (Int × Int)), vs = [.int z, .ref p] ∧ SpnL H p sp ∧ sp.length ≤ 50 ∧ (∀ i ∈ numsOf z sp, 0 ≤ i ∧ i ≤ 4096) ∧ ∀ H', Same H H' → Q (.byt (Bt.byOf (filled (linesOf (numsOf z sp))))) H'
section
variable {P : Program} {w : World} {K : PySem.W.Frag} {mg : Str → Option Value} {base : Heap}
theorem ok_mapG {f : Addr} {fd : FuncData} {k : Nat} (F : Fun K "map_block" "map_block" s_map_block f fd) (m1 : mg "len" = none) (c_padded : CalT P w K mg base 2 "padded" spPadded) : FnOk P w K mg base CX0 (k + 3) f fd ["size", "spans"] spMapG := by
  refine F.ok sc_map_block (fun vs H Q E h => ?_) (fun cdv A outer s H vs Q E hr h => ?_)
  · obtain ⟨z, p, sp, rfl, _⟩ := h
    rfl
  · obtain ⟨z, p, sp, rfl, ⟨as, hp, hpd⟩, hl, hn, q⟩ := h
    have hu := hu_of hr
    have nd := sc_map_block.nd
    have hlen : (as.map V.ref).length = sp.length := by rw [List.length_map]; exact hpd.length
    refine ⟨_, (pss_cons (ps_set (i := 2) nd rfl (Or.inl rfl) (pe_lst (pa_cons (pv 0) (pa_cons (pe_callB (call_lenK K) (by rfl) (by assumption) (by decide +kernel) (pa_cons (pv 1) pa_nil)) pa_nil))))
      (pss_cons (ps_for PassesOwn.never rfl (pi_list (pv 1)) (pg_tupK K (pg_tup rfl (pgs_cons (pg_name (i := 3) nd rfl (Or.inl rfl)) (pgs_cons (pg_name (i := 4) nd rfl (Or.inl rfl)) pgs_nil))))
        (pss_cons (ps_expr (pe_bm PySem.F.plainAttrs_list PySem.F.slot_list_append PySem.F.type_list_append mt_append (pv 2) (pa_cons (pv 3) pa_nil)))
      (pss_one (ps_expr (pe_bm PySem.F.plainAttrs_list PySem.F.slot_list_append PySem.F.type_list_append mt_append (pv 2) (pa_cons (pv 4) pa_nil))))))
      (pss_cons (ps_set (i := 5) nd rfl (Or.inl rfl) (pe_bm PySem.F.plainAttrs_str PySem.F.slot_str_join PySem.F.type_str_join (mt_joinK K) pe_str (pa_cons (pe_lc (own := [("number", 6)]) (g := (gName 6)) (tt := tYes) rfl nd (pi_list (pv 2)) (blkOk_by (N := N_map_block) (sc := defScope s_map_block) (by decide +kernel)) (fun _ _ _ _ _ => (pg_name (i := 6) nd rfl (Or.inl rfl))) (fun _ _ _ _ _ => pts_nil) (fun _ _ _ _ _ => (pe_joinN (pe_joined (PJ.cons (pe_fmt (pv 6)) (PJ.cons pe_str PJ.nil)))))) pa_nil)))
      (pss_one (ps_ret (pe_cc c_padded hr (by omega) (by rfl) (pa_cons (pe_bm PySem.F.plainAttrs_str PySem.F.slot_str_encode PySem.F.type_str_encode mt_encN (pv 5) (pa_cons pe_str pa_nil)) pa_nil))))))), ?_⟩
    walk_at "rd"
    rename_i g hg
    refine for_it (walk_list (xs := as.map V.ref)) (fun i σ H' => ∃ (v3 v4 v5 v6 : Option V), σ = [some (.int z), some (.ref p), some (.ref g), v3, v4, v5, v6] ∧ H' g = some (.lst ((preOf z sp.length sp i).map V.int)) ∧ But g H H') ?_ (fun i σ H' _ ⟨_, _, _, _, _, _, e⟩ => SqL.of (e _ _ (ne_of_none hp hg) hp)) ?_ ?_
    · refine ⟨_, _, _, _, rfl, ?_, fun b o nb e => by rw [upd_ne nb]; exact e⟩
      rw [upd_same, hlen]
      rfl
    · rintro i x σ Hc H' hi ⟨v3, v4, v5, v6, rfl, hg', e⟩ ⟨rfl, hx⟩
      rw [List.getElem?_map] at hx
      obtain ⟨qa, hqa, rfl⟩ : ∃ qa, as[i]? = some qa ∧ V.ref qa = x := by
        cases e : as[i]? with
        | none => rw [e] at hx; cases hx
        | some qa => rw [e] at hx; exact ⟨qa, rfl, Option.some.inj hx⟩
      obtain ⟨s, hsi, hqt⟩ := paired_at hpd hqa
      have hq' := e _ _ (ne_of_none hqt hg) hqt
      have hil : i ≤ 50 := by rw [List.length_map, hpd.length] at hi; omega
      walk_at "rd"
      have hsz : ((preOf z sp.length sp i).map V.int).length ≤ 102 := by
        rw [List.length_map]
        unfold preOf
        simp only [List.length_cons, List.length_flatMap, List.length_nil]
        have h2 : ∀ l : List (Int × Int), (l.map fun _ => 0 + 1 + 1).sum = 2 * l.length := fun l => by
          induction l with
          | nil => rfl
          | cons a l ih => simp only [List.map_cons, List.sum_cons, ih, List.length_cons]; omega
        rw [h2, List.length_take]
        omega
      refine r_append hg' (Nat.lt_of_le_of_lt hsz (by decide)) ?_
      walk_at "rd"
      refine r_append upd_same (Nat.lt_of_le_of_lt (by rw [List.length_append]; exact Nat.add_le_add_right hsz 1) (by decide)) ?_
      walk_at "rd"
      refine ⟨_, _, _, _, rfl, ?_, fun b o nb eb => by rw [upd_ne nb, upd_ne nb]; exact e b o nb eb⟩
      rw [upd_same, ← pre_next hsi]
      simp
    · rintro σ Hc ⟨v3, v4, v5, v6, rfl, hg', e⟩
      walk_at "rd"
      have hnn : preOf z sp.length sp (as.map V.ref).length = numsOf z sp := by
        unfold preOf numsOf
        rw [hlen, List.take_length]
      rw [hnn] at hg'
      have hnl : (numsOf z sp).length ≤ 102 := by
        unfold numsOf
        simp only [List.length_cons, List.length_flatMap, List.length_nil]
        have h2 : ∀ l : List (Int × Int), (l.map fun _ => 0 + 1 + 1).sum = 2 * l.length := fun l => by
          induction l with
          | nil => rfl
          | cons a l ih => simp only [List.map_cons, List.sum_cons, ih, List.length_cons]; omega
        rw [h2]
        omega
      refine ⟨by first | exact rfl | exact trivial, ?_⟩
      walk_at "rd"
      intro D hD
      refine lc_map (cs := numsOf z sp) (enc := V.int) (f := fun i => V.str (lnS i)) walk_list hD (Nat.lt_of_le_of_lt hnl (by decide)) (fun H' e => SqL.of (e _ _ hg')) (fun x => rfl) ?_ ?_
      · intro i hi H' e' Q' k'
        obtain ⟨i0, i1⟩ := hn i hi
        walk_at "rd"
        show tVar 6 _ _ _
        walk_at "rd"
        have hd := (dz_small i0 i1).2
        refine .inr ⟨i, rfl, log_small i0 i1, dz i, rfl, Nat.le_trans (by show ((#[] : Array Nat) ++ (dz i).cps).size ≤ 4; simpa [Str.length] using hd) (by decide), ?_⟩
        walk_at "rd"
        exact ⟨Nat.le_trans (by rw [show (Str.empty ++ dz i ++ ("\n" : Str)).length = (lnS i).length from rfl, lnS_len]; omega : _ ≤ 5) (by decide), k' _ (Same.refl _)⟩
      · intro H' e' hl'
        walk_at "rd"
        have hs := lns_sum _ hn
        have hll := lines_len _ hn
        refine ⟨_, D, (numsOf z sp).map lnS, rfl, rfl, .inl (by rw [List.map_map]; exact SqL.of hl'), by have e0 : ("" : Str).length = 0 := rfl; rw [e0, Nat.mul_zero]; omega, ?_⟩
        walk_at "rd"
        have et := lns_join (numsOf z sp)
        generalize Txt.join "" ((numsOf z sp).map lnS) = T at *
        have hT : PySem.W.KSb.Asc T := by intro c hc; rw [et] at hc; exact lines_lt hn c hc
        have hTl : T.cps.toList.length ≤ 1000 := by rw [et]; omega
        refine ⟨rfl, ?_⟩
        walk_at "rd"
        refine r_enc hT (by simpa [Str.length] using Nat.le_trans hTl (by decide : 1000 ≤ 100000)) ?_
        walk_at "rd"
        refine sp_padded' (Nat.le_trans hTl (by decide)) ?_
        rw [et]
        exact q _ (fun b o eb => e' _ _ (e b o (ne_of_none eb hg) eb))
end
/-! ### the lines of a map, read -/
def dzB (n : Nat) : Bool := (dz (n : Nat)).cps.toList.all (fun c => decide (48 ≤ c) && decide (c ≤ 57)) && decide (1 ≤ (dz (n : Nat)).length)
theorem dzB_0 : (List.range' 0 256).all dzB = true := by decide +kernel
theorem dzB_1 : (List.range' 256 256).all dzB = true := by decide +kernel
theorem dzB_2 : (List.range' 512 256).all dzB = true := by decide +kernel
theorem dzB_3 : (List.range' 768 256).all dzB = true := by decide +kernel
theorem dzB_4 : (List.range' 1024 256).all dzB = true := by decide +kernel
theorem dzB_5 : (List.range' 1280 256).all dzB = true := by decide +kernel
theorem dzB_6 : (List.range' 1536 256).all dzB = true := by decide +kernel
theorem dzB_7 : (List.range' 1792 256).all dzB = true := by decide +kernel
theorem dzB_8 : (List.range' 2048 256).all dzB = true := by decide +kernel
theorem dzB_9 : (List.range' 2304 256).all dzB = true := by decide +kernel
theorem dzB_10 : (List.range' 2560 256).all dzB = true := by decide +kernel
theorem dzB_11 : (List.range' 2816 256).all dzB = true := by decide +kernel
theorem dzB_12 : (List.range' 3072 256).all dzB = true := by decide +kernel
theorem dzB_13 : (List.range' 3328 256).all dzB = true := by decide +kernel
theorem dzB_14 : (List.range' 3584 256).all dzB = true := by decide +kernel
theorem dzB_15 : (List.range' 3840 257).all dzB = true := by decide +kernel
theorem dzB_in {n a l : Nat} (h : (List.range' a l).all dzB = true) (h1 : a ≤ n) (h2 : n < a + l) : dzB n = true := List.all_eq_true.mp h n (List.mem_range'_1.mpr ⟨h1, h2⟩)
theorem dz_dig : ∀ n ∈ List.range 4097, ((dz (n : Nat)).cps.toList.all (fun c => decide (48 ≤ c) && decide (c ≤ 57)) && decide (1 ≤ (dz (n : Nat)).length) ) = true := fun n hn => by
  have h := List.mem_range.mp hn
  show dzB n = true
  by_cases h0 : n < 256
  · exact dzB_in dzB_0 (by omega) (by omega)
  by_cases h1 : n < 512
  · exact dzB_in dzB_1 (by omega) (by omega)
  by_cases h2 : n < 768
  · exact dzB_in dzB_2 (by omega) (by omega)
  by_cases h3 : n < 1024
  · exact dzB_in dzB_3 (by omega) (by omega)
  by_cases h4 : n < 1280
  · exact dzB_in dzB_4 (by omega) (by omega)
  by_cases h5 : n < 1536
  · exact dzB_in dzB_5 (by omega) (by omega)
  by_cases h6 : n < 1792
  · exact dzB_in dzB_6 (by omega) (by omega)
  by_cases h7 : n < 2048
  · exact dzB_in dzB_7 (by omega) (by omega)
  by_cases h8 : n < 2304
  · exact dzB_in dzB_8 (by omega) (by omega)
  by_cases h9 : n < 2560
  · exact dzB_in dzB_9 (by omega) (by omega)
  by_cases h10 : n < 2816
  · exact dzB_in dzB_10 (by omega) (by omega)
  by_cases h11 : n < 3072
  · exact dzB_in dzB_11 (by omega) (by omega)
  by_cases h12 : n < 3328
  · exact dzB_in dzB_12 (by omega) (by omega)
  by_cases h13 : n < 3584
  · exact dzB_in dzB_13 (by omega) (by omega)
  by_cases h14 : n < 3840
  · exact dzB_in dzB_14 (by omega) (by omega)
  exact dzB_in dzB_15 (by omega) (by omega)
theorem dig_uni : ∀ c ∈ List.range 58, 48 ≤ c → PySem.Unicode.isDigit c = true := by decide +kernel
theorem dz_dig' {i : Int} (h0 : 0 ≤ i) (h1 : i ≤ 4096) : (∀ c ∈ (dz i).cps.toList, 48 ≤ c ∧ c ≤ 57) ∧ Txt.isdigit (dz i) = true := by
  obtain ⟨n, rfl⟩ := Int.eq_ofNat_of_zero_le h0
  have h := dz_dig n (List.mem_range.mpr (by omega))
  simp only [Bool.and_eq_true, decide_eq_true_eq] at h
  have hd : ∀ c ∈ (dz (n : Nat)).cps.toList, 48 ≤ c ∧ c ≤ 57 := fun c hc => by
    have := List.all_eq_true.mp h.1 c hc
    simp only [Bool.and_eq_true, decide_eq_true_eq] at this
    exact this
  refine ⟨hd, ?_⟩
  unfold PySem.Txt.isdigit
  rw [decide_eq_true (show (dz (n : Nat)).length > 0 by have := h.2; omega), Bool.true_and, ← Array.all_toList]
  exact List.all_eq_true.mpr fun c hc => dig_uni c (List.mem_range.mpr (by have := hd c hc; omega)) (hd c hc).1
theorem dz_reads {i : Int} (h0 : 0 ≤ i) (h1 : i ≤ 4096) : PySem.intText? (dz i) = some i := PySem.W.KIN.num_reads h0 (by omega)
theorem pre10 {c : Nat} {r : List Nat} (h : c ≠ 10) : TL.pre [10] (c :: r) = false := by
  show ((c :: r).take 1 == [10]) = false
  simp [h]
theorem spl_lines : ∀ ns : List Int, (∀ i ∈ ns, 0 ≤ i ∧ i ≤ 4096) → TL.spl [10] 0 [] (linesOf ns) = ns.map (fun i => (dz i).cps.toList) ++ [[]]
  | [], _ => rfl
  | i :: ns, h => by
    have hi := h i List.mem_cons_self
    have hd := (dz_dig' hi.1 hi.2).1
    have e : linesOf (i :: ns) = (dz i).cps.toList ++ ([10] ++ linesOf ns) := by
      unfold linesOf
      rw [List.flatMap_cons, List.append_assoc]
    rw [e, TL.spl_part (by simp) ?_, spl_lines ns fun j hj => h j (List.mem_cons_of_mem _ hj), List.nil_append]
    · rfl
    · intro k hk
      have e2 : ((dz i).cps.toList ++ ([10] ++ linesOf ns)).drop k = (dz i).cps.toList[k] :: ((dz i).cps.toList ++ ([10] ++ linesOf ns)).drop (k + 1) := by
        rw [List.drop_eq_getElem_cons (by rw [List.length_append]; omega), List.getElem_append_left hk]
      rw [e2]
      refine pre10 ?_
      have := hd _ (List.getElem_mem hk)
      omega
theorem map_tl_inj : ∀ {xs ys : List Str}, xs.map (fun z => z.cps.toList) = ys.map (fun z => z.cps.toList) → xs = ys
  | [], [], _ => rfl
  | [], _ :: _, h => by cases h
  | _ :: _, [], h => by cases h
  | x :: xs, y :: ys, h => by
    rw [List.map_cons, List.map_cons] at h
    injection h with h1 h2
    rw [map_tl_inj h2]
    congr 1
    cases x; cases y
    congr 1
    exact Array.toList_inj.mp h1
theorem lines_ne {ns : List Int} (h : ∀ i ∈ ns, 0 ≤ i ∧ i ≤ 4096) : ∀ c ∈ linesOf ns, c = 10 ∨ (48 ≤ c ∧ c ≤ 57) := by
  intro c hc
  unfold linesOf at hc
  obtain ⟨i, hi, hc⟩ := List.mem_flatMap.mp hc
  rcases List.mem_append.mp hc with hc | hc
  · exact .inr ((dz_dig' (h i hi).1 (h i hi).2).1 c hc)
  · exact .inl (List.mem_singleton.mp hc)
theorem strip_lines {ns : List Int} (h : ∀ i ∈ ns, 0 ≤ i ∧ i ≤ 4096) : stripN (filled (linesOf ns)) = linesOf ns := by
  unfold filled
  exact strip_pad fun c hc => by
    have := lines_ne h c hc
    omega
/-! ### a right map, read -/
theorem r_m0 {r : V → List V → Hp → VK → Prop} {to : TE} {σ : L2.St} {H : Hp} {Q : VK} (h : to σ H fun x H1 => (∃ a, x = .str a) ∧ r x [] H1 Q) : tM0 r to σ H Q := h
theorem sIx_m1 (L d : Nat) (h : 1 ≤ L) : HT.sIx L d (some (-1)) = L - 1 := by
  unfold HT.sIx
  simp only []
  first | omega | (split <;> omega) | (simp; omega)
theorem cut_last (xs : List V) (y : V) : cutV (xs ++ [y]) none (some (-1)) = xs := by
  unfold cutV
  rw [sIx_m1 _ _ (by rw [List.length_append, List.length_singleton]; omega), sIx_none, List.drop_zero, Nat.sub_zero, List.length_append, List.length_singleton, Nat.add_sub_cancel]
  exact List.take_left
theorem flat_at {s : Int × Int} : ∀ (sp : List (Int × Int)) (i : Nat), sp[i]? = some s → (sp.flatMap fun s => [s.1, s.2])[2 * i]? = some s.1 ∧ (sp.flatMap fun s => [s.1, s.2])[2 * i + 1]? = some s.2
  | [], i, h => by simp at h
  | t :: sp, 0, h => by
    rw [List.getElem?_cons_zero] at h
    cases h
    exact ⟨rfl, rfl⟩
  | t :: sp, i + 1, h => by
    rw [List.getElem?_cons_succ] at h
    exact flat_at sp i h
theorem SpnL.same {H H' : Hp} {p : Addr} {sp : List (Int × Int)} (h : SpnL H p sp) (e : Same H H') : SpnL H' p sp := by
  obtain ⟨as, h1, h2⟩ := h
  exact ⟨as, e _ _ h1, Paired.mapP h2 fun y s g => e _ _ g⟩
section
variable {P : Program} {w : World} {K : PySem.W.Frag} {mg : Str → Option Value} {base : Heap}
def lenS (sp : List (Int × Int)) : Int := (sp.map (·.2)).sum
end
/-! ### a map block, pure -/
def digN (c : Nat) : Bool := decide (48 ≤ c) && decide (c ≤ 57)
def mapB (c : Nat) : Bool := digN c || decide (c = 10)
def linesN (t : List Nat) : List (List Nat) := (TL.spl [10] 0 [] t).dropLast
def digL (l : List Nat) : Bool := !l.isEmpty && l.all digN
theorem split_any (t : List Nat) : Txt.split (txtS t) "\n" = (TL.spl [10] 0 [] t).map txtS := by
  refine map_tl_inj ?_
  have e := TL.split_spl (txtS t) "\n" (by decide +kernel) (TL.kind_ok (by decide +kernel))
  show (Txt.split (txtS t) "\n").map TL.tl = _
  rw [e, show TL.tl ("\n" : Str) = [10] by decide +kernel, show TL.tl (txtS t) = t by simp [TL.tl, txtS], List.map_map]
  refine ((List.map_congr_left fun l _ => ?_).trans (List.map_id _)).symm
  simp [txtS]
theorem pre10_eq {c : Nat} {r : List Nat} : TL.pre [10] (c :: r) = decide (c = 10) := by
  show ((c :: r).take 1 == [10]) = _
  rw [List.take_succ_cons, List.take_zero, Bool.eq_iff_iff]
  simp
theorem spl_all {f : Nat → Bool} : ∀ {t acc : List Nat}, t.all (fun c => f c || decide (c = 10)) = true → acc.all f = true → ∀ l ∈ TL.spl [10] 0 acc t, l.all f = true
  | [], acc, _, ha, l, hl => by
    rw [TL.spl_nil] at hl
    rw [List.mem_singleton.mp hl]
    exact ha
  | c :: r, acc, ht, ha, l, hl => by
    rw [List.all_cons, Bool.and_eq_true] at ht
    by_cases hc : c = 10
    · rw [TL.spl_hit (by rw [pre10_eq]; exact decide_eq_true hc)] at hl
      rcases List.mem_cons.mp hl with rfl | hl
      · exact ha
      · exact spl_all ht.2 rfl l hl
    · rw [TL.spl_miss (by rw [pre10_eq]; exact decide_eq_false hc)] at hl
      refine spl_all ht.2 ?_ l hl
      rw [List.all_append, ha, Bool.true_and, List.all_cons, List.all_nil, Bool.and_true]
      have h1 := ht.1
      rw [decide_eq_false hc, Bool.or_false] at h1
      exact h1
theorem spl_len : ∀ {t acc : List Nat}, (TL.spl [10] 0 acc t).length ≤ t.length + 1 ∧ ∀ l ∈ TL.spl [10] 0 acc t, l.length ≤ acc.length + t.length
  | [], acc => by
    rw [TL.spl_nil]
    exact ⟨Nat.le_refl _, fun l hl => by rw [List.mem_singleton.mp hl]; exact Nat.le_refl _⟩
  | c :: r, acc => by
    by_cases hc : c = 10
    · rw [TL.spl_hit (by rw [pre10_eq]; exact decide_eq_true hc)]
      obtain ⟨a, b⟩ := spl_len (t := r) (acc := [])
      refine ⟨by rw [List.length_cons, List.length_cons]; exact Nat.succ_le_succ a, fun l hl => ?_⟩
      rcases List.mem_cons.mp hl with rfl | hl
      · rw [List.length_cons]; omega
      · have := b l hl
        rw [List.length_nil] at this
        rw [List.length_cons]; omega
    · rw [TL.spl_miss (by rw [pre10_eq]; exact decide_eq_false hc)]
      obtain ⟨a, b⟩ := spl_len (t := r) (acc := acc ++ [c])
      refine ⟨by rw [List.length_cons]; omega, fun l hl => ?_⟩
      have := b l hl
      rw [List.length_append, List.length_singleton] at this
      rw [List.length_cons]; omega
theorem dig_is {l : List Nat} (h : l.all digN = true) : Txt.isdigit (txtS l) = digL l := by
  unfold digL
  rw [h, Bool.and_true]
  cases l with
  | nil => decide +kernel
  | cons c r =>
    have hd : ∀ k ∈ c :: r, PySem.Unicode.isDigit k = true := fun k hk => by
      have g := List.all_eq_true.mp h k hk
      unfold digN at g
      simp only [Bool.and_eq_true, decide_eq_true_eq] at g
      exact dig_uni k (List.mem_range.mpr (by omega)) g.1
    unfold Txt.isdigit
    simp [txtS, Str.length]
    simpa using hd
theorem dig_int {l : List Nat} (h : digL l = true) (hl : l.length ≤ 4300) : PySem.intText? (txtS l) = some ((NumText.digitsVal l : Nat) : Int) := by
  unfold digL at h
  rw [Bool.and_eq_true] at h
  have e : (txtS l).cps.toList = l := by simp [txtS]
  have hd : NumText.AllDigits (txtS l).cps.toList := fun c hc => by
    rw [e] at hc
    have g := List.all_eq_true.mp h.2 c hc
    unfold digN at g
    simpa using g
  have := PySem.intText_digits hd (by rw [e]; intro e0; rw [e0] at h; exact absurd h.1 (by decide)) (by show l.toArray.size ≤ _; rw [List.size_toArray]; exact hl)
  rwa [e] at this
/-! ### read_map of any block -/
theorem rg_any : ∀ m ∈ List.range 600, (2 : Int) ≠ 0 ∧ (2 : Int).natAbs < 1073741824 ∧ Builtin.Range.small 2 (((m : Nat) : Int) - 1) 2 = true ∧ Builtin.Range.rangeSize 2 (((m : Nat) : Int) - 1) 2 = ((m - 2) / 2 : Nat) := by decide +kernel
def valN (l : List Nat) : Int := ((NumText.digitsVal l : Nat) : Int)
def pairsI (ns : List Int) : List (Int × Int) := (List.range ((ns.length - 2) / 2)).map fun i => (ns.getD (2 + 2 * i) 0, ns.getD (2 + 2 * i + 1) 0)
def mapN (xs : List Nat) (stored : Int) : Option (Int × List (Int × Int)) :=
  if (stripN xs).all mapB = true then
    if linesN (stripN xs) ≠ [] ∧ (linesN (stripN xs)).all digL = true then
      if (0 ≤ ((linesN (stripN xs)).map valN).headD 0 ∧ ((linesN (stripN xs)).map valN).headD 0 ≤ 4096) ∧ ((pairsI ((linesN (stripN xs)).map valN)).length ≤ 50 ∧ spansC (((linesN (stripN xs)).map valN).headD 0) 0 (pairsI ((linesN (stripN xs)).map valN)) = true) ∧
          filled (linesOf (numsOf (((linesN (stripN xs)).map valN).headD 0) (pairsI ((linesN (stripN xs)).map valN)))) = xs ∧ stored = 512 + lenS (pairsI ((linesN (stripN xs)).map valN)) then
        some (((linesN (stripN xs)).map valN).headD 0, pairsI ((linesN (stripN xs)).map valN))
      else none
    else none
  else none
theorem spl_ne : ∀ {t acc : List Nat}, TL.spl [10] 0 acc t ≠ []
  | [], acc => by rw [TL.spl_nil]; exact List.cons_ne_nil _ _
  | c :: r, acc => by
    by_cases hc : c = 10
    · rw [TL.spl_hit (by rw [pre10_eq]; exact decide_eq_true hc)]
      exact List.cons_ne_nil _ _
    · rw [TL.spl_miss (by rw [pre10_eq]; exact decide_eq_false hc)]
      exact spl_ne
theorem lines_last (t : List Nat) : ∃ z, TL.spl [10] 0 [] t = linesN t ++ [z] := ⟨_, (List.dropLast_concat_getLast spl_ne).symm⟩
theorem nums_small {z : Int} {sp : List (Int × Int)} (hz : 0 ≤ z ∧ z ≤ 4096) (hl : sp.length ≤ 50) (hs : spansOk z 0 sp) : ∀ i ∈ numsOf z sp, 0 ≤ i ∧ i ≤ 4096 := fun i hi => by
  unfold numsOf at hi
  rcases List.mem_cons.mp hi with rfl | hi
  · exact hz
  rcases List.mem_cons.mp hi with rfl | hi
  · omega
  obtain ⟨s, hsm, hi⟩ := List.mem_flatMap.mp hi
  have h := spansOk_all (Int.le_refl 0) hs s hsm
  have h1 : 0 ≤ s.1 := h.1
  have h2 : 1 ≤ s.2 := h.2.1
  have h3 : s.1 + s.2 ≤ z := h.2.2
  simp only [List.mem_cons, List.not_mem_nil, or_false] at hi
  rcases hi with rfl | rfl <;> omega
theorem byOf_inj2 {a b : List Nat} (ha : ∀ c ∈ a, c < 256) (hb : ∀ c ∈ b, c < 256) (h : Bt.byOf a = Bt.byOf b) : a = b := by
  have e := congrArg Bt.txOf h
  rw [tx_by ha, tx_by hb] at e
  have e2 := congrArg (fun z : Str => z.cps.toList) e
  simpa [txtS] using e2
theorem cut_lastV (l : List V) (x : V) : cutV (l ++ [x]) none (some (-1)) = l := cut_last l x
section
variable {P : Program} {w : World} {K : PySem.W.Frag} {mg : Str → Option Value} {base : Heap}
def spRMapG : Sp := fun vs H Q _ => ∃ (xs : List Nat) (stored : Int), vs = [.byt (Bt.byOf xs), .int stored] ∧ xs.length ≤ 512 ∧ (∀ c ∈ xs, c < 256) ∧ (mapN xs stored = none → ∀ H', Same H H' → Q .non H') ∧
  ∀ z sp p L H', mapN xs stored = some (z, sp) → Same H H' → H' p = some (.tup [.int z, .ref L]) → SpnL H' L sp → Q (.ref p) H'
theorem ok_rmapG {f : Addr} {fd : FuncData} {k : Nat} {t1 t2 : Tok} (F : Fun K "read_map" "read_map" s_read_map f fd) (m1 : mg "all" = none) (m2 : mg "len" = none) (m3 : mg "int" = none) (m4 : mg "range" = none) (m5 : mg "sum" = none)
    (m_MY : mg "MAP_BYTES" = some (.bytes #[48, 49, 50, 51, 52, 53, 54, 55, 56, 57, 10] t1)) (m_BS : mg "BLOCK_SIZE" = some (.int 512 t2)) (c_issize : CalT P w K mg base 3 "is_size" (spIn 0 4096)) (c_aspans : CalT P w K mg base 2 "are_spans" spASpansG) (c_map : CalT P w K mg base 3 "map_block" spMapG) :
    FnOk P w K mg base CX0 (k + 4) f fd ["block", "stored"] spRMapG := by
  refine F.ok sc_read_map (fun vs H Q E h => ?_) (fun cdv A outer s H vs Q E hr h => ?_)
  · obtain ⟨z, sp, rfl, _⟩ := h
    rfl
  · obtain ⟨xs, stored, rfl, h512, hfc, qn, qs⟩ := h
    have hu := hu_of hr
    have nd := sc_read_map.nd
    refine ⟨_, (pss_cons (ps_set (i := 2) nd rfl (Or.inl rfl) (pe_bmB PySem.W.FB.plainAttrs_bytes Bt.slot_rs Bt.type_rs Bt.mt_rs (pv 0) (pa_cons pe_byt pa_nil)))
      (pss_cons (ps_if (pt_not (pt_val (pe_callB (call_allK K) (by rfl) (by assumption) (by decide +kernel) (pa_cons (pe_lc (own := [("byte", 9)]) (g := (gName 9)) (tt := tYes) rfl nd (pi_byt (pv 2)) (blkOk_by (N := N_read_map) (sc := defScope s_read_map) (by decide +kernel)) (fun _ _ _ _ _ => (pg_name (i := 9) nd rfl (Or.inl rfl))) (fun _ _ _ _ _ => pts_nil) (fun _ _ _ _ _ => (pe_cmpR Bt.op_inIB (pv 9) (pe_glob (v := .byt #[48, 49, 50, 51, 52, 53, 54, 55, 56, 57, 10]) (by rfl) m_MY (by first | exact rfl | exact ⟨_, rfl⟩)) (by rfl)))) pa_nil))))
        (pss_one (ps_ret pe_non))
        pss_nil)
      (pss_cons (ps_set (i := 3) nd rfl (Or.inl rfl) (pe_slice (sl_listK K) (pe_splitN (pe_split (pe_bmB PySem.W.FB.plainAttrs_bytes PySem.W.FB.slot_bytes_decode PySem.W.FB.type_bytes_decode Bt.mt_dec (pv 2) (pa_cons pe_str pa_nil)) pe_str)) po_none (po_some (pe_un un_neg pe_int))))
      (pss_cons (ps_if (PW.pt (pw_or (pt_cmpR op_eq (pe_callB (call_lenK K) (by rfl) (by assumption) (by decide +kernel) (pa_cons (pv 3) pa_nil)) pe_int (nomark _)) (pw_or1 (pt_not (pt_val (pe_callB (call_allK K) (by rfl) (by assumption) (by decide +kernel) (pa_cons (pe_lc (own := [("line", 7)]) (g := (gName 7)) (tt := tYes) rfl nd (pi_list (pv 3)) (blkOk_by (N := N_read_map) (sc := defScope s_read_map) (by decide +kernel)) (fun _ _ _ _ _ => (pg_name (i := 7) nd rfl (Or.inl rfl))) (fun _ _ _ _ _ => pts_nil) (fun _ _ _ _ _ => (pe_m0 PySem.F.slot_str_isdigit PySem.F.type_str_isdigit mt_isdigit (pv 7)))) pa_nil)))))))
        (pss_one (ps_ret pe_non))
        pss_nil)
      (pss_cons (ps_set (i := 4) nd rfl (Or.inr rfl) (pe_lc (own := [("line", 7)]) (g := (gName 7)) (tt := tYes) rfl nd (pi_list (pv 3)) (blkOk_by (N := N_read_map) (sc := defScope s_read_map) (by decide +kernel)) (fun _ _ _ _ _ => (pg_name (i := 7) nd rfl (Or.inl rfl))) (fun _ _ _ _ _ => pts_nil) (fun _ _ _ _ _ => (pe_callTy call_int_str (by rfl) (by assumption) (by decide +kernel) (pa_cons (pv 7) pa_nil)))))
      (pss_cons (ps_set (i := 5) nd rfl (Or.inl rfl) (pe_ix (ix_listK K) (pv 4) pe_int (fun _ _ => rfl)))
      (pss_cons (ps_setLc (i := 6) (own := [("at", 8)]) (g := (gName 8)) (tt := tYes) rfl nd rfl rfl (sw_true rfl rfl rfl (by decide +kernel)) (pi_range3 (by rfl) (by assumption) (pa_cons pe_int (pa_cons (pe_op op_sub (pe_callB (call_lenK K) (by rfl) (by assumption) (by decide +kernel) (pa_cons (pv 4) pa_nil)) pe_int) (pa_cons pe_int pa_nil)))) (blkOk_by (N := N_read_map) (sc := defScope s_read_map) (by decide +kernel)) (fun _ _ _ _ _ => (pg_name (i := 8) nd rfl (Or.inl rfl))) (fun _ _ _ _ _ => pts_nil) (fun _ _ _ _ _ => (pe_tup (pa_cons (pe_ix (ix_listK K) (pv 4) (pv 8) (fun _ _ => rfl)) (pa_cons (pe_ix (ix_listK K) (pv 4) (pe_op op_add (pv 8) pe_int) (fun _ _ => rfl)) pa_nil)))))
      (pss_cons (ps_if (PW.pt (pw_or (pt_not (pt_val (pe_cc c_issize hr (by omega) (by rfl) (pa_cons (pv 5) pa_nil)))) (pw_or1 (pt_not (pt_val (pe_cc c_aspans hr (by omega) (by rfl) (pa_cons (pv 5) (pa_cons (pv 6) pa_nil))))))))
        (pss_one (ps_ret pe_non))
        pss_nil)
      (pss_cons (ps_if (PW.pt (pw_or (pt_cmpR op_ne (pe_cc c_map hr (by omega) (by rfl) (pa_cons (pv 5) (pa_cons (pv 6) pa_nil))) (pv 0) (nomark _)) (pw_or1 (pt_cmpR op_ne (pv 1) (pe_op op_add (pe_glob (v := .int 512) (by rfl) m_BS (by first | exact rfl | exact ⟨_, rfl⟩)) (pe_callB (call_sumK K) (by rfl) (by assumption) (by decide +kernel) (pa_cons (pe_lc (own := [("offset", 10), ("length", 11)]) (g := (gTup K 2 (gCons (gName 10) (gCons (gName 11) gNil)))) (tt := tYes) rfl nd (pi_list (pv 6)) (blkOk_by (N := N_read_map) (sc := defScope s_read_map) (by decide +kernel)) (fun _ _ _ _ _ => (pg_tupK K (pg_tup rfl (pgs_cons (pg_name (i := 10) nd rfl (Or.inl rfl)) (pgs_cons (pg_name (i := 11) nd rfl (Or.inl rfl)) pgs_nil))))) (fun _ _ _ _ _ => pts_nil) (fun _ _ _ _ _ => (pv 11))) pa_nil))) (nomark _)))))
        (pss_one (ps_ret pe_non))
        pss_nil)
      (pss_one (ps_ret (pe_tup (pa_cons (pv 5) (pa_cons (pv 6) pa_nil)))))))))))))), ?_⟩
    unfold mapN at qn qs
    generalize hts : stripN xs = t at *
    have htl : t.length ≤ 512 := by rw [← hts]; exact Nat.le_trans strip_len h512
    have htc : ∀ c ∈ t, c < 256 := fun c hc => hfc c (strip_mem (by rw [hts]; exact hc))
    walk_at "st"
    refine r_bmB (r_var rfl ⟨_, rfl, r_cons (r_nil ⟨_, rfl, rfl, by rw [byOf_size]; omega, ?_⟩)⟩)
    rw [strip_by hfc, hts]
    walk_at "rd"
    unfold iByt
    refine r_var rfl ⟨_, rfl, fun D hD => ?_⟩
    refine lc_map (cs := t) (enc := fun (k : Nat) => V.int (k : Int)) (f := fun k => V.bl (mapB k)) (Bt.walk_byOf htc) hD (Nat.lt_of_le_of_lt htl (by decide)) (fun _ _ => True.intro) (fun _ => rfl) ?_ ?_
    · intro c hc H' e Q' k'
      walk_at "rd"
      refine ⟨c, _, rfl, htc c hc, rfl, ?_⟩
      have e3 : (Bt.nums (#[48, 49, 50, 51, 52, 53, 54, 55, 56, 57, 10] : Array UInt8).toList).contains ((c : Nat) : Int) = mapB c := by
        rw [show Bt.nums (#[48, 49, 50, 51, 52, 53, 54, 55, 56, 57, 10] : Array UInt8).toList = [48, 49, 50, 51, 52, 53, 54, 55, 56, 57, 10] from rfl]
        unfold mapB digN
        rw [Bool.eq_iff_iff]
        simp
        omega
      rw [e3]
      exact k' _ (Same.refl _)
    intro H1 e1 hl1
    walk_at "rd"
    refine r_all (bs := t.map mapB) (by rw [List.map_map]; exact SqL.of hl1) ?_
    rw [show (t.map mapB).all id = t.all mapB by rw [List.all_map]; rfl]
    cases hb : t.all mapB with
    | false =>
      rw [hb, if_neg Bool.false_ne_true] at qn
      walk_at "rd"
      exact qn rfl _ e1
    | true =>
      rw [hb, if_pos rfl] at qn qs
      walk_at "rd"
      refine r_bmB (r_var rfl ⟨_, rfl, r_cons (r_c (r_nil ⟨_, rfl, rfl, fun c hc => ?_, by rw [byOf_size]; omega, ?_⟩))⟩)
      · have hc' : c ∈ (Bt.byOf t).toList := by simpa using hc
        unfold Bt.byOf at hc'
        obtain ⟨k, hk, rfl⟩ := List.mem_map.mp (show c ∈ t.map Nat.toUInt8 from by simpa using hc')
        have h1 := List.all_eq_true.mp hb k hk
        unfold mapB digN at h1
        simp only [Bool.or_eq_true, Bool.and_eq_true, decide_eq_true_eq] at h1
        rw [Nat.toUInt8, UInt8.toNat_ofNat']
        omega
      rw [tx_by htc]
      walk_at "rd"
      refine r_split (by decide +kernel) (by rw [show (txtS t).length = t.length by simp [txtS, Str.length]]; exact Nat.le_trans (by omega : _ ≤ 1000) (by decide)) (fun p1 hp1 => ?_)
      obtain ⟨lz, hlz⟩ := lines_last t
      have hda : ∀ l ∈ linesN t, l.all digN = true := fun l hl => spl_all (f := digN) (t := t) (acc := []) hb rfl l (by rw [hlz]; exact List.mem_append_left _ hl)
      have hll : ∀ l ∈ linesN t, l.length ≤ 512 := fun l hl => by
        have := (spl_len (t := t) (acc := [])).2 l (by rw [hlz]; exact List.mem_append_left _ hl)
        rw [List.length_nil] at this
        omega
      have hln : (linesN t).length ≤ 512 := by
        have := (spl_len (t := t) (acc := [])).1
        rw [hlz, List.length_append, List.length_singleton] at this
        omega
      rw [split_any, hlz, List.map_map, List.map_append]
      generalize linesN t = ls at *
      rw [show List.map (V.str ∘ txtS) [lz] = [V.str (txtS lz)] from rfl]
      walk_at "rd"
      rename_i p2 hp2
      rw [cut_lastV]
      have e2 : Same H (upd (upd H1 p1 (.lst (ls.map (V.str ∘ txtS) ++ [V.str (txtS lz)]))) p2 (.lst (ls.map (V.str ∘ txtS)))) := fun b o hb => upd_old hp2 (upd_old hp1 (e1 _ _ hb))
      have y2 : (upd (upd H1 p1 (.lst (ls.map (V.str ∘ txtS) ++ [V.str (txtS lz)]))) p2 (.lst (ls.map (V.str ∘ txtS)))) p2 = some (.lst (ls.map (V.str ∘ txtS))) := upd_same
      generalize upd (upd H1 p1 (.lst (ls.map (V.str ∘ txtS) ++ [V.str (txtS lz)]))) p2 (.lst (ls.map (V.str ∘ txtS))) = H2 at *
      clear hp1 hp2
      by_cases hl0 : ls = []
      · rw [if_neg (fun h => h.1 hl0)] at qn
        subst hl0
        rw [decide_eq_true (show V.int ((([] : List (List Nat)).map (V.str ∘ txtS)).length : Int) = V.int 0 from rfl)]
        walk_at "rd"
        exact qn rfl _ e2
      have hl1' : 1 ≤ ls.length := by cases ls with
        | nil => exact absurd rfl hl0
        | cons a r => exact Nat.succ_le_succ (Nat.zero_le _)
      rw [decide_eq_false (show V.int ((ls.map (V.str ∘ txtS)).length : Int) ≠ V.int 0 from fun h => by injection h with h; rw [List.length_map] at h; omega)]
      walk_at "rd"
      intro D3 hD3
      refine lc_map (cs := ls) (enc := V.str ∘ txtS) (f := fun l => V.bl (digL l)) walk_list hD3 (Nat.lt_of_le_of_lt hln (by decide)) (fun H' e => SqL.of (e _ _ y2)) (fun _ => rfl) ?_ ?_
      · intro l hl H' e Q' k'
        walk_at "rd"
        refine r_m0 (r_var rfl ⟨⟨_, rfl⟩, ⟨txtS l, rfl, rfl, trivial, ?_⟩⟩)
        rw [dig_is (hda l hl)]
        exact k' _ (Same.refl _)
      intro H3 e3 hl3
      walk_at "rd"
      refine r_all (bs := ls.map digL) (by rw [List.map_map]; exact SqL.of hl3) ?_
      rw [show (ls.map digL).all id = ls.all digL by rw [List.all_map]; rfl]
      cases hd : ls.all digL with
      | false =>
        rw [if_neg (fun h => by rw [hd] at h; exact Bool.false_ne_true h.2)] at qn
        walk_at "rd"
        exact qn rfl _ (e2.trans e3)
      | true =>
        rw [if_pos ⟨hl0, hd⟩] at qn qs
        walk_at "rd"
        have y3 := e3 _ _ y2
        refine r_listE (SqL.of y3) ?_
        intro D4 hD4
        refine lc_map (cs := ls) (enc := V.str ∘ txtS) (f := fun l => V.int (valN l)) walk_list hD4 (Nat.lt_of_le_of_lt hln (by decide)) (fun H' e => SqL.of (e _ _ y3)) (fun _ => rfl) ?_ ?_
        · intro l hl H' e Q' k'
          walk_at "rd"
          have l5 := hll l hl
          refine ⟨txtS l, valN l, rfl, dig_int (List.all_eq_true.mp hd l hl) (by omega), by show l.toArray.size ≤ 640; rw [List.size_toArray]; omega, ?_⟩
          exact k' _ (Same.refl _)
        intro H4 e4 hl4
        walk_at "rd"
        generalize hns : ls.map valN = ns at *
        have y4 : H4 D4 = some (.lst (ns.map V.int)) := by rw [← hns, List.map_map]; exact hl4
        have hnl : ns.length = ls.length := by rw [← hns, List.length_map]
        obtain ⟨z, nr, hzr⟩ : ∃ z nr, ns = z :: nr := by
          cases ns with
          | nil => rw [List.length_nil] at hnl; omega
          | cons z nr => exact ⟨z, nr, rfl⟩
        have hz0 : ns.headD 0 = z := by rw [hzr]; rfl
        rw [hz0] at qn qs
        refine r_ixL (SqL.of y4) (v := .int z) (by rw [hzr]; exact atI_nat (j := 0) rfl) ?_
        walk_at "rd"
        unfold iRng3
        walk_at "rd"
        refine ⟨2, _, 2, (ns.length - 2) / 2, rfl, ?_, ?_⟩
        · rw [List.length_map]
          exact rg_any ns.length (List.mem_range.mpr (by omega))
        have hpl : (pairsI ns).length = (ns.length - 2) / 2 := by unfold pairsI; rw [List.length_map, List.length_range]
        have hpi : ∀ i, i < (ns.length - 2) / 2 → (pairsI ns)[i]? = some (ns.getD (2 + 2 * i) 0, ns.getD (2 + 2 * i + 1) 0) := fun i hi => by
          unfold pairsI
          rw [List.getElem?_map, List.getElem?_range hi]
          rfl
        have hat : ∀ j, j < ns.length → atI (ns.map V.int) (j : Int) = some (.int (ns.getD j 0)) := fun j hj => atI_nat (by rw [List.getElem?_map, List.getD_eq_getElem?_getD, List.getElem?_eq_getElem hj]; rfl)
        generalize hsp : pairsI ns = sp at *
        intro D5 hD5
        refine lc_it walk_rangeC (fun i H' => Same H4 H' ∧ ∃ bs : List Addr, H' D5 = some (.lst (bs.map V.ref)) ∧ Paired (fun q (s : Int × Int) => q ≠ D5 ∧ H' q = some (.tup [.int s.1, .int s.2])) bs (sp.take i)) ?_ (fun _ _ _ _ => True.intro) ?_ ?_
        · exact ⟨same_new hD5, [], upd_same, .nil⟩
        · rintro i x Hc H' hi ⟨e', bs, hb', hbp⟩ ⟨rfl, rfl⟩
          have hsi := hpi i hi
          have a1 := hat (2 + 2 * i) (by omega)
          have a2 := hat (2 + 2 * i + 1) (by omega)
          rw [show ((2 + 2 * i : Nat) : Int) = 2 + (i : Int) * 2 by omega] at a1
          rw [show ((2 + 2 * i + 1 : Nat) : Int) = 2 + (i : Int) * 2 + 1 by omega] at a2
          have y5 := e' _ _ y4
          walk_at "rd"
          refine ⟨rfl, ?_⟩
          unfold tYes
          dsimp only
          rw [if_pos rfl]
          walk_at "rd"
          refine r_ixL (SqL.of y5) a1 ?_
          walk_at "rd"
          refine r_ixL (SqL.of y5) a2 ?_
          walk_at "rd"
          rename_i T hT
          have nTD : T ≠ D5 := (ne_of_none hb' hT).symm
          have hbl : (bs.map V.ref).length ≤ 600 := by
            rw [List.length_map, hbp.length, List.length_take]
            omega
          refine ⟨_, upd_old hT hb', Nat.lt_of_le_of_lt hbl (by decide), fun b o eo => ?_, bs ++ [T], by rw [upd_same, List.map_append]; rfl, ?_⟩
          · have h2 := e' _ _ eo
            rw [upd_ne (ne_of_none eo hD5), upd_ne (ne_of_none h2 hT)]
            exact h2
          · rw [take_snoc hsi]
            refine paired_snoc (Paired.mapP hbp fun y s ⟨n1, g1⟩ => ⟨n1, ?_⟩) ⟨nTD, ?_⟩
            · rw [upd_ne n1, upd_ne (ne_of_none g1 hT)]
              exact g1
            · rw [upd_ne nTD, upd_same]
        · rintro H5 ⟨e5, bs, hb5, hbp⟩
          rw [← hpl, List.take_length] at hbp
          have E5 : Same H H5 := fun b o eb => e5 _ _ (e4 _ _ (e3 _ _ (e2 _ _ eb)))
          have sp5 : SpnL H5 D5 sp := ⟨bs, hb5, Paired.mapP hbp fun y s ⟨_, g⟩ => g⟩
          walk_at "rd"
          refine ⟨z, rfl, ?_⟩
          by_cases hz : 0 ≤ z ∧ z ≤ 4096
          · rw [show (decide (0 ≤ z) && decide (z ≤ 4096)) = true by rw [decide_eq_true hz.1, decide_eq_true hz.2]; rfl]
            walk_at "rd"
            refine ⟨z, D5, sp, rfl, sp5, fun H6 e6 => ?_⟩
            by_cases hs : sp.length ≤ 50 ∧ spansC z 0 sp = true
            · rw [show (decide (sp.length ≤ 50) && spansC z 0 sp) = true by rw [decide_eq_true hs.1, hs.2]; rfl]
              have sp6 := sp5.same e6
              have E6 : Same H H6 := fun b o eb => e6 _ _ (E5 _ _ eb)
              walk_at "rd"
              refine ⟨z, D5, sp, rfl, sp6, hs.1, nums_small hz hs.1 (spansC_ok hs.2), fun H7 e7 => ?_⟩
              have sp7 := sp6.same e7
              have E7 : Same H H7 := fun b o eb => e7 _ _ (E6 _ _ eb)
              walk_at "rd"
              by_cases hx : filled (linesOf (numsOf z sp)) = xs
              · rw [hx, decide_eq_true rfl]
                walk_at "rd"
                have sp7' := sp7
                obtain ⟨cs, hc7, hcp⟩ := sp7
                refine r_listE (SqL.of hc7) ?_
                intro D8 hD8
                have hcl : (cs.map V.ref).length = sp.length := by rw [List.length_map]; exact hcp.length
                have h50 := hs.1
                refine lc_it (walk_list (xs := cs.map V.ref)) (fun i H' => Same H7 H' ∧ H' D8 = some (.lst ((sp.take i).map fun s => V.int s.2))) ?_ (fun i H' _ ⟨e', _⟩ => SqL.of (e' _ _ hc7)) ?_ ?_
                · exact ⟨same_new hD8, upd_same⟩
                · rintro i x Hc H' hi ⟨e', hb'⟩ ⟨rfl, hx2⟩
                  rw [List.getElem?_map] at hx2
                  obtain ⟨qa, hqa, rfl⟩ : ∃ qa, cs[i]? = some qa ∧ V.ref qa = x := by
                    cases e : cs[i]? with
                    | none => rw [e] at hx2; cases hx2
                    | some qa => rw [e] at hx2; exact ⟨qa, rfl, Option.some.inj hx2⟩
                  obtain ⟨s, hsi, hqt⟩ := paired_at hcp hqa
                  have hq' := e' _ _ hqt
                  walk_at "rd"
                  refine ⟨rfl, ?_⟩
                  unfold tYes
                  dsimp only
                  rw [if_pos rfl]
                  walk_at "rd"
                  refine ⟨_, hb', Nat.lt_of_le_of_lt (by rw [List.length_map, List.length_take]; omega : _ ≤ 50) (by decide), fun b o eo => ?_, ?_⟩
                  · rw [upd_ne (ne_of_none eo hD8)]
                    exact e' _ _ eo
                  · rw [upd_same, take_snoc hsi, List.map_append]
                    rfl
                · rintro H8 ⟨e8, hl8⟩
                  rw [hcl, List.take_length] at hl8
                  walk_at "rd"
                  refine ⟨_, sp.map (·.2), rfl, SqL.of (by rw [List.map_map]; exact hl8), ?_⟩
                  rw [show (sp.map (·.2)).sum = lenS sp from rfl]
                  walk_at "rd"
                  by_cases hst : stored = 512 + lenS sp
                  · rw [if_pos ⟨hz, hs, hx, hst⟩] at qs
                    rw [decide_eq_true (show V.int stored = V.int (512 + lenS sp) by rw [hst])]
                    walk_at "rd"
                    rename_i pT hT
                    refine qs z sp pT D5 _ rfl (fun b o eb => upd_old hT (e8 _ _ (E7 _ _ eb))) upd_same ((sp7'.same e8).same fun b o eb => upd_old hT eb)
                  · rw [if_neg (fun h => hst h.2.2.2)] at qn
                    rw [decide_eq_false (show V.int stored ≠ V.int (512 + lenS sp) from fun h => hst (by injection h))]
                    walk_at "rd"
                    exact qn rfl _ fun b o eb => e8 _ _ (E7 _ _ eb)
              · rw [if_neg (fun h => hx h.2.2.1)] at qn
                rw [decide_eq_false (show V.byt (Bt.byOf (filled (linesOf (numsOf z sp)))) ≠ V.byt (Bt.byOf xs) from fun h => hx (byOf_inj2 (filled_lt (fun c hc => by have := lines_lt (nums_small hz hs.1 (spansC_ok hs.2)) c hc; omega)) hfc (by injection h)))]
                walk_at "rd"
                exact qn rfl _ E7
            · rw [if_neg (fun h => hs h.2.1)] at qn
              rw [show (decide (sp.length ≤ 50) && spansC z 0 sp) = false from by rw [Bool.and_eq_false_iff, decide_eq_false_iff_not]; by_cases h5 : sp.length ≤ 50; exact .inr (by cases h : spansC z 0 sp with | false => rfl | true => exact absurd ⟨h5, h⟩ hs); exact .inl h5]
              walk_at "rd"
              exact qn rfl _ fun b o eb => e6 _ _ (E5 _ _ eb)
          · rw [if_neg (fun h => hz h.1)] at qn
            rw [show (decide (0 ≤ z) && decide (z ≤ 4096)) = false from by rw [Bool.and_eq_false_iff, decide_eq_false_iff_not, decide_eq_false_iff_not]; omega]
            walk_at "rd"
            exact qn rfl _ E5
end
/-! ### methods with arguments; a star and keywords -/
structure MetA (P : Program) (w : World) (K : PySem.W.Frag) (mg : Str → Option Value) (base : Heap) (k : Nat) (C : Addr) (m : Str) (ps : List Str) (sp : Sp) : Prop where
  ex : ∃ (f : Addr) (fd : FuncData), FnOk P w K mg base CX0 k f fd ps sp ∧ Cls K C ∧ Meth K C m f ∧ Binds K fd ps []
section
variable {X : Cx} {j k : Nat} {C : Addr} {m : Str} {ps : List Str} {sp : Sp} {o e : Expr} {es : List Expr} {ta : TE} {t : TA} {apos pos : Pos}
theorem pe_mtA {pl : Sem Bool} (c : MetA X.prog X.w X.K X.mg X.base k C m ps sp) (hr : Room j X.A) (hk : k ≤ j) (he : PE X o ta) (ha : PA X (e :: es) t)
    (hst : starEach (e :: es) X.env = (false, eval e X.env) :: starEach es X.env := by rfl) (hpl : (backTo pos (starEach es X.env)).any (·.1) = false := by rfl)
    (ht : eval (.Call (.Attribute o m apos) (e :: es) [] pos) X.env = (do
      let ov ← eval o X.env
      standAt apos.atName
      let (f, first) ← holding [ov] (getMethod ov m pl)
      callWith pos f first (backTo pos (starEach (e :: es) X.env)) (backToKw pos (keywordEach [] X.env))) := by rfl) :
    PE X (.Call (.Attribute o m apos) (e :: es) [] pos) (tMeth C m sp [] E0 ta t) := by
  obtain ⟨f, fd, F, hc, hm, hb⟩ := c.ex
  exact pe_meth he hc hm F (hr.mono hk) hb .nil pass0 ha hst hpl ht
theorem pe_mtA0 {pl : Sem Bool} (c : MetA X.prog X.w X.K X.mg X.base k C m ps sp) (hr : Room j X.A) (hk : k ≤ j) (he : PE X o ta)
    (ht : eval (.Call (.Attribute o m apos) [] [] pos) X.env = (do
      let ov ← eval o X.env
      standAt apos.atName
      let (f, first) ← holding [ov] (getMethod ov m pl)
      callWith pos f first (backTo pos (starEach [] X.env)) (backToKw pos (keywordEach [] X.env))) := by rfl) : PE X (.Call (.Attribute o m apos) [] [] pos) (tMeth C m sp [] E0 ta tNil) := by
  obtain ⟨f, fd, F, hc, hm, hb⟩ := c.ex
  exact pe_meth0 he hc hm F (hr.mono hk) hb .nil pass0 ht
end
section
variable {X : Cx} {j k : Nat} {x : Str} {C : Addr} {ks : List Str} {sp : List V → List V → Hp → VK → Prop} {e : Expr} {es : List Expr} {kws : List Keyword} {p pos : Pos} {t tk : TA}
theorem pe_mksS (c : MakS X.prog X.w X.K X.mg X.base k x C ks sp) (hr : Room j X.A) (hk : k + 1 ≤ j) (hg : Gl X x) (ha : PA X (e :: es) t) (hkw : PK X kws tk)
    (hall : (backToKw pos (keywordEach kws X.env)).all (·.1.isSome) = true := by rfl) (hks : (backToKw pos (keywordEach kws X.env)).filterMap (·.1) = ks := by rfl) (hdb : (x == ("__debug__" : Str)) = false := by decide)
    (he : starEach (e :: es) X.env = (false, eval e X.env) :: starEach es X.env := by rfl) (hst : (backTo pos (starEach (e :: es) X.env)).any (·.1) = true := by rfl) :
    PE X (.Call (.Name x p) (e :: es) kws pos) (tMakS sp ks.length C t tk) := by
  obtain ⟨f, M, F, hm⟩ := c.ex
  constructor
  intro pins s σ H Q I h
  refine wpAny_Call_Name_kw (ld_glob I hg hm ?_ hdb)
  refine Sk.callWith_KWS (h₀ := X.base) I.ok.mod.kin M.kp hall (thn (ha.run pos pins s σ H _ I h) ?_) hst he
  rintro us s1 ⟨vs, H1, I1, r1, q1⟩
  refine thn (hkw.run pos pins s1 σ H1 _ I1 q1) ?_
  rintro ws s2 ⟨zs, H2, I2, rz, hl, q2⟩
  refine ⟨I2.kIn, ?_⟩
  rw [hks]
  exact run_mks M F (hr.mono hk) (fun _ => True.intro) I2 r1 rz hl q2
end
def pa_starN {X : Cx} (K : PySem.W.Frag) {e : Expr} {es : List Expr} {te : TE} {t : TA} {p : Pos} (he : PE X e te) (hr : PA X es t) (h : X.K = K := by rfl) (hs : starEach (.Starred e p :: es) X.env = (true, eval e X.env) :: starEach es X.env := by rfl) : PA X (.Starred e p :: es) (StX.tStar K te t) := h ▸ StX.pa_star he hr hs
def ps_fldaugN {X : Cx} (K : PySem.W.Frag) {o value : Expr} {f : Str} {pos tpos : Pos} {ta tv : TE} {op : Operator} {rd : V → V → Hp → VK → Prop} (ha : PE X o ta) (hv : PE X value tv) (hop : InOp X op rd) (h : X.K = K := by rfl) : PS X (.AugAssign (.Attribute o f tpos) op value pos) (sFldAug K ta tv rd f) := h ▸ ps_fldaug ha hv hop
/-! ### the pieces cut out of the stored bytes -/
def cutP : List Nat → List (Int × Int) → List (Int × Array UInt8)
  | _, [] => []
  | xs, s :: sp => (s.1, Bt.byOf (xs.take s.2.toNat)) :: cutP (xs.drop s.2.toNat) sp
theorem cutP_cons (xs : List Nat) (s : Int × Int) (sp : List (Int × Int)) : cutP xs (s :: sp) = (s.1, Bt.byOf (xs.take s.2.toNat)) :: cutP (xs.drop s.2.toNat) sp := by
  simp only [cutP]
theorem lenS_nn : ∀ {sp : List (Int × Int)}, (∀ s ∈ sp, 0 ≤ s.2) → 0 ≤ lenS sp
  | [], _ => Int.le_refl 0
  | s :: sp, h => by
    have h1 := h s List.mem_cons_self
    have h2 := lenS_nn fun t ht => h t (List.mem_cons_of_mem _ ht)
    have e : lenS (s :: sp) = s.2 + lenS sp := List.sum_cons
    omega
def PcsL (H : Hp) (p : Addr) (ps : List (Int × Array UInt8)) : Prop := ∃ as : List Addr, H p = some (.lst (as.map V.ref)) ∧ Paired (fun q (s : Int × Array UInt8) => H q = some (.tup [.int s.1, .byt s.2])) as ps
section
variable {P : Program} {w : World} {K : PySem.W.Frag} {mg : Str → Option Value} {base : Heap}
def spCut : Sp := fun vs H Q _ => ∃ (xs : List Nat) (L : Addr) (sp : List (Int × Int)), vs = [.byt (Bt.byOf xs), .ref L] ∧ SpnL H L sp ∧ sp.length ≤ 50 ∧ (∀ s ∈ sp, 0 ≤ s.2) ∧ lenS sp ≤ xs.length ∧ xs.length ≤ 100000 ∧ ∀ p H', Same H H' → PcsL H' p (cutP xs sp) → Q (.ref p) H'
theorem ok_cut {f : Addr} {fd : FuncData} {k : Nat} (F : Fun K "cut" "cut" s_cut f fd) : FnOk P w K mg base CX0 (k + 2) f fd ["data", "spans"] spCut := by
  refine F.ok sc_cut (fun vs H Q E h => ?_) (fun cdv A outer s H vs Q E hr h => ?_)
  · obtain ⟨xs, L, sp, rfl, _⟩ := h
    rfl
  · obtain ⟨xs, L, sp, rfl, ⟨as, hL, hpd⟩, hn, hs0, hsl, hz, q⟩ := h
    have hu := hu_of hr
    have nd := sc_cut.nd
    have hlen : (as.map V.ref).length = sp.length := by rw [List.length_map]; exact hpd.length
    refine ⟨_, (pss_cons (ps_set (i := 2) nd rfl (Or.inl rfl) (pe_lst pa_nil))
      (pss_cons (ps_set (i := 3) nd rfl (Or.inl rfl) pe_int)
      (pss_cons (ps_for PassesOwn.never rfl (pi_list (pv 1)) (pg_tupK K (pg_tup rfl (pgs_cons (pg_name (i := 4) nd rfl (Or.inl rfl)) (pgs_cons (pg_name (i := 5) nd rfl (Or.inl rfl)) pgs_nil))))
        (pss_cons (ps_expr (pe_bm PySem.F.plainAttrs_list PySem.F.slot_list_append PySem.F.type_list_append mt_append (pv 2) (pa_cons (pe_tup (pa_cons (pv 4) (pa_cons (pe_slice sl_Y (pv 0) (po_some (pv 3)) (po_some (pe_op op_add (pv 3) (pv 5)))) pa_nil))) pa_nil)))
      (pss_one (ps_aug (i := 3) nd rfl (Or.inl rfl) (pv 5) ip_add))))
      (pss_one (ps_ret (pv 2)))))), ?_⟩
    walk_at "rd"
    rename_i D hD
    refine for_it (walk_list (xs := as.map V.ref)) (fun i σ H' => ∃ (n : Nat) (v1 v2 : Option V) (bs : List Addr), σ = [some (V.byt (Bt.byOf xs)), some (.ref L), some (.ref D), some (.int (n : Int)), v1, v2] ∧ Same H H' ∧ H' D = some (.lst (bs.map V.ref)) ∧
        n + (lenS (sp.drop i)).toNat ≤ xs.length ∧ ∃ qs, Paired (fun q (s : Int × Array UInt8) => q ≠ D ∧ H' q = some (.tup [.int s.1, .byt s.2])) bs qs ∧ qs.length = i ∧ cutP xs sp = qs ++ cutP (xs.drop n) (sp.drop i)) ?_ (fun i σ H' _ ⟨_, _, _, _, _, e, _⟩ => SqL.of (e _ _ hL)) ?_ ?_
    · exact ⟨0, _, _, [], rfl, same_new hD, upd_same, by rw [List.drop_zero]; omega, [], .nil, rfl, rfl⟩
    · rintro i x σ Hc H' hi ⟨n, v1, v2, bs, rfl, e, hb', hn', qs, hq, hql, hc⟩ ⟨rfl, hx⟩
      rw [List.getElem?_map] at hx
      obtain ⟨qa, hqa, rfl⟩ : ∃ qa, as[i]? = some qa ∧ V.ref qa = x := by
        cases e : as[i]? with
        | none => rw [e] at hx; cases hx
        | some qa => rw [e] at hx; exact ⟨qa, rfl, Option.some.inj hx⟩
      obtain ⟨s, hsi, hqt⟩ := paired_at hpd hqa
      have hq' := e _ _ hqt
      have s0 := hs0 s (List.mem_of_getElem? hsi)
      have hdrop : sp.drop i = s :: sp.drop (i + 1) := by
        obtain ⟨hlt, hge⟩ := List.getElem?_eq_some_iff.mp hsi
        rw [← hge]
        exact List.drop_eq_getElem_cons hlt
      have hrest : 0 ≤ lenS (sp.drop (i + 1)) := lenS_nn fun t ht => hs0 t (List.mem_of_mem_drop ht)
      have hls : lenS (sp.drop i) = s.2 + lenS (sp.drop (i + 1)) := by rw [hdrop]; exact List.sum_cons
      obtain ⟨b, hb⟩ := Int.eq_ofNat_of_zero_le s0
      rw [hls, hb] at hn'
      rw [hdrop, cutP_cons] at hc
      rw [hb, Int.toNat_natCast] at hc
      rw [hb] at hq'
      walk_at "rd"
      refine r_slMid (i := n) (j := n + b) (by omega) (by omega) (by omega) ?_
      rw [Nat.add_sub_cancel_left]
      walk_at "rd"
      rename_i T hT
      have nTD : T ≠ D := (ne_of_none hb' hT).symm
      refine r_append (upd_old hT hb') (Nat.lt_of_le_of_lt (by rw [List.length_map, hq.length]; omega : _ ≤ 50) (by decide)) ?_
      walk_at "rd"
      refine ⟨.int (n : Int), rfl, r_var rfl ⟨(n : Int), (b : Int), rfl, rfl, ?_⟩⟩
      refine ⟨n + b, _, _, bs ++ [T], rfl, fun c o eo => ?_, by rw [upd_same, List.map_append]; rfl, by omega, qs ++ [(s.1, Bt.byOf ((xs.drop n).take b))], ?_, by rw [List.length_append, hql]; rfl, by rw [hc, List.drop_drop, List.append_assoc]; rfl⟩
      · have h2 := e _ _ eo
        rw [upd_ne (ne_of_none eo hD), upd_ne (ne_of_none h2 hT)]
        exact h2
      · refine paired_snoc (Paired.mapP hq fun y s ⟨n1, g1⟩ => ⟨n1, ?_⟩) ⟨nTD, ?_⟩
        · rw [upd_ne n1, upd_ne (ne_of_none g1 hT)]
          exact g1
        · rw [upd_ne nTD, upd_same]
    · rintro σ Hc ⟨n, v1, v2, bs, rfl, e, hb', hn', qs, hq, hql, hc⟩
      rw [hlen] at hc
      rw [List.drop_length] at hc
      simp only [cutP, List.append_nil] at hc
      walk_at "rd"
      refine q D _ e ⟨bs, hb', ?_⟩
      rw [hc]
      exact Paired.mapP hq fun y s ⟨_, g⟩ => g
end
/-! ### the scanner's state -/
structure ScV where
  start : Int
  place : Int
  at_ : Int
  rest : List Nat
  heading : V
  stored : List Nat
  ln : Str
  lt : Str
  zeros : Int
  wrong : Str
def scF (v : ScV) : List (Str × V) := putF "wrong" (.str v.wrong) (putF "zeros" (.int v.zeros) (putF "long_target" (.str v.lt) (putF "long_name" (.str v.ln) (putF "stored" (.byt (Bt.byOf v.stored)) (putF "heading" v.heading (putF "rest" (.byt (Bt.byOf v.rest)) (putF "at" (.int v.at_) (putF "place" (.int v.place) (putF "start" (.int v.start) [])))))))))
structure ScC (K : PySem.W.Frag) (C : Addr) : Prop where
  cl : Cls K C
  st : NoAttr K C "start"
  pl : NoAttr K C "place"
  at_ : NoAttr K C "at"
  rs : NoAttr K C "rest"
  hd : NoAttr K C "heading"
  sd : NoAttr K C "stored"
  ln : NoAttr K C "long_name"
  lt : NoAttr K C "long_target"
  zs : NoAttr K C "zeros"
  wr : NoAttr K C "wrong"
section
variable {P : Program} {w : World} {K : PySem.W.Frag} {mg : Str → Option Value} {base : Heap}
def spScI (C : Addr) : Sp := fun vs H Q _ => ∃ (x dx : Addr) (o : Int), vs = [.ref x, .int o] ∧ H x = some (.ins C dx []) ∧ ∀ H', Frame x H H' → H' x = some (.ins C dx (scF ⟨o, o, o, [], .non, [], "", "", 0, ""⟩)) → Q .non H'
theorem ok_scinit {f C : Addr} {fd : FuncData} {k : Nat} (F : Fun K "__init__" "Scanner.__init__" s_Scanner___init__ f fd) (hc : ScC K C) (m1 : mg "bytes" = none) : FnOk P w K mg base CX0 (k + 2) f fd ["self", "offset"] (spScI C) := by
  refine F.ok sc_Scanner___init__ (fun vs H Q E h => ?_) (fun cdv A outer s H vs Q E hr h => ?_)
  · obtain ⟨x, dx, o, rfl, _⟩ := h
    rfl
  · obtain ⟨x, dx, o, rfl, hx, q⟩ := h
    have hu := hu_of hr
    have nd := sc_Scanner___init__.nd
    have hcl := hc.cl
    have h1 := hc.st
    have h2 := hc.pl
    have h3 := hc.at_
    have h4 := hc.rs
    have h5 := hc.hd
    have h6 := hc.sd
    have h7 := hc.ln
    have h8 := hc.lt
    have h9 := hc.zs
    have h10 := hc.wr
    refine ⟨_, (pss_cons (ps_fld (pv 0) (pv 1) rfl)
      (pss_cons (ps_fld (pv 0) (pv 1) rfl)
      (pss_cons (ps_fld (pv 0) (pv 1) rfl)
      (pss_cons (ps_fld (pv 0) (pe_callTy0 Bt.call_rBytes0 (by rfl) (by assumption) (by decide +kernel)) rfl)
      (pss_cons (ps_fld (pv 0) pe_non rfl)
      (pss_cons (ps_fld (pv 0) (pe_callTy0 Bt.call_rBytes0 (by rfl) (by assumption) (by decide +kernel)) rfl)
      (pss_cons (ps_fld (pv 0) pe_str rfl)
      (pss_cons (ps_fld (pv 0) pe_str rfl)
      (pss_cons (ps_fld (pv 0) pe_int rfl)
      (pss_one (ps_fld (pv 0) pe_str rfl))))))))))), ?_⟩
    walk_at "rd"
    refine ⟨rfl, ?_⟩
    walk_at "rd"
    refine ⟨rfl, ?_⟩
    walk_at "rd"
    refine q _ (fun b ob nb e => ?_) upd_same
    simp only [upd_ne nb]
    exact e
def spOver (C : Addr) : Sp := fun vs H Q _ => ∃ (x dx : Addr) (v : ScV), vs = [.ref x] ∧ H x = some (.ins C dx (scF v)) ∧ Q (.bl (!decide (v.wrong = "") || decide (v.zeros = 2))) H
theorem sp_over {C x dx : Addr} {v : ScV} {H : Hp} {Q : VK} {E : XK} (hx : H x = some (.ins C dx (scF v))) (k : Q (.bl (!decide (v.wrong = "") || decide (v.zeros = 2))) H) : spOver C ([.ref x] ++ []) H Q E := ⟨x, dx, v, rfl, hx, k⟩
theorem ok_over {f C : Addr} {fd : FuncData} {k : Nat} (F : Fun K "is_over" "Scanner.is_over" s_Scanner_is_over f fd) (hc : ScC K C) : FnOk P w K mg base CX0 (k + 2) f fd ["self"] (spOver C) := by
  refine F.ok sc_Scanner_is_over (fun vs H Q E h => ?_) (fun cdv A outer s H vs Q E hr h => ?_)
  · obtain ⟨x, dx, v, rfl, _⟩ := h
    rfl
  · obtain ⟨x, dx, v, rfl, hx, q⟩ := h
    have hu := hu_of hr
    have nd := sc_Scanner_is_over.nd
    refine ⟨_, (pss_one (ps_ret (pe_or (pe_cmpR op_ne (pe_fld (pv 0) rfl) pe_str (nomark _)) (pe_one (pe_cmpR op_eq (pe_fld (pv 0) rfl) pe_int (nomark _)))))), ?_⟩
    walk_at "rd"
    refine r_fldE (v := .str v.wrong) hx hc.cl hc.wr rfl ?_
    walk_at "rd"
    rw [dec_str]
    by_cases e : v.wrong = ""
    · rw [decide_eq_true e] at q ⊢
      walk_at "rd"
      refine r_fldE (v := .int v.zeros) hx hc.cl hc.zs rfl ?_
      walk_at "rd"
      rw [show decide (V.int v.zeros = V.int 2) = decide (v.zeros = 2) by rw [Bool.eq_iff_iff, decide_eq_true_iff, decide_eq_true_iff]; exact ⟨fun h => by injection h, fun h => by rw [h]⟩]
      exact q
    · rw [decide_eq_false e] at q ⊢
      walk_at "rd"
      exact q
end
/-! ### stored bytes that are right -/
def rIsN1 : R2 := fun x y H Q => y = .non ∧ Q (.bl (decide (x = .non))) H
theorem op_isN1 {X : Cx} : OpR X (compareOp .Is) rIsN1 := op_isN
theorem r_slFromG {xs : List Nat} {n : Nat} {H : Hp} {Q : VK} (hz : xs.length ≤ 100000) (h : Q (.byt (Bt.byOf (xs.drop n))) H) : rSlY (.byt (Bt.byOf xs)) (some (n : Int)) none H Q := by
  by_cases hn : n ≤ xs.length
  · exact r_slFrom hn hz h
  refine ⟨_, rfl, by rw [byOf_size]; omega, ?_⟩
  unfold Bt.byOf
  have e : PySem.W.KBy.picked ((xs.map Nat.toUInt8).toArray) (some (n : Int)) none = (List.map Nat.toUInt8 (xs.drop n)).toArray := by
    rw [PySem.W.KBc.picked_eq]
    show ((List.map Nat.toUInt8 xs).drop (clipAt (List.map Nat.toUInt8 xs).toArray.size (n : Int)) |>.take ((List.map Nat.toUInt8 xs).toArray.size - clipAt (List.map Nat.toUInt8 xs).toArray.size (n : Int))).toArray = _
    rw [clipAt_nat, List.size_toArray, List.length_map, Nat.min_eq_right (by omega), Nat.sub_self, List.take_zero, List.drop_of_length_le (by omega)]
    rfl
  rw [e]
  exact h
theorem kd_in {l : Str} : inV (V.str l) [.str "K", .str "L"] = kdIn l := by
  unfold kdIn inV
  simp only [List.any_cons, List.any_nil, eqV_str, Bool.or_false]
  rw [Bool.eq_iff_iff]
  simp only [Bool.or_eq_true, decide_eq_true_eq]
  exact ⟨fun h => h.imp Eq.symm Eq.symm, fun h => h.imp Eq.symm Eq.symm⟩
/-! ### wrong_stored of any stored bytes -/
def wstF (l : Str) (s : Nat) (ys : List Nat) : Str :=
  if kdIn l = true then (if nameV (textV ys) = true ∧ textV ys = .str (txtS (stripN ys)) ∧ (((txtS (stripN ys)).length : Nat) : Int) = (s : Int) - 1 then "" else "text")
  else if l = "S" ∧ mapN (ys.take 512) s = none then "map"
  else if ys.drop s = List.replicate (ys.length - s) 0 then "" else "padding"
theorem nameV_str {v : V} (h : nameV v = true) : ∃ z, v = .str z := by
  cases v with
  | str z => exact ⟨z, rfl⟩
  | _ => cases h
theorem textV_str {ys : List Nat} {z : Str} (h : textV ys = .str z) : z = txtS (stripN ys) := by
  unfold textV at h
  split at h
  · injection h with h; exact h.symm
  · cases h
section
variable {P : Program} {w : World} {K : PySem.W.Frag} {mg : Str → Option Value} {base : Heap}
def spWstG (C CH : Addr) : Sp := fun vs H Q _ => ∃ (x dx h dh : Addr) (v : ScV) (hv : HdV) (l : Str) (s : Nat), vs = [.ref x] ∧ H x = some (.ins C dx (scF v)) ∧ v.heading = .ref h ∧ H h = some (.ins CH dh (hdF hv)) ∧ hv.size = s ∧ hv.kind = .str l ∧
  512 ≤ v.stored.length ∧ v.stored.length ≤ 5000 ∧ (∀ c ∈ v.stored, c < 256) ∧ ∀ H', Same H H' → Q (.str (wstF l s v.stored)) H'
theorem ok_wstG {f C CH aSZ aLK aTK aBL : Addr} {fd : FuncData} {k : Nat} {t1 : Tok} (F : Fun K "wrong_stored" "Scanner.wrong_stored" s_Scanner_wrong_stored f fd) (hc : ScC K C) (hh : HdC K CH) (KF : KdG K w aSZ aLK aTK aBL) (m1 : mg "len" = none) (m2 : mg "bytes" = none) (m_LK : mg "LONG_KINDS" = some (.ref aLK))
    (m_BS : mg "BLOCK_SIZE" = some (.int 512 t1)) (c_textin : CalT P w K mg base 2 "text_in" spTextIn) (c_is_name : CalT P w K mg base 2 "is_name" (spName K)) (c_rmap : CalT P w K mg base 4 "read_map" spRMapG) : FnOk P w K mg base CX0 (k + 5) f fd ["self"] (spWstG C CH) := by
  refine F.ok sc_Scanner_wrong_stored (fun vs H Q E h => ?_) (fun cdv A outer s H vs Q E hr h => ?_)
  · obtain ⟨x, dx, h, dh, v, hv, l, s, rfl, _⟩ := h
    rfl
  · obtain ⟨x, dx, h, dh, ⟨v1, v2, v3, v4, v5, ys, v7, v8, v9, v10⟩, ⟨u1, u2, u3, u4, u5, u6, u7, u8⟩, l, sz, rfl, hx, eh, hh1, es, ek, hy5, hyl, hy, q⟩ := h
    dsimp only at eh es ek hy5 hyl hy q
    subst eh es ek
    have hu := hu_of hr
    have nd := sc_Scanner_wrong_stored.nd
    unfold wstF at q
    have rest : ∀ H1 : Hp, Same H H1 → (∀ H', Same H H' → Q (.str (if ys.drop sz = List.replicate (ys.length - sz) 0 then "" else "padding")) H') → ∀ {Q' : VK}, (∀ b, (b = decide (ys.drop sz = List.replicate (ys.length - sz) 0)) → Q' (.bl b) H1) →
        rEq (.byt (Bt.byOf (ys.drop sz))) (.byt (Bt.byOf (List.replicate (ys.drop sz).length 0))) H1 Q' := fun H1 e1 qq Q' k => by
      refine r_eq rfl ?_
      refine k _ ?_
      rw [Bool.eq_iff_iff, decide_eq_true_iff, decide_eq_true_iff, List.length_drop]
      constructor
      · intro h
        exact byOf_inj2 (fun c hc => hy c (List.mem_of_mem_drop hc)) (fun c hc => by rw [List.eq_of_mem_replicate hc]; decide) (by injection h)
      · intro h
        rw [h]
    refine ⟨_, (pss_cons (ps_set (i := 1) nd rfl (Or.inl rfl) (pe_fld (pe_fld (pv 0) rfl) rfl))
      (pss_cons (ps_if (pt_cmpR (op_inK K) (pe_fld (pe_fld (pv 0) rfl) rfl) (pe_glob (v := .ref aLK) (by rfl) m_LK (by first | exact rfl | exact ⟨_, rfl⟩)) (by rfl))
        (pss_cons (ps_set (i := 2) nd rfl (Or.inl rfl) (pe_cc c_textin hr (by omega) (by rfl) (pa_cons (pe_fld (pv 0) rfl) pa_nil)))
      (pss_one (ps_ret (pe_ifExp (PW.pt (pw_and (pt_val (pe_cc c_is_name hr (by omega) (by rfl) (pa_cons (pv 2) pa_nil))) (pw_and1 (pt_cmpR op_eq (pe_callB call_rLenZ (by rfl) (by assumption) (by decide +kernel) (pa_cons (pv 2) pa_nil)) (pe_op op_sub (pv 1) pe_int) (nomark _))))) pe_str pe_str))))
        pss_nil)
      (pss_cons (ps_if (PW.pt (pw_and (pt_cmpR op_eq (pe_fld (pe_fld (pv 0) rfl) rfl) pe_str (nomark _)) (pw_and1 (pt_cmpR op_isN1 (pe_cc c_rmap hr (by omega) (by rfl) (pa_cons (pe_slice sl_Y (pe_fld (pv 0) rfl) po_none (po_some (pe_glob (v := .int 512) (by rfl) m_BS (by first | exact rfl | exact ⟨_, rfl⟩)))) (pa_cons (pv 1) pa_nil))) pe_non (nomark _)))))
        (pss_one (ps_ret pe_str))
        pss_nil)
      (pss_cons (ps_set (i := 3) nd rfl (Or.inl rfl) (pe_slice sl_Y (pe_fld (pv 0) rfl) (po_some (pv 1)) po_none))
      (pss_one (ps_ret (pe_ifExp (pt_cmpR op_eq (pv 3) (pe_callTy call_bytesN (by rfl) (by assumption) (by decide +kernel) (pa_cons (pe_callB call_rLenY (by rfl) (by assumption) (by decide +kernel) (pa_cons (pv 3) pa_nil)) pa_nil)) (nomark _)) pe_str pe_str))))))), ?_⟩
    walk_at "rd"
    refine r_fldE (v := .ref h) hx hc.cl hc.hd rfl ?_
    refine r_fldE (v := .int sz) hh1 hh.cl hh.sz rfl ?_
    walk_at "rd"
    refine r_fldE (v := .ref h) hx hc.cl hc.hd rfl ?_
    refine r_fldE (v := .str l) hh1 hh.cl hh.kd rfl ?_
    walk_at "rd"
    refine r_inT (KF.lk H) rfl rfl ?_
    rw [kd_in]
    cases hk : kdIn l with
    | true =>
      rw [hk, if_pos rfl] at q
      walk_at "rd"
      refine r_fldE (v := .byt (Bt.byOf ys)) hx hc.cl hc.sd rfl ?_
      walk_at "rd"
      refine sp_textin hy (by omega) (fun H1 e1 => ?_)
      walk_at "rd"
      refine sp_name (TxV.any (textV_tx hyl)) (fun H2 e2 => ?_)
      cases hn : nameV (textV ys) with
      | false =>
        rw [if_neg (fun h => by rw [hn] at h; exact Bool.false_ne_true h.1)] at q
        walk_at "rd"
        exact q _ (e1.trans e2)
      | true =>
        obtain ⟨t, ht⟩ := nameV_str hn
        have et := textV_str ht
        rw [ht] at hn ⊢
        have htl : t.length ≤ 250 := (of_name (show nameB t = true from hn)).2.1
        walk_at "rd"
        rw [← et] at q
        by_cases hl : (t.length : Int) = (sz : Int) - 1
        · rw [if_pos ⟨by rw [ht]; exact hn, ht, hl⟩] at q
          rw [decide_eq_true (show V.int (t.length : Int) = V.int ((sz : Int) - 1) by rw [hl])]
          walk_at "rd"
          exact q _ (e1.trans e2)
        · rw [if_neg (fun h => hl h.2.2)] at q
          rw [decide_eq_false (show V.int (t.length : Int) ≠ V.int ((sz : Int) - 1) from fun h => hl (by injection h))]
          walk_at "rd"
          exact q _ (e1.trans e2)
    | false =>
      rw [hk, if_neg Bool.false_ne_true] at q
      walk_at "rd"
      refine r_fldE (v := .ref h) hx hc.cl hc.hd rfl ?_
      refine r_fldE (v := .str l) hh1 hh.cl hh.kd rfl ?_
      walk_at "rd"
      rw [dec_str]
      by_cases hl : l = "S"
      · rw [decide_eq_true hl]
        walk_at "rd"
        refine r_fldE (v := .byt (Bt.byOf ys)) hx hc.cl hc.sd rfl ?_
        walk_at "rd"
        refine r_slTo (n := 512) hy5 (by omega) ?_
        walk_at "rd"
        refine ⟨ys.take 512, sz, rfl, by rw [List.length_take]; omega, lt_take hy, fun hm H1 e1 => ?_, fun z sp p L H1 hm e1 g1 g2 => ?_⟩
        · rw [if_pos ⟨hl, hm⟩] at q
          walk_at "rd"
          refine ⟨rfl, ?_⟩
          rw [decide_eq_true (show V.non = V.non from rfl)]
          walk_at "rd"
          exact q _ e1
        rw [if_neg (fun h => by rw [hm] at h; exact nomatch h.2)] at q
        walk_at "rd"
        refine ⟨rfl, ?_⟩
        rw [show decide (V.ref p = V.non) = false from decide_eq_false fun h => nomatch h]
        walk_at "rd"
        refine r_fldE (v := .byt (Bt.byOf ys)) (e1 _ _ hx) hc.cl hc.sd rfl ?_
        walk_at "rd"
        refine r_slFromG (by omega) ?_
        walk_at "rd"
        refine r_rLenY (by rw [byOf_size, List.length_drop]; exact Nat.le_trans (by omega : _ ≤ 50000) (by decide)) ?_
        refine r_nil ?_
        rw [byOf_size]
        refine r_bytesN (by omega) (by rw [List.length_drop]; omega) ?_
        rw [Int.toNat_natCast, byOf_zero]
        refine rest H1 e1 q fun b hb => r_bl ?_
        rw [hb]
        by_cases hp : ys.drop sz = List.replicate (ys.length - sz) 0
        · rw [if_pos hp] at q
          rw [decide_eq_true hp]
          walk_at "rd"
          exact q _ e1
        · rw [if_neg hp] at q
          rw [decide_eq_false hp]
          walk_at "rd"
          exact q _ e1
      · rw [if_neg (fun h => hl h.1)] at q
        rw [decide_eq_false hl]
        walk_at "rd"
        refine r_fldE (v := .byt (Bt.byOf ys)) hx hc.cl hc.sd rfl ?_
        walk_at "rd"
        refine r_slFromG (by omega) ?_
        walk_at "rd"
        refine r_rLenY (by rw [byOf_size, List.length_drop]; exact Nat.le_trans (by omega : _ ≤ 50000) (by decide)) ?_
        refine r_nil ?_
        rw [byOf_size]
        refine r_bytesN (by omega) (by rw [List.length_drop]; omega) ?_
        rw [Int.toNat_natCast, byOf_zero]
        refine rest H (Same.refl _) q fun b hb => r_bl ?_
        rw [hb]
        by_cases hp : ys.drop sz = List.replicate (ys.length - sz) 0
        · rw [if_pos hp] at q
          rw [decide_eq_true hp]
          walk_at "rd"
          exact q _ (Same.refl _)
        · rw [if_neg hp] at q
          rw [decide_eq_false hp]
          walk_at "rd"
          exact q _ (Same.refl _)
end
/-! ### what a header without a wrong field says -/
theorem checks_names {xs : List Nat} {ln lt : Str} : ∀ p ∈ checksL xs ln lt, p.1 ≠ "" := fun p hp => by
  have h : p.1 ∈ (checksL xs ln lt).map fun p => p.1 := List.mem_map.mpr ⟨p, hp, rfl⟩
  have e : (checksL xs ln lt).map (fun p => p.1) = (["name", "mode", "owner", "group", "size", "time", "kind", "target", "magic", "rest", "checksum", "size"] : List Str) := rfl
  rw [e] at h
  have g : ∀ z ∈ (["name", "mode", "owner", "group", "size", "time", "kind", "target", "magic", "rest", "checksum", "size"] : List Str), z ≠ "" := by decide +kernel
  exact g _ h
theorem wrongF_all {xs : List Nat} {ln lt : Str} (h : wrongF xs ln lt = "") : ∀ p ∈ checksL xs ln lt, p.2 = true := by
  unfold wrongF at h
  cases hf : (checksL xs ln lt).find? fun p => !p.2 with
  | none =>
    intro p hp
    have := List.find?_eq_none.mp hf p hp
    simpa using this
  | some p =>
    rw [hf] at h
    exact absurd h (checks_names p (List.mem_of_find?_eq_some hf))
structure GoodH (v : HdV) (ln lt : Str) : Prop where
  nm : nmRightV v.name ln = true
  md : v.name ≠ .str LL → 0 ≤ v.mode ∧ v.mode ≤ 4095
  tm : v.name ≠ .str LL → 0 ≤ v.time
  kd : kdRightV v.kind (decide (v.name = .str LL)) lt = true
  tg : tgRightV v.kind v.target lt = true
  sz : ∃ (l : Str) (n : Int × Int), v.kind = .str l ∧ szOf l = some n ∧ n.1 ≤ v.size ∧ v.size ≤ n.2
theorem good_of {xs : List Nat} {ln lt : Str} (h : wrongF xs ln lt = "") : GoodH (hdOf xs) ln lt := by
  have a := wrongF_all h
  unfold checksL at a
  simp only [List.mem_cons, List.not_mem_nil, or_false, forall_eq_or_imp, forall_eq] at a
  obtain ⟨a1, a2, a3, a4, a5, a6, a7, a8, a9, a10, a11, a12⟩ := a
  refine ⟨a1, fun n => ?_, fun n => ?_, a7, a8, ?_⟩
  · rw [if_neg n] at a2
    simpa using a2
  · rw [if_neg n] at a6
    simpa using a6
  · unfold kdRightV at a7
    split at a7
    · cases a7
    rename_i g
    cases hk : (hdOf xs).kind with
    | str l =>
      cases hz : szOf l with
      | none => exact absurd (.inl (by rw [hk]; show (szOf l).isNone = true; rw [hz]; rfl)) g
      | some n =>
        rw [hk] at a12
        have e : (szG (V.str l)).getD (0, 0) = n := by show (szOf l).getD (0, 0) = n; rw [hz]; rfl
        rw [e] at a12
        simp only [Bool.and_eq_true, decide_eq_true_eq] at a12
        exact ⟨l, n, rfl, hz, a12.1, a12.2⟩
    | _ => exact absurd (.inl (by rw [hk]; rfl)) g
/-! ### the numbers of fields are small -/
theorem octNum_lt8 : ∀ (n : Nat) (ys : List Nat), ys.length = n → octs ys = true → Ox.octNum ys < 8 ^ ys.length
  | 0, ys, hl, _ => by
    rw [List.length_eq_zero_iff.mp hl]
    decide
  | n + 1, ys, hl, ho => by
    have hne : ys ≠ [] := fun e => by rw [e] at hl; cases hl
    rw [← List.dropLast_concat_getLast hne] at ho hl ⊢
    generalize ys.dropLast = zs at *
    generalize ys.getLast hne = c at *
    rw [List.length_append, List.length_singleton] at hl
    unfold octs at ho
    rw [List.all_append, Bool.and_eq_true] at ho
    have ih := octNum_lt8 n zs (by omega) ho.1
    have hc : 48 ≤ c ∧ c ≤ 55 := by simpa using ho.2
    rw [octNum_snoc, List.length_append, List.length_singleton, Nat.pow_succ]
    omega
theorem numN_lt {xs : List Nat} {k : Nat} (hl : xs.length = k + 1) : numN xs < 8 ^ k := by
  unfold numN
  split
  · rename_i h
    rw [Bool.and_eq_true] at h
    have e := octNum_lt8 k xs.dropLast (by rw [List.length_dropLast]; omega) h.2
    rw [List.length_dropLast, hl, Nat.add_sub_cancel] at e
    exact_mod_cast e
  · have h : (0 : Int) < ((8 ^ k : Nat) : Int) := by
      have := Nat.pow_pos (n := k) (show 0 < 8 by decide)
      omega
    have e : ((8 ^ k : Nat) : Int) = 8 ^ k := by push_cast; rfl
    omega
/-! ### the scanner, pure -/
def strOf : V → Str
  | .str z => z
  | _ => ""
def pickT (v : V) (z : Str) : Str := if z = "" then strOf v else z
def natI (xs : List Nat) : List Int := xs.map Int.ofNat
/-- the pieces of a sparse file: spans cut out of what is stored behind the map -/
def cutN : List Nat → List (Int × Int) → List (Int × List Int)
  | _, [] => []
  | ys, s :: r => (s.1, natI (ys.take s.2.toNat)) :: cutN (ys.drop s.2.toNat) r
def memOf (v : HdV) (ln lt : Str) (ys : List Nat) : Mem :=
  if v.kind = .str "0" then .file (pickT v.name ln) v.mode v.time (natI (ys.take v.size.toNat))
  else if v.kind = .str "5" then .dir (pickT v.name ln) v.mode v.time
  else if v.kind = .str "2" then .sym (pickT v.name ln) v.mode v.time (pickT v.target lt)
  else if v.kind = .str "1" then .lnk (pickT v.name ln) v.mode v.time (pickT v.target lt)
  else
    match mapN (ys.take 512) v.size with
    | some (z, sp) => .sparse (pickT v.name ln) v.mode v.time z (cutN (ys.drop 512) sp)
    | none => .dir "" 0 0
structure St where
  start : Int
  place : Int
  at_ : Int
  hd : Option HdV
  stored : List Nat
  ln : Str
  lt : Str
  zeros : Int
  wrong : Str
def endedF (s : St) (v : HdV) : St × Option (Int × Mem) :=
  if (s.stored.length : Int) < v.size then (s, none)
  else if v.kind = .str "K" then ({ s with hd := none, lt := strOf (textV s.stored) }, none)
  else if v.kind = .str "L" then ({ s with hd := none, ln := strOf (textV s.stored) }, none)
  else ({ s with hd := none, start := s.at_, ln := "", lt := "" }, some (s.start, memOf v s.ln s.lt s.stored))
def headerF (s : St) (b : List Nat) : St × Option (Int × Mem) :=
  if b = List.replicate 512 0 ∧ s.ln = "" ∧ s.lt = "" then ({ s with zeros := 1 }, none)
  else if wrongF b s.ln s.lt ≠ "" then ({ s with wrong := wrongF b s.ln s.lt }, none)
  else endedF { s with wrong := "", hd := some (hdOf b), stored := [] } (hdOf b)
def storedF (s : St) (v : HdV) (b : List Nat) : St × Option (Int × Mem) :=
  if wstF (strOf v.kind) v.size.toNat (s.stored ++ b) ≠ "" then ({ s with stored := s.stored ++ b, wrong := wstF (strOf v.kind) v.size.toNat (s.stored ++ b) }, none)
  else endedF { s with stored := s.stored ++ b, wrong := "" } v
def stepF (s : St) (b : List Nat) : St × Option (Int × Mem) :=
  match s.hd with
  | some v => storedF { s with at_ := s.at_ + 512 } v b
  | none =>
    if s.zeros = 0 then headerF { s with at_ := s.at_ + 512, place := s.at_ } b
    else if b = List.replicate 512 0 then ({ s with at_ := s.at_ + 512, zeros := 2 }, none)
    else ({ s with at_ := s.at_ + 512, wrong := "end" }, none)
def overF (s : St) : Bool := !decide (s.wrong = "") || decide (s.zeros = 2)
def st0 (o : Int) : St := ⟨o, o, o, none, [], "", "", 0, ""⟩
/-! ### the member of a header and its stored bytes -/
theorem r_joinX {c : Bool} {ta tb : TE} {σ : L2.St} {H : Hp} {Q : VK} {y : V} (k : Q y H) (h1 : c = true → ∀ Q' : VK, Q' y H → ta σ H Q') (h2 : c = false → ∀ Q' : VK, Q' y H → tb σ H Q') : if c = true then ta σ H Q else tb σ H Q := by
  cases c with
  | true => rw [if_pos rfl]; exact h1 rfl Q k
  | false => rw [if_neg Bool.false_ne_true]; exact h2 rfl Q k
theorem r_kNe {a b : Str} {A B : Prop} (h : ¬ a = b) (k : B) : if decide (V.str a = V.str b) = true then A else B := by
  rw [dec_str, decide_eq_false h, if_neg Bool.false_ne_true]
  exact k
theorem r_kEq {a : Str} {A B : Prop} (k : A) : if decide (V.str a = V.str a) = true then A else B := by
  rw [decide_eq_true rfl, if_pos rfl]
  exact k
theorem take_filled (xs : List Nat) : (filled xs).take xs.length = xs := by
  unfold filled
  exact List.take_left
/-! ### the end of a header's stored bytes -/
theorem Mem.Ins.frame {c : Cs} {H H' : Hp} {x y C dx : Addr} {fs : List (Str × V)} {m : Mem} (h : m.Ins c H y) (hx : H x = some (.ins C dx fs)) (ny : y ≠ x) (fr : Frame x H H') : m.Ins c H' y := by
  have nt : ∀ {b : Addr} {vs : List V}, H b = some (.tup vs) → b ≠ x := fun hb e => by
    rw [e, hx] at hb
    cases hb
  cases m with
  | file n b t ns => obtain ⟨d, h1⟩ := h; exact ⟨d, fr _ _ ny h1⟩
  | sparse n b t z sp =>
    obtain ⟨d, p, h1, as, h2, h3⟩ := h
    exact ⟨d, p, fr _ _ ny h1, as, fr _ _ (nt h2) h2, Paired.mapP h3 fun q s g => fr _ _ (nt g) g⟩
  | dir n b t => obtain ⟨d, h1⟩ := h; exact ⟨d, fr _ _ ny h1⟩
  | sym n b t g => obtain ⟨d, h1⟩ := h; exact ⟨d, fr _ _ ny h1⟩
  | lnk n b t g => obtain ⟨d, h1⟩ := h; exact ⟨d, fr _ _ ny h1⟩
theorem none_of {H H' : Hp} {x D : Addr} {u : HO} (nx : x ≠ D) (e : Same (upd H x u) H') (h : H' D = none) : H D = none := by
  cases q0 : H D with
  | none => rfl
  | some o =>
    have := e D o (upd_diff nx.symm q0)
    rw [this] at h
    cases h
/-! ### a header, or the first zero block -/
section
variable {P : Program} {w : World} {K : PySem.W.Frag} {mg : Str → Option Value} {base : Heap}
theorem none_fr {x D : Addr} {H H1 : Hp} {o : HO} (fr : Frame x H H1) (hx : H1 x = some o) (hD : H1 D = none) : H D = none := by
  have nx : D ≠ x := fun e => by rw [e, hx] at hD; cases hD
  cases q0 : H D with
  | none => rfl
  | some o =>
    rw [fr D o nx q0] at hD
    cases hD
end
/-! ### the next block -/
def rNotN1 : R2 := fun x y H Q => y = .non ∧ Q (.bl (!decide (x = .non))) H
theorem op_notN1 {X : Cx} : OpR X (compareOp .IsNot) rNotN1 := op_notN
/-! ### a whole archive -/
theorem r_slMidW {xs : List Nat} {i j : Nat} {H : Hp} {Q : VK} (hi : i ≤ xs.length) (hj : j ≤ xs.length) (hz : xs.length ≤ 1000000) (h : Q (.byt (Bt.byOf ((xs.drop i).take (j - i)))) H) : rSlY (.byt (Bt.byOf xs)) (some (i : Int)) (some (j : Int)) H Q := by
  refine ⟨_, rfl, by rw [byOf_size]; omega, ?_⟩
  unfold Bt.byOf
  rw [L2.pk_mid (by rw [List.length_map]; exact hi) (by rw [List.length_map]; exact hj), ← List.map_drop, ← List.map_take]
  exact h
theorem r_slFromW {xs : List Nat} {n : Nat} {H : Hp} {Q : VK} (hn : n ≤ xs.length) (hz : xs.length ≤ 1000000) (h : Q (.byt (Bt.byOf (xs.drop n))) H) : rSlY (.byt (Bt.byOf xs)) (some (n : Int)) none H Q := by
  refine ⟨_, rfl, by rw [byOf_size]; omega, ?_⟩
  unfold Bt.byOf
  rw [L2.pk_from (by rw [List.length_map]; exact hn), ← List.map_drop]
  exact h
/-- the pairs of offsets and members at the addresses -/
def Fnd (c : Cs) (x : Addr) (H : Hp) (Ts : List Addr) (ps : List (Int × Mem)) : Prop := Paired (fun T (p : Int × Mem) => ∃ y : Addr, y ≠ x ∧ H T = some (.tup [.int p.1, .ref y]) ∧ p.2.Ins c H y) Ts ps
theorem Fnd.frame {c : Cs} {x C dx : Addr} {fs : List (Str × V)} {H H' : Hp} {Ts : List Addr} {ps : List (Int × Mem)} (h : Fnd c x H Ts ps) (hx : H x = some (.ins C dx fs)) (fr : Frame x H H') : Fnd c x H' Ts ps :=
  Paired.mapP h fun T m ⟨y, ny, hT, hm⟩ => ⟨y, ny, fr _ _ (fun e => by rw [e, hx] at hT; cases hT) hT, hm.frame hx ny fr⟩
theorem Mem.Ins.lst {c : Cs} {H : Hp} {y D : Addr} {m : Mem} {l l' : List V} (h : m.Ins c H y) (hD : H D = some (.lst l)) : m.Ins c (upd H D (.lst l')) y := by
  have g : ∀ {b : Addr} {o : HO}, H b = some o → (∀ l, o ≠ .lst l) → upd H D (.lst l') b = some o := fun hb ne => upd_diff (fun e => by rw [e, hD] at hb; exact ne _ (Option.some.inj hb).symm) hb
  cases m with
  | file n b t ns => obtain ⟨d, h1⟩ := h; exact ⟨d, g h1 fun _ e => nomatch e⟩
  | sparse n b t z sp =>
    obtain ⟨d, p, h1, as, h2, h3⟩ := h
    exact ⟨d, p, g h1 (fun _ e => nomatch e), as, g h2 (fun _ e => nomatch e), Paired.mapP h3 fun q s k => g k fun _ e => nomatch e⟩
  | dir n b t => obtain ⟨d, h1⟩ := h; exact ⟨d, g h1 fun _ e => nomatch e⟩
  | sym n b t g' => obtain ⟨d, h1⟩ := h; exact ⟨d, g h1 fun _ e => nomatch e⟩
  | lnk n b t g' => obtain ⟨d, h1⟩ := h; exact ⟨d, g h1 fun _ e => nomatch e⟩
theorem Fnd.lst {c : Cs} {x D : Addr} {H : Hp} {Ts : List Addr} {ps : List (Int × Mem)} {l l' : List V} (h : Fnd c x H Ts ps) (hD : H D = some (.lst l)) : Fnd c x (upd H D (.lst l')) Ts ps :=
  Paired.mapP h fun T m ⟨y, ny, hT, hm⟩ => ⟨y, ny, upd_diff (fun e => by rw [e, hD] at hT; cases hT) hT, hm.lst hD⟩
theorem r_addYW {i j : Array UInt8} {H : Hp} {Q : VK} (hz : i.size + j.size ≤ 1000000) (h : Q (.byt (i ++ j)) H) : rAddY (.byt i) (.byt j) H Q := ⟨i, j, rfl, rfl, by omega, h⟩
/-! ### the member of any accepted header -/
structure MkOk (v : HdV) (ln lt : Str) (ys : List Nat) : Prop where
  md : 0 ≤ v.mode ∧ v.mode ≤ 4095
  tm : 0 ≤ v.time ∧ v.time ≤ 8589934591
  nm : nameB (pickT v.name ln) = true
  nz : ln = "" → v.name = .str (strOf v.name)
  tz : lt = "" → v.target = .str (strOf v.target)
  kd : (v.kind = .str "0" ∧ v.size ≤ 4096 ∧ ∃ s : Nat, v.size = s ∧ s ≤ ys.length) ∨ v.kind = .str "5" ∨ ((v.kind = .str "2" ∨ v.kind = .str "1") ∧ nameB (pickT v.target lt) = true) ∨
    (v.kind = .str "S" ∧ 512 ≤ ys.length ∧ ∃ z sp, mapN (ys.take 512) v.size = some (z, sp) ∧ 0 ≤ z ∧ z ≤ 4096 ∧ sp.length ≤ 50 ∧ spansOk z 0 sp ∧ lenS sp ≤ ((ys.drop 512).length : Int))
theorem cutP_spans : ∀ {sp : List (Int × Int)} {xs : List Nat}, (∀ s ∈ sp, 0 ≤ s.2) → lenS sp ≤ (xs.length : Int) → (cutP xs sp).map (fun s => (s.1, (s.2.size : Int))) = sp
  | [], _, _, _ => rfl
  | s :: sp, xs, h0, h => by
    have e : lenS (s :: sp) = s.2 + lenS sp := List.sum_cons
    have h1 := h0 s List.mem_cons_self
    have h2 := lenS_nn fun t ht => h0 t (List.mem_cons_of_mem _ ht)
    obtain ⟨n, hn⟩ := Int.eq_ofNat_of_zero_le h1
    rw [cutP_cons, List.map_cons, cutP_spans (fun t ht => h0 t (List.mem_cons_of_mem _ ht)) (by rw [List.length_drop]; omega)]
    congr 1
    show (s.1, ((Bt.byOf (xs.take s.2.toNat)).size : Int)) = s
    rw [byOf_size, List.length_take, Nat.min_eq_left (by omega), Int.toNat_of_nonneg h1]
theorem cutP_len : ∀ {sp : List (Int × Int)} {xs : List Nat}, (cutP xs sp).length = sp.length
  | [], _ => by simp only [cutP]; rfl
  | s :: sp, xs => by rw [cutP_cons, List.length_cons, List.length_cons, cutP_len]
theorem cutN_P : ∀ {sp : List (Int × Int)} {xs : List Nat}, (cutN xs sp).map (fun s => (s.1, byteArr s.2)) = cutP xs sp
  | [], _ => by simp only [cutP]; rfl
  | s :: sp, xs => by
    rw [cutP_cons]
    show (s.1, byteArr (natI (xs.take s.2.toNat))) :: (cutN (xs.drop s.2.toNat) sp).map _ = _
    rw [cutN_P]
    congr 2
    exact byteArr_nL _
theorem pickT_nil {v : V} {z : Str} (h : z = "") : pickT v z = strOf v := if_pos h
theorem pickT_ne {v : V} {z : Str} (h : ¬ z = "") : pickT v z = z := if_neg h
theorem mem_d {u1 u8 : V} {u2 u3 u4 u5 u6 : Int} {ln lt : Str} {ys : List Nat} : memOf ⟨u1, u2, u3, u4, u5, u6, .str "5", u8⟩ ln lt ys = .dir (pickT u1 ln) u2 u6 :=
  (if_neg (show ¬ (V.str "5" = V.str "0") by decide +kernel)).trans (if_pos rfl)
theorem mem_y {u1 u8 : V} {u2 u3 u4 u5 u6 : Int} {ln lt : Str} {ys : List Nat} : memOf ⟨u1, u2, u3, u4, u5, u6, .str "2", u8⟩ ln lt ys = .sym (pickT u1 ln) u2 u6 (pickT u8 lt) :=
  (if_neg (show ¬ (V.str "2" = V.str "0") by decide +kernel)).trans ((if_neg (show ¬ (V.str "2" = V.str "5") by decide +kernel)).trans (if_pos rfl))
theorem mem_l {u1 u8 : V} {u2 u3 u4 u5 u6 : Int} {ln lt : Str} {ys : List Nat} : memOf ⟨u1, u2, u3, u4, u5, u6, .str "1", u8⟩ ln lt ys = .lnk (pickT u1 ln) u2 u6 (pickT u8 lt) :=
  (if_neg (show ¬ (V.str "1" = V.str "0") by decide +kernel)).trans ((if_neg (show ¬ (V.str "1" = V.str "5") by decide +kernel)).trans ((if_neg (show ¬ (V.str "1" = V.str "2") by decide +kernel)).trans (if_pos rfl)))
theorem mem_s {u1 u8 : V} {u2 u3 u4 u5 u6 z : Int} {ln lt : Str} {ys : List Nat} {sp : List (Int × Int)} (em : mapN (ys.take 512) u5 = some (z, sp)) : memOf ⟨u1, u2, u3, u4, u5, u6, .str "S", u8⟩ ln lt ys = .sparse (pickT u1 ln) u2 u6 z (cutN (ys.drop 512) sp) := by
  refine (if_neg (show ¬ (V.str "S" = V.str "0") by decide +kernel)).trans ((if_neg (show ¬ (V.str "S" = V.str "5") by decide +kernel)).trans ((if_neg (show ¬ (V.str "S" = V.str "2") by decide +kernel)).trans ((if_neg (show ¬ (V.str "S" = V.str "1") by decide +kernel)).trans ?_)))
  dsimp only
  rw [em]
section
variable {P : Program} {w : World} {K : PySem.W.Frag} {mg : Str → Option Value} {base : Heap}
def spMofG (c : Cs) (C CH : Addr) : Sp := fun vs H Q _ => ∃ (x dx h dh : Addr) (v : ScV) (hv : HdV), vs = [.ref x, .ref h] ∧ H x = some (.ins C dx (scF v)) ∧ H h = some (.ins CH dh (hdF hv)) ∧ MkOk hv v.ln v.lt v.stored ∧ v.stored.length ≤ 5000 ∧ (∀ c ∈ v.stored, c < 256) ∧
  ∀ y H', Same H H' → H y = none → (memOf hv v.ln v.lt v.stored).Ins c H' y → Q (.ref y) H'
theorem ok_mofG {f C CH : Addr} {fd : FuncData} {k : Nat} {c : Cs} {t1 : Tok} (F : Fun K "member_of" "Scanner.member_of" s_Scanner_member_of f fd) (hc : ScC K C) (hh : HdC K CH) (m_BS : mg "BLOCK_SIZE" = some (.int 512 t1)) (c_rmap : CalT P w K mg base 4 "read_map" spRMapG) (c_cut : CalT P w K mg base 2 "cut" spCut)
    (mk_File : MakS P w K mg base 5 "File" c.F ["mode", "time"] (fun vs zs H Q => vs.length = 3 ∧ ∀ E, spFileI c.F (vs ++ zs) H Q E)) (mk_Dir : MakS P w K mg base 5 "Directory" c.D ["mode", "time"] (fun vs zs H Q => vs.length = 2 ∧ ∀ E, spDirI c.D (vs ++ zs) H Q E))
    (mk_Sym : MakS P w K mg base 5 "Symlink" c.Y ["mode", "time"] (fun vs zs H Q => vs.length = 3 ∧ ∀ E, spSymI c.Y (vs ++ zs) H Q E)) (mk_Link : MakS P w K mg base 5 "Link" c.L ["mode", "time"] (fun vs zs H Q => vs.length = 3 ∧ ∀ E, spSymI c.L (vs ++ zs) H Q E))
    (mk_Sparse : MakS P w K mg base 6 "Sparse" c.S ["mode", "time"] (fun vs zs H Q => ∃ b t : Int, zs = [.int b, .int t] ∧ spSpa c.S b t vs H Q)) : FnOk P w K mg base CX0 (k + 8) f fd ["self", "heading"] (spMofG c C CH) := by
  refine F.ok sc_Scanner_member_of (fun vs H Q E h => ?_) (fun cdv A outer s H vs Q E hr h => ?_)
  · obtain ⟨x, dx, h, dh, v, hv, rfl, _⟩ := h
    rfl
  · obtain ⟨x, dx, h, dh, ⟨v1, v2, v3, v4, v5, ys, ln, lt, v9, v10⟩, ⟨u1, u2, u3, u4, u5, u6, u7, u8⟩, rfl, hx, hh1, ⟨md, tm, hnm, hnz, htz, hkd⟩, hyl, hyb, q⟩ := h
    dsimp only at md tm hnm hnz htz hkd hyl hyb q
    have st : stampOk (pickT u1 ln) u2 u6 := ⟨hnm, md.1, md.2, tm.1, tm.2⟩
    have hu := hu_of hr
    have nd := sc_Scanner_member_of.nd
    refine ⟨_, (pss_cons (ps_set (i := 2) nd rfl (Or.inl rfl) (pe_ifExp (pt_cmpR op_eq (pe_fld (pv 0) rfl) pe_str (nomark _)) (pe_fld (pv 1) rfl) (pe_fld (pv 0) rfl)))
      (pss_cons (ps_set (i := 3) nd rfl (Or.inl rfl) (pe_ifExp (pt_cmpR op_eq (pe_fld (pv 0) rfl) pe_str (nomark _)) (pe_fld (pv 1) rfl) (pe_fld (pv 0) rfl)))
      (pss_cons (ps_if (pt_cmpR op_eq (pe_fld (pv 1) rfl) pe_str (nomark _))
        (pss_one (ps_ret (pe_mks mk_File hr (by omega) (by rfl) (pa_cons (pv 2) (pa_cons (pe_slice sl_Y (pe_fld (pv 0) rfl) po_none (po_some (pe_fld (pv 1) rfl))) pa_nil)) (pk_cons (pe_fld (pv 1) rfl) (pk_cons (pe_fld (pv 1) rfl) pk_nil)))))
        pss_nil)
      (pss_cons (ps_if (pt_cmpR op_eq (pe_fld (pv 1) rfl) pe_str (nomark _))
        (pss_one (ps_ret (pe_mks mk_Dir hr (by omega) (by rfl) (pa_cons (pv 2) pa_nil) (pk_cons (pe_fld (pv 1) rfl) (pk_cons (pe_fld (pv 1) rfl) pk_nil)))))
        pss_nil)
      (pss_cons (ps_if (pt_cmpR op_eq (pe_fld (pv 1) rfl) pe_str (nomark _))
        (pss_one (ps_ret (pe_mks mk_Sym hr (by omega) (by rfl) (pa_cons (pv 2) (pa_cons (pv 3) pa_nil)) (pk_cons (pe_fld (pv 1) rfl) (pk_cons (pe_fld (pv 1) rfl) pk_nil)))))
        pss_nil)
      (pss_cons (ps_if (pt_cmpR op_eq (pe_fld (pv 1) rfl) pe_str (nomark _))
        (pss_one (ps_ret (pe_mks mk_Link hr (by omega) (by rfl) (pa_cons (pv 2) (pa_cons (pv 3) pa_nil)) (pk_cons (pe_fld (pv 1) rfl) (pk_cons (pe_fld (pv 1) rfl) pk_nil)))))
        pss_nil)
      (pss_cons (ps_asg (pe_cc c_rmap hr (by omega) (by rfl) (pa_cons (pe_slice sl_Y (pe_fld (pv 0) rfl) po_none (po_some (pe_glob (v := .int 512) (by rfl) m_BS (by first | exact rfl | exact ⟨_, rfl⟩)))) (pa_cons (pe_fld (pv 1) rfl) pa_nil))) (pg_tupK K (pg_tup rfl (pgs_cons (pg_name (i := 4) nd rfl (Or.inl rfl)) (pgs_cons (pg_name (i := 5) nd rfl (Or.inl rfl)) pgs_nil)))))
      (pss_cons (ps_set (i := 6) nd rfl (Or.inl rfl) (pe_cc c_cut hr (by omega) (by rfl) (pa_cons (pe_slice sl_Y (pe_fld (pv 0) rfl) (po_some (pe_glob (v := .int 512) (by rfl) m_BS (by first | exact rfl | exact ⟨_, rfl⟩))) po_none) (pa_cons (pv 5) pa_nil))))
      (pss_one (ps_ret (pe_mksS mk_Sparse hr (by omega) (by rfl) (pa_cons (pv 2) (pa_cons (pv 4) (pa_starN K (pv 6) pa_nil))) (pk_cons (pe_fld (pv 1) rfl) (pk_cons (pe_fld (pv 1) rfl) pk_nil))))))))))))), ?_⟩
    walk_at "rd"
    refine r_fldE (v := .str ln) hx hc.cl hc.ln rfl ?_
    walk_at "rd"
    refine r_joinX (y := .str (pickT u1 ln)) ?_ (fun hT Q' k => ?_) (fun hF Q' k => ?_)
    rotate_left
    · rw [dec_str] at hT
      have e0 := of_decide_eq_true hT
      rw [pickT_nil e0, ← hnz e0] at k
      walk_at "rd"
      exact r_fldE (v := u1) hh1 hh.cl hh.nm rfl k
    · rw [dec_str] at hF
      rw [pickT_ne (of_decide_eq_false hF)] at k
      walk_at "rd"
      exact r_fldE (v := .str ln) hx hc.cl hc.ln rfl k
    walk_at "rd"
    refine r_fldE (v := .str lt) hx hc.cl hc.lt rfl ?_
    walk_at "rd"
    refine r_joinX (y := .str (pickT u8 lt)) ?_ (fun hT Q' k => ?_) (fun hF Q' k => ?_)
    rotate_left
    · rw [dec_str] at hT
      have e0 := of_decide_eq_true hT
      rw [pickT_nil e0, ← htz e0] at k
      walk_at "rd"
      exact r_fldE (v := u8) hh1 hh.cl hh.tg rfl k
    · rw [dec_str] at hF
      rw [pickT_ne (of_decide_eq_false hF)] at k
      walk_at "rd"
      exact r_fldE (v := .str lt) hx hc.cl hc.lt rfl k
    walk_at "rd"
    refine r_fldE (v := u7) hh1 hh.cl hh.kd rfl ?_
    rcases hkd with ⟨rfl, hs, s, rfl, hsl⟩ | rfl | ⟨rfl | rfl, htg⟩ | ⟨rfl, h5, z, sp, em, z0, z1, hl, hok, hls⟩
    · walk_at "rd"
      refine r_kEq ?_
      walk_at "rd"
      refine r_fldE (v := .byt (Bt.byOf ys)) hx hc.cl hc.sd rfl ?_
      walk_at "rd"
      refine r_fldE (v := .int (s : Int)) hh1 hh.cl hh.sz rfl ?_
      walk_at "rd"
      refine r_slTo (n := s) hsl (by omega) ?_
      walk_at "rd"
      refine r_fldE (v := .int u2) hh1 hh.cl hh.md rfl ?_
      walk_at "rd"
      refine r_fldE (v := .int u6) hh1 hh.cl hh.tm rfl ?_
      walk_at "rd"
      refine ⟨rfl, fun y dy hy hdy ne => ⟨rfl, fun E => ?_⟩⟩
      refine ⟨y, dy, _, _, u2, u6, rfl, upd_same, st, by rw [byOf_size, List.length_take]; omega, fun H' fr hx' => ⟨rfl, ?_⟩⟩
      refine q y H' (frame_same hy hdy fr) hy ?_
      rw [show memOf ⟨u1, u2, u3, u4, (s : Int), u6, .str "0", u8⟩ ln lt ys = .file (pickT u1 ln) u2 u6 (natI (ys.take s)) by unfold memOf; rw [if_pos rfl, Int.toNat_natCast]]
      refine ⟨dy, ?_⟩
      rw [show byteArr (natI (ys.take s)) = Bt.byOf (ys.take s) from byteArr_nL _]
      exact hx'
    · walk_at "rd"
      refine r_fldE (v := .str "5") hh1 hh.cl hh.kd rfl ?_
      walk_at "rd"
      refine r_kEq ?_
      walk_at "rd"
      refine r_fldE (v := .int u2) hh1 hh.cl hh.md rfl ?_
      walk_at "rd"
      refine r_fldE (v := .int u6) hh1 hh.cl hh.tm rfl ?_
      walk_at "rd"
      refine ⟨rfl, fun y dy hy hdy ne => ⟨rfl, fun E => ?_⟩⟩
      refine ⟨y, dy, _, u2, u6, rfl, upd_same, st, fun H' fr hx' => ⟨rfl, ?_⟩⟩
      refine q y H' (frame_same hy hdy fr) hy ?_
      rw [mem_d]
      exact ⟨dy, hx'⟩
    · walk_at "rd"
      refine r_fldE (v := .str "2") hh1 hh.cl hh.kd rfl ?_
      walk_at "rd"
      refine r_fldE (v := .str "2") hh1 hh.cl hh.kd rfl ?_
      walk_at "rd"
      refine r_kEq ?_
      walk_at "rd"
      refine r_fldE (v := .int u2) hh1 hh.cl hh.md rfl ?_
      walk_at "rd"
      refine r_fldE (v := .int u6) hh1 hh.cl hh.tm rfl ?_
      walk_at "rd"
      refine ⟨rfl, fun y dy hy hdy ne => ⟨rfl, fun E => ?_⟩⟩
      refine ⟨y, dy, _, _, u2, u6, rfl, upd_same, st, htg, fun H' fr hx' => ⟨rfl, ?_⟩⟩
      refine q y H' (frame_same hy hdy fr) hy ?_
      rw [mem_y]
      exact ⟨dy, hx'⟩
    · walk_at "rd"
      refine r_fldE (v := .str "1") hh1 hh.cl hh.kd rfl ?_
      walk_at "rd"
      refine r_fldE (v := .str "1") hh1 hh.cl hh.kd rfl ?_
      walk_at "rd"
      refine r_fldE (v := .str "1") hh1 hh.cl hh.kd rfl ?_
      walk_at "rd"
      refine r_kEq ?_
      walk_at "rd"
      refine r_fldE (v := .int u2) hh1 hh.cl hh.md rfl ?_
      walk_at "rd"
      refine r_fldE (v := .int u6) hh1 hh.cl hh.tm rfl ?_
      walk_at "rd"
      refine ⟨rfl, fun y dy hy hdy ne => ⟨rfl, fun E => ?_⟩⟩
      refine ⟨y, dy, _, _, u2, u6, rfl, upd_same, st, htg, fun H' fr hx' => ⟨rfl, ?_⟩⟩
      refine q y H' (frame_same hy hdy fr) hy ?_
      rw [mem_l]
      exact ⟨dy, hx'⟩
    · walk_at "rd"
      refine r_fldE (v := .str "S") hh1 hh.cl hh.kd rfl ?_
      walk_at "rd"
      refine r_fldE (v := .str "S") hh1 hh.cl hh.kd rfl ?_
      walk_at "rd"
      refine r_fldE (v := .str "S") hh1 hh.cl hh.kd rfl ?_
      walk_at "rd"
      refine r_fldE (v := .byt (Bt.byOf ys)) hx hc.cl hc.sd rfl ?_
      walk_at "rd"
      refine r_slTo (n := 512) h5 (by omega) ?_
      walk_at "rd"
      refine r_fldE (v := .int u5) hh1 hh.cl hh.sz rfl ?_
      walk_at "rd"
      refine ⟨ys.take 512, u5, rfl, by rw [List.length_take]; omega, fun c hc => hyb c (List.mem_of_mem_take hc), (fun hn => by rw [em] at hn; cases hn), fun z' sp' p L H1 em' e1 g1 g2 => ?_⟩
      rw [em] at em'
      cases em'
      walk_at "rd"
      refine r_fldE (v := .byt (Bt.byOf ys)) (e1 _ _ hx) hc.cl hc.sd rfl ?_
      walk_at "rd"
      refine r_slFrom (n := 512) h5 (by omega) ?_
      walk_at "rd"
      have hs0 : ∀ s ∈ sp, 0 ≤ s.2 := fun s hs => by have := (spansOk_all (Int.le_refl 0) hok s hs).2.1; omega
      refine ⟨_, L, sp, rfl, g2, hl, hs0, hls, by rw [List.length_drop]; omega, fun p2 H2 e2 hp2 => ?_⟩
      obtain ⟨as, ha1, ha2⟩ := hp2
      walk_at "rd"
      refine r_var rfl ⟨p2, as.map V.ref, rfl, .inr (SqL.of ha1), r_nil ?_⟩
      have hh2 := e2 _ _ (e1 _ _ hh1)
      walk_at "rd"
      refine r_fldE (v := .int u2) hh2 hh.cl hh.md rfl ?_
      walk_at "rd"
      refine r_fldE (v := .int u6) hh2 hh.cl hh.tm rfl ?_
      walk_at "rd"
      have hpc : pcsOk z (cutP (ys.drop 512) sp) := by
        unfold pcsOk
        rw [cutP_spans hs0 hls]
        exact hok
      refine ⟨rfl, fun y dy hy hdy ne => ⟨u2, u6, rfl, ?_⟩⟩
      rw [List.append_nil]
      refine ⟨y, dy, _, z, as, cutP (ys.drop 512) sp, rfl, upd_same, st, ?_, hpc, z0, z1, by rw [cutP_len]; exact hl, fun p' H' hp' fr gp gx => ⟨rfl, ?_⟩⟩
      · refine Paired.mapP ha2 fun q s g1 => ?_
        rw [upd_ne (ne_of_none g1 hy), upd_ne (ne_of_none g1 hdy)]
        exact g1
      · have sm := frame_same hy hdy fr
        have e12 := e1.trans e2
        refine q y H' (e12.trans sm) (e12.free hy) ?_
        rw [mem_s em]
        refine ⟨dy, p', gx, ?_⟩
        rw [cutN_P]
        exact ⟨as, gp, Paired.mapP ha2 fun q s g1 => sm _ _ g1⟩
end
/-! ### what is accepted can be made -/
theorem mapN_some {xs : List Nat} {st z : Int} {sp : List (Int × Int)} (h : mapN xs st = some (z, sp)) : (0 ≤ z ∧ z ≤ 4096) ∧ (sp.length ≤ 50 ∧ spansOk z 0 sp) ∧ filled (linesOf (numsOf z sp)) = xs ∧ st = 512 + lenS sp := by
  unfold mapN at h
  split at h
  · split at h
    · split at h
      · rename_i g
        injection h with h
        injection h with h1 h2
        subst h1 h2
        exact ⟨g.1, ⟨g.2.1.1, spansC_ok g.2.1.2⟩, g.2.2⟩
      · cases h
    · cases h
  · cases h
def TxtOk (z : Str) : Prop := z = "" ∨ nameB z = true
structure HInv (s : St) (v : HdV) : Prop where
  good : GoodH v s.ln s.lt
  tm : v.time ≤ 8589934591
  l1 : TxtOk s.ln
  l2 : TxtOk s.lt
/-- what `ended` needs -/
def EndPre (s : St) (v : HdV) : Prop := (s.stored.length : Int) < v.size ∨
  (v.size ≤ (s.stored.length : Int) ∧ ((v.kind = .str "K" ∧ nameV (textV s.stored) = true ∧ 101 ≤ (strOf (textV s.stored)).length) ∨ (v.kind = .str "L" ∧ nameV (textV s.stored) = true ∧ 101 ≤ (strOf (textV s.stored)).length) ∨ (v.kind ≠ .str "K" ∧ v.kind ≠ .str "L" ∧ MkOk v s.ln s.lt s.stored)))
theorem szOf_kinds {l : Str} {n : Int × Int} (h : szOf l = some n) : (l = "0" ∧ n = (0, 4096)) ∨ (l = "S" ∧ n = (512, 4608)) ∨ (l = "K" ∧ n = (102, 251)) ∨ (l = "L" ∧ n = (102, 251)) ∨ (l = "5" ∧ n = (0, 0)) ∨ (l = "2" ∧ n = (0, 0)) ∨ (l = "1" ∧ n = (0, 0)) := by
  rcases sz_cases h with ⟨rfl, rfl⟩ | ⟨rfl, rfl⟩ | ⟨rfl, rfl⟩ | ⟨rfl, rfl⟩ | ⟨rfl, rfl⟩ | ⟨rfl, rfl⟩ | ⟨rfl, rfl⟩ <;> simp
theorem kd_short {l : Str} {b : Bool} {lt : Str} (h : kdRightV (.str l) b lt = true) : kdInV (.str l) = b := by
  unfold kdRightV at h
  split at h
  · cases h
  · rename_i g
    exact Decidable.byContradiction fun e => g (.inr e)
theorem name_strOf {v : V} (h : nameV v = true) : v = .str (strOf v) ∧ nameB (strOf v) = true := by
  obtain ⟨z, rfl⟩ := nameV_str h
  exact ⟨rfl, h⟩
/-- a header that is accepted, of a member: the member can be made of it, but for what stands behind it -/
theorem mk_of {s : St} {v : HdV} (h : HInv s v) (hk : kdInV v.kind = false) : (0 ≤ v.mode ∧ v.mode ≤ 4095) ∧ (0 ≤ v.time ∧ v.time ≤ 8589934591) ∧ nameB (pickT v.name s.ln) = true ∧ (s.ln = "" → v.name = .str (strOf v.name)) ∧ (s.lt = "" → v.target = .str (strOf v.target)) ∧
    (inV v.kind [.str "1", .str "2"] = true → nameB (pickT v.target s.lt) = true) := by
  obtain ⟨⟨nm, md, tm, kd, tg, l, n, hl, hz, sz⟩, tb, l1, l2⟩ := h
  rw [hl] at kd hk
  have hn : v.name ≠ .str LL := fun e => by
    have := kd_short kd
    rw [hk, decide_eq_true e] at this
    cases this
  have hnm : s.ln = "" → nameV v.name = true := fun e => by
    unfold nmRightV at nm
    rw [if_pos e, decide_eq_false hn, Bool.false_or] at nm
    exact nm
  refine ⟨md hn, ⟨tm hn, tb⟩, ?_, fun e => (name_strOf (hnm e)).1, fun e => ?_, fun hi => ?_⟩
  · by_cases e : s.ln = ""
    · rw [pickT_nil e]
      exact (name_strOf (hnm e)).2
    · rw [pickT_ne e]
      exact l1.resolve_left e
  · unfold tgRightV at tg
    by_cases hi : inV v.kind [.str "1", .str "2"] = true
    · rw [if_pos hi, if_pos e] at tg
      exact (name_strOf tg).1
    · rw [if_neg hi] at tg
      rw [of_decide_eq_true tg]
      rfl
  · by_cases e : s.lt = ""
    · rw [pickT_nil e]
      unfold tgRightV at tg
      rw [if_pos hi, if_pos e] at tg
      exact (name_strOf tg).2
    · rw [pickT_ne e]
      exact l2.resolve_left e
/-- right behind a header -/
theorem pre_head {s : St} {v : HdV} (h : HInv s v) (hs : s.stored = []) : EndPre s v := by
  have hg := h.good
  obtain ⟨l, n, hl, hz, z1, z2⟩ := hg.sz
  by_cases e : (s.stored.length : Int) < v.size
  · exact .inl e
  rw [hs] at e
  have e0 : v.size ≤ 0 := by simpa using e
  have fin : kdInV v.kind = false → ((v.kind = .str "0" ∧ v.size ≤ 4096 ∧ ∃ n : Nat, v.size = n ∧ n ≤ s.stored.length) ∨ v.kind = .str "5" ∨ ((v.kind = .str "2" ∨ v.kind = .str "1") ∧ nameB (pickT v.target s.lt) = true)) → v.kind ≠ .str "K" → v.kind ≠ .str "L" → EndPre s v := fun hk hc n1 n2 => by
    obtain ⟨a1, a2, a3, a4, a5, a6⟩ := mk_of h hk
    refine .inr ⟨by rw [hs]; simpa using e0, .inr (.inr ⟨n1, n2, a1, a2, a3, a4, a5, ?_⟩)⟩
    rcases hc with hc | hc | hc
    · exact .inl hc
    · exact .inr (.inl hc)
    · exact .inr (.inr (.inl hc))
  have tgt : ∀ k : Str, v.kind = .str k → inV (.str k) [.str "1", .str "2"] = true → kdInV v.kind = false → nameB (pickT v.target s.lt) = true := fun k hk hi hn => (mk_of h hn).2.2.2.2.2 (by rw [hk]; exact hi)
  rcases szOf_kinds hz with ⟨rfl, rfl⟩ | ⟨rfl, rfl⟩ | ⟨rfl, rfl⟩ | ⟨rfl, rfl⟩ | ⟨rfl, rfl⟩ | ⟨rfl, rfl⟩ | ⟨rfl, rfl⟩
  · refine fin (by rw [hl]; decide +kernel) (.inl ⟨hl, by omega, 0, ?_, Nat.zero_le _⟩) (by rw [hl]; decide +kernel) (by rw [hl]; decide +kernel)
    have z1' : (0 : Int) ≤ v.size := z1
    omega
  · have z1' : (512 : Int) ≤ v.size := z1
    omega
  · have z1' : (102 : Int) ≤ v.size := z1
    omega
  · have z1' : (102 : Int) ≤ v.size := z1
    omega
  · exact fin (by rw [hl]; decide +kernel) (.inr (.inl hl)) (by rw [hl]; decide +kernel) (by rw [hl]; decide +kernel)
  · exact fin (by rw [hl]; decide +kernel) (.inr (.inr ⟨.inl hl, tgt "2" hl (by decide +kernel) (by rw [hl]; decide +kernel)⟩)) (by rw [hl]; decide +kernel) (by rw [hl]; decide +kernel)
  · exact fin (by rw [hl]; decide +kernel) (.inr (.inr ⟨.inr hl, tgt "1" hl (by decide +kernel) (by rw [hl]; decide +kernel)⟩)) (by rw [hl]; decide +kernel) (by rw [hl]; decide +kernel)
/-- behind a stored block that shows nothing wrong -/
theorem pre_stored {s : St} {v : HdV} {ys : List Nat} (h : HInv s v) (h0 : 0 < v.size) (h5 : 512 ≤ ys.length) (hw : wstF (strOf v.kind) v.size.toNat ys = "") : EndPre { s with stored := ys } v := by
  have hg := h.good
  obtain ⟨l, n, hl, hz, z1, z2⟩ := hg.sz
  have h' : HInv { s with stored := ys } v := ⟨h.good, h.tm, h.l1, h.l2⟩
  by_cases e : (ys.length : Int) < v.size
  · exact .inl e
  have e0 : v.size ≤ (ys.length : Int) := by omega
  rw [hl] at hw
  have hst : strOf (.str l) = l := rfl
  rw [hst] at hw
  unfold wstF at hw
  have tl : nameV (textV ys) = true ∧ textV ys = .str (txtS (stripN ys)) ∧ (((txtS (stripN ys)).length : Nat) : Int) = (v.size.toNat : Int) - 1 → (102 : Int) ≤ v.size → 101 ≤ (strOf (textV ys)).length := fun g hs => by
    have e2 : strOf (textV ys) = txtS (stripN ys) := by rw [g.2.1]; rfl
    rw [e2]
    have := g.2.2
    omega
  rcases szOf_kinds hz with ⟨rfl, rfl⟩ | ⟨rfl, rfl⟩ | ⟨rfl, rfl⟩ | ⟨rfl, rfl⟩ | ⟨rfl, rfl⟩ | ⟨rfl, rfl⟩ | ⟨rfl, rfl⟩
  · obtain ⟨a1, a2, a3, a4, a5, a6⟩ := mk_of h' (by rw [hl]; decide +kernel)
    have z2' : v.size ≤ (4096 : Int) := z2
    exact .inr ⟨e0, .inr (.inr ⟨by rw [hl]; decide +kernel, by rw [hl]; decide +kernel, a1, a2, a3, a4, a5, .inl ⟨hl, z2', v.size.toNat, by omega, by show v.size.toNat ≤ ys.length; omega⟩⟩)⟩
  · obtain ⟨a1, a2, a3, a4, a5, a6⟩ := mk_of h' (by rw [hl]; decide +kernel)
    rw [show kdIn "S" = false by decide +kernel, if_neg Bool.false_ne_true] at hw
    have e1 : (((v.size.toNat : Nat)) : Int) = v.size := by omega
    rw [e1] at hw
    split at hw
    · exact absurd hw (by decide +kernel)
    · rename_i g
      cases em : mapN (ys.take 512) v.size with
      | none => exact absurd ⟨rfl, em⟩ g
      | some p =>
        obtain ⟨z, sp⟩ := p
        obtain ⟨m1, m2, m3, m4⟩ := mapN_some em
        exact .inr ⟨e0, .inr (.inr ⟨by rw [hl]; decide +kernel, by rw [hl]; decide +kernel, a1, a2, a3, a4, a5, .inr (.inr (.inr ⟨hl, h5, z, sp, em, m1.1, m1.2, m2.1, m2.2, by show lenS sp ≤ ((ys.drop 512).length : Int); rw [List.length_drop]; omega⟩))⟩)⟩
  · rw [show kdIn "K" = true by decide +kernel, if_pos rfl] at hw
    split at hw
    · rename_i g
      exact .inr ⟨e0, .inl ⟨hl, g.1, tl g z1⟩⟩
    · exact absurd hw (by decide +kernel)
  · rw [show kdIn "L" = true by decide +kernel, if_pos rfl] at hw
    split at hw
    · rename_i g
      exact .inr ⟨e0, .inr (.inl ⟨hl, g.1, tl g z1⟩)⟩
    · exact absurd hw (by decide +kernel)
  · have z2' : v.size ≤ (0 : Int) := z2
    omega
  · have z2' : v.size ≤ (0 : Int) := z2
    omega
  · have z2' : v.size ≤ (0 : Int) := z2
    omega
/-! ### the scanner in the heap, told by its pure state -/
def HdAt (CH x : Addr) (H : Hp) (hv : V) : Option HdV → Prop
  | none => hv = .non
  | some u => ∃ h dh, hv = .ref h ∧ x ≠ h ∧ H h = some (.ins CH dh (hdF u))
def scV (s : St) (rest : List Nat) (hv : V) : ScV := ⟨s.start, s.place, s.at_, rest, hv, s.stored, s.ln, s.lt, s.zeros, s.wrong⟩
def ScAt (C CH x dx : Addr) (rest : List Nat) (H : Hp) (s : St) : Prop := ∃ hv, H x = some (.ins C dx (scF (scV s rest hv))) ∧ HdAt CH x H hv s.hd
/-- what one block has brought: nothing, or a member at its offset -/
def FndAt (c : Cs) (H H' : Hp) (D : Addr) : Option (Int × Mem) → Prop
  | none => H' D = some (.lst [])
  | some p => ∃ T y, H T = none ∧ H y = none ∧ H' D = some (.lst [.ref T]) ∧ H' T = some (.tup [.int p.1, .ref y]) ∧ p.2.Ins c H' y
def Res (c : Cs) (C CH x dx : Addr) (rest : List Nat) (H : Hp) (Q : VK) (r : St × Option (Int × Mem)) : Prop := ∀ D H', H D = none → Frame x H H' → ScAt C CH x dx rest H' r.1 → FndAt c H H' D r.2 → Q (.ref D) H'
theorem FndAt.back {c : Cs} {H H1 H' : Hp} {D : Addr} {r : Option (Int × Mem)} (n : ∀ b, H1 b = none → H b = none) (h : FndAt c H1 H' D r) : FndAt c H H' D r := by
  cases r with
  | none => exact h
  | some p =>
    obtain ⟨T, y, h1, h2, h3⟩ := h
    exact ⟨T, y, n _ h1, n _ h2, h3⟩
theorem Res.to {c : Cs} {C CH x dx : Addr} {rest : List Nat} {H H1 : Hp} {Q : VK} {r : St × Option (Int × Mem)} {o : HO} (h : Res c C CH x dx rest H Q r) (fr : Frame x H H1) (hx : H1 x = some o) : Res c C CH x dx rest H1 Q r := fun D H' hD f g1 g2 =>
  h D H' (none_fr fr hx hD) (fun b o nb eb => f _ _ nb (fr _ _ nb eb)) g1 (g2.back fun b hb => none_fr fr hx hb)
section
variable {P : Program} {w : World} {K : PySem.W.Frag} {mg : Str → Option Value} {base : Heap}
def spEndedG (c : Cs) (C CH : Addr) : Sp := fun vs H Q _ => ∃ (x dx h dh : Addr) (rest : List Nat) (s : St) (hv : HdV), vs = [.ref x] ∧ H x = some (.ins C dx (scF (scV s rest (.ref h)))) ∧ x ≠ h ∧ H h = some (.ins CH dh (hdF hv)) ∧ s.hd = some hv ∧ s.stored.length ≤ 5000 ∧ (∀ c ∈ s.stored, c < 256) ∧
  (∃ l, hv.kind = .str l) ∧ EndPre s hv ∧ Res c C CH x dx rest H Q (endedF s hv)
theorem ok_endedG {f C CH : Addr} {fd : FuncData} {k : Nat} {c : Cs} (F : Fun K "ended" "Scanner.ended" s_Scanner_ended f fd) (hc : ScC K C) (hh : HdC K CH) (m1 : mg "len" = none) (c_textin : CalT P w K mg base 2 "text_in" spTextIn) (m_mof : MetA P w K mg base 8 C "member_of" ["self", "heading"] (spMofG c C CH)) : FnOk P w K mg base CX0 (k + 9) f fd ["self"] (spEndedG c C CH) := by
  refine F.ok sc_Scanner_ended (fun vs H Q E h => ?_) (fun cdv A outer s H vs Q E hr h => ?_)
  · obtain ⟨x, dx, h, dh, rest, s, hv, rfl, _⟩ := h
    rfl
  · obtain ⟨x, dx, h, dh, rest, ⟨v1, v2, v3, hd, ys, ln, lt, zs, wr⟩, hv, rfl, hx, nxh, hh1, rfl, hyl, hy, ⟨l, hkl⟩, pre, q⟩ := h
    unfold scV at hx
    dsimp only at hyl hy hx
    unfold endedF at q
    unfold EndPre at pre
    dsimp only at q pre
    have hu := hu_of hr
    have nd := sc_Scanner_ended.nd
    have hcl := hc.cl
    have hn1 := hc.st
    have hn5 := hc.hd
    have hn7 := hc.ln
    have hn8 := hc.lt
    refine ⟨_, (pss_cons (ps_set (i := 1) nd rfl (Or.inl rfl) (pe_fld (pv 0) rfl))
      (pss_cons (ps_if (pt_cmpR op_lt (pe_callB call_rLenY (by rfl) (by assumption) (by decide +kernel) (pa_cons (pe_fld (pv 0) rfl) pa_nil)) (pe_fld (pv 1) rfl) (nomark _))
        (pss_one (ps_ret (pe_lst pa_nil)))
        pss_nil)
      (pss_cons (ps_fld (pv 0) pe_non rfl)
      (pss_cons (ps_if (pt_cmpR op_eq (pe_fld (pv 1) rfl) pe_str (nomark _))
        (pss_cons (ps_fld (pv 0) (pe_cc c_textin hr (by omega) (by rfl) (pa_cons (pe_fld (pv 0) rfl) pa_nil)) rfl)
      (pss_one (ps_ret (pe_lst pa_nil))))
        pss_nil)
      (pss_cons (ps_if (pt_cmpR op_eq (pe_fld (pv 1) rfl) pe_str (nomark _))
        (pss_cons (ps_fld (pv 0) (pe_cc c_textin hr (by omega) (by rfl) (pa_cons (pe_fld (pv 0) rfl) pa_nil)) rfl)
      (pss_one (ps_ret (pe_lst pa_nil))))
        pss_nil)
      (pss_cons (ps_set (i := 2) nd rfl (Or.inl rfl) (pe_lst (pa_cons (pe_tup (pa_cons (pe_fld (pv 0) rfl) (pa_cons (pe_mtA m_mof hr (by omega) (pv 0) (pa_cons (pv 1) pa_nil)) pa_nil))) pa_nil)))
      (pss_cons (ps_fld (pv 0) (pe_fld (pv 0) rfl) rfl)
      (pss_cons (ps_fld (pv 0) pe_str rfl)
      (pss_cons (ps_fld (pv 0) pe_str rfl)
      (pss_one (ps_ret (pv 2)))))))))))), ?_⟩
    walk_at "rd"
    refine r_fldE (v := .ref h) hx hc.cl hc.hd rfl ?_
    walk_at "rd"
    refine r_fldE (v := .byt (Bt.byOf ys)) hx hc.cl hc.sd rfl ?_
    walk_at "rd"
    refine r_rLenY (by rw [byOf_size]; exact Nat.le_trans hyl (by decide)) ?_
    walk_at "rd"
    refine r_fldE (v := .int hv.size) hh1 hh.cl hh.sz rfl ?_
    walk_at "rd"
    rw [byOf_size]
    by_cases hlt : (ys.length : Int) < hv.size
    · rw [if_pos hlt] at q
      rw [decide_eq_true hlt]
      walk_at "rd"
      rename_i D hD
      exact q D _ hD (fun b o _ eb => upd_old hD eb) ⟨.ref h, upd_old hD hx, h, dh, rfl, nxh, upd_old hD hh1⟩ upd_same
    · rw [if_neg hlt] at q
      rw [decide_eq_false hlt]
      walk_at "rd"
      have h1 : ∀ {o : HO}, upd H x o h = some (.ins CH dh (hdF hv)) := fun {o} => upd_diff nxh.symm hh1
      rcases pre with pre | ⟨hge, ⟨ek, tx, _⟩ | ⟨ek, tx, _⟩ | ⟨nk, nl, mk⟩⟩
      · exact absurd pre hlt
      · rw [if_pos ek] at q
        refine r_fldE (v := .str "K") h1 hh.cl hh.kd (by rw [← ek]; rfl) ?_
        walk_at "rd"
        refine r_kEq ?_
        walk_at "rd"
        refine r_fldE (v := .byt (Bt.byOf ys)) upd_same hc.cl hc.sd rfl ?_
        walk_at "rd"
        refine sp_textin hy (by omega) (fun H1 e1 => ?_)
        rw [(name_strOf tx).1]
        have x1 := e1 _ _ upd_same
        walk_at "rd"
        rename_i D hD
        have xD : x ≠ D := ne_of_none upd_same hD
        have h0 : H D = none := none_of xD e1 (by rw [upd_ne xD.symm] at hD; exact hD)
        exact q D _ h0 (fun b o nb eb => upd_old hD (upd_diff nb (e1 _ _ (upd_diff nb eb)))) ⟨.non, upd_old hD upd_same, rfl⟩ upd_same
      · rw [if_neg (by rw [ek]; decide +kernel), if_pos ek] at q
        refine r_fldE (v := .str "L") h1 hh.cl hh.kd (by rw [← ek]; rfl) ?_
        walk_at "rd"
        refine r_fldE (v := .str "L") h1 hh.cl hh.kd (by rw [← ek]; rfl) ?_
        walk_at "rd"
        refine r_kEq ?_
        walk_at "rd"
        refine r_fldE (v := .byt (Bt.byOf ys)) upd_same hc.cl hc.sd rfl ?_
        walk_at "rd"
        refine sp_textin hy (by omega) (fun H1 e1 => ?_)
        rw [(name_strOf tx).1]
        have x1 := e1 _ _ upd_same
        walk_at "rd"
        rename_i D hD
        have xD : x ≠ D := ne_of_none upd_same hD
        have h0 : H D = none := none_of xD e1 (by rw [upd_ne xD.symm] at hD; exact hD)
        exact q D _ h0 (fun b o nb eb => upd_old hD (upd_diff nb (e1 _ _ (upd_diff nb eb)))) ⟨.non, upd_old hD upd_same, rfl⟩ upd_same
      · rw [if_neg nk, if_neg nl] at q
        rw [hkl] at nk nl
        refine r_fldE (v := .str l) h1 hh.cl hh.kd (by rw [← hkl]; rfl) ?_
        walk_at "rd"
        refine r_kNe (fun e => nk (by rw [e])) ?_
        walk_at "rd"
        refine r_fldE (v := .str l) h1 hh.cl hh.kd (by rw [← hkl]; rfl) ?_
        walk_at "rd"
        refine r_kNe (fun e => nl (by rw [e])) ?_
        walk_at "rd"
        refine r_fldE (v := .int v1) upd_same hc.cl hc.st rfl ?_
        walk_at "rd"
        unfold tMeth
        walk_at "rd"
        refine ⟨x, dx, _, rfl, upd_same, rfl, ?_⟩
        walk_at "rd"
        refine ⟨x, dx, h, dh, ⟨v1, v2, v3, rest, .non, ys, ln, lt, zs, wr⟩, hv, rfl, upd_same, h1, mk, hyl, hy, fun y H1 s1 hy hm => ?_⟩
        have x1 := s1 _ _ upd_same
        have xy : x ≠ y := ne_of_none upd_same hy
        walk_at "rd"
        rename_i T hT D hD
        have xT : x ≠ T := ne_of_none x1 hT
        have x2 : upd H1 T (.tup [.int v1, .ref y]) x = some _ := upd_old hT x1
        have x3 : upd (upd H1 T (.tup [.int v1, .ref y])) D (.lst [.ref T]) x = some _ := upd_old hD x2
        have xD : x ≠ D := ne_of_none x2 hD
        refine r_fldE (v := .int v3) x3 hc.cl hc.at_ rfl ?_
        walk_at "rd"
        have TD : T ≠ D := ne_of_none upd_same hD
        have h1D : H1 D = none := by rw [upd_ne TD.symm] at hD; exact hD
        have h0y : H y = none := by rw [upd_ne xy.symm] at hy; exact hy
        refine q D _ (none_of xD s1 h1D) (fun b o nb eb => upd_diff nb (upd_diff nb (upd_diff nb (upd_old hD (upd_old hT (s1 _ _ (upd_diff nb eb))))))) ⟨.non, upd_same, rfl⟩ ⟨T, y, none_of xT s1 hT, h0y, ?_, ?_, (hm.frame x1 xy.symm fun b o nb eb => upd_diff nb (upd_diff nb (upd_diff nb (upd_old hD (upd_old hT eb)))))⟩
        · exact upd_diff xD.symm (upd_diff xD.symm (upd_diff xD.symm upd_same))
        · exact upd_diff xT.symm (upd_diff xT.symm (upd_diff xT.symm (upd_old hD upd_same)))
end
/-! ### the next stored block, any bytes -/
section
variable {P : Program} {w : World} {K : PySem.W.Frag} {mg : Str → Option Value} {base : Heap}
def spTstG (c : Cs) (C CH : Addr) : Sp := fun vs H Q _ => ∃ (x dx h dh : Addr) (rest : List Nat) (s : St) (hv : HdV) (bs : List Nat), vs = [.ref x, .byt (Bt.byOf bs)] ∧ H x = some (.ins C dx (scF (scV s rest (.ref h)))) ∧ x ≠ h ∧ H h = some (.ins CH dh (hdF hv)) ∧ s.hd = some hv ∧ HInv s hv ∧ 0 < hv.size ∧
  bs.length = 512 ∧ (s.stored ++ bs).length ≤ 5000 ∧ (∀ c ∈ s.stored ++ bs, c < 256) ∧ Res c C CH x dx rest H Q (storedF s hv bs)
theorem ok_tstG {f C CH : Addr} {fd : FuncData} {k : Nat} {c : Cs} (F : Fun K "take_stored" "Scanner.take_stored" s_Scanner_take_stored f fd) (hc : ScC K C) (m_wst : MetA P w K mg base 5 C "wrong_stored" ["self"] (spWstG C CH)) (m_ended : MetA P w K mg base 9 C "ended" ["self"] (spEndedG c C CH)) :
    FnOk P w K mg base CX0 (k + 10) f fd ["self", "block"] (spTstG c C CH) := by
  refine F.ok sc_Scanner_take_stored (fun vs H Q E h => ?_) (fun cdv A outer s H vs Q E hr h => ?_)
  · obtain ⟨x, dx, h, dh, rest, s, hv, bs, rfl, _⟩ := h
    rfl
  · obtain ⟨x, dx, h, dh, rest, ⟨v1, v2, v3, hd, ys, ln, lt, zs, wr⟩, hv, bs, rfl, hx, nxh, hh1, rfl, hi, h0, hb5, hyl, hy, q⟩ := h
    unfold scV at hx
    obtain ⟨l, n, hkl, _, z1, _⟩ := hi.good.sz
    have pre := fun hw => pre_stored (ys := ys ++ bs) hi h0 (by rw [List.length_append]; omega) hw
    unfold storedF at q
    dsimp only at hx hyl hy q pre
    have hu := hu_of hr
    have nd := sc_Scanner_take_stored.nd
    have hcl := hc.cl
    have hn6 := hc.sd
    have hn10 := hc.wr
    refine ⟨_, (pss_cons (ps_fld (pv 0) (pe_op op_addY (pe_fld (pv 0) rfl) (pv 1)) rfl)
      (pss_cons (ps_fld (pv 0) (pe_mtA0 m_wst hr (by omega) (pv 0)) rfl)
      (pss_cons (ps_if (pt_cmpR op_ne (pe_fld (pv 0) rfl) pe_str (nomark _))
        (pss_one (ps_ret (pe_lst pa_nil)))
        pss_nil)
      (pss_one (ps_ret (pe_mtA0 m_ended hr (by omega) (pv 0))))))), ?_⟩
    walk_at "rd"
    refine r_fldE (v := .byt (Bt.byOf ys)) hx hc.cl hc.sd rfl ?_
    walk_at "rd"
    refine r_addY (by rw [byOf_size, byOf_size, ← List.length_append]; exact Nat.le_trans hyl (by decide)) ?_
    rw [byOf_app]
    walk_at "rd"
    unfold tMeth
    walk_at "rd"
    refine ⟨x, dx, _, rfl, upd_same, rfl, ?_⟩
    walk_at "rd"
    refine ⟨x, dx, h, dh, ⟨v1, v2, v3, rest, .ref h, ys ++ bs, ln, lt, zs, wr⟩, hv, l, hv.size.toNat, rfl, upd_same, rfl, upd_diff nxh.symm hh1, by omega, hkl, by show 512 ≤ (ys ++ bs).length; rw [List.length_append]; omega, hyl, hy, fun H1 e1 => ?_⟩
    have x1 := e1 _ _ upd_same
    have h1 := e1 _ _ (upd_diff nxh.symm hh1)
    have el : strOf hv.kind = l := by rw [hkl]; rfl
    rw [el] at q pre
    dsimp only
    generalize hw : wstF l hv.size.toNat (ys ++ bs) = wf at *
    walk_at "rd"
    refine r_fldE (v := .str wf) upd_same hc.cl hc.wr rfl ?_
    walk_at "rd"
    by_cases e : wf = ""
    · subst e
      rw [if_neg (fun h => h rfl)] at q
      walk_at "rd"
      refine ⟨x, dx, _, rfl, upd_same, rfl, ?_⟩
      walk_at "rd"
      exact ⟨x, dx, h, dh, rest, ⟨v1, v2, v3, some hv, ys ++ bs, ln, lt, zs, ""⟩, hv, rfl, upd_same, nxh, upd_diff nxh.symm h1, rfl, hyl, hy, ⟨l, hkl⟩, pre rfl, q.to (fun b o nb eb => upd_diff nb (e1 _ _ (upd_diff nb eb))) upd_same⟩
    · rw [if_pos e] at q
      rw [show (!decide (V.str wf = V.str "")) = true by rw [decide_eq_false fun h => e (by injection h)]; rfl]
      walk_at "rd"
      rename_i D hD
      have xD : x ≠ D := ne_of_none upd_same hD
      have h0 : H D = none := none_of xD e1 (by rw [upd_ne xD.symm] at hD; exact hD)
      exact q D _ h0 (fun b o nb eb => upd_old hD (upd_diff nb (e1 _ _ (upd_diff nb eb)))) ⟨.ref h, upd_old hD upd_same, h, dh, rfl, nxh, upd_old hD (upd_diff nxh.symm h1)⟩ upd_same
/-! ### a header, or the first zero block, any bytes -/
def spThdG (c : Cs) (C CH : Addr) : Sp := fun vs H Q _ => ∃ (x dx : Addr) (rest : List Nat) (s : St) (bs : List Nat), vs = [.ref x, .byt (Bt.byOf bs)] ∧ H x = some (.ins C dx (scF (scV s rest .non))) ∧ s.hd = none ∧ TxtOk s.ln ∧ TxtOk s.lt ∧ bs.length = 512 ∧ (∀ c ∈ bs, c < 256) ∧
  Res c C CH x dx rest H Q (headerF s bs)
theorem TxtOk.len {z : Str} (h : TxtOk z) : z.length ≤ 5000 := by
  rcases h with rfl | h
  · exact Nat.zero_le _
  · have := (of_name h).2.1
    omega
theorem time_lt {bs : List Nat} (h : bs.length = 512) : (hdOf bs).time ≤ 8589934591 := by
  have := numN_lt (xs := (bs.drop 136).take 12) (k := 11) (by rw [List.length_take, List.length_drop]; omega)
  have e : (8 : Int) ^ 11 = 8589934592 := by decide
  rw [e] at this
  show numN ((bs.drop 136).take 12) ≤ 8589934591
  omega
theorem ok_thdG {f C CH : Addr} {fd : FuncData} {k : Nat} {c : Cs} {t1 : Tok} (F : Fun K "take_header" "Scanner.take_header" s_Scanner_take_header f fd) (hc : ScC K C) (m1 : mg "bytes" = none) (m_BS : mg "BLOCK_SIZE" = some (.int 512 t1)) (c_wfield : CalT P w K mg base 5 "wrong_field" (spWFieldG CH))
    (mk_HeadingD : MakS P w K mg base 4 "Heading" CH [] (fun vs zs H Q => vs.length = 2 ∧ ∀ E, spHdI CH (vs ++ zs) H Q E)) (m_ended : MetA P w K mg base 9 C "ended" ["self"] (spEndedG c C CH)) : FnOk P w K mg base CX0 (k + 10) f fd ["self", "block"] (spThdG c C CH) := by
  refine F.ok sc_Scanner_take_header (fun vs H Q E h => ?_) (fun cdv A outer s H vs Q E hr h => ?_)
  · obtain ⟨x, dx, rest, s, bs, rfl, _⟩ := h
    rfl
  · obtain ⟨x, dx, rest, ⟨v1, v2, v3, hd, ys, ln, lt, zs, wr⟩, bs, rfl, hx, rfl, l1, l2, hb5, hb, q⟩ := h
    unfold scV at hx
    unfold headerF at q
    dsimp only at hx l1 l2 q
    have hu := hu_of hr
    have nd := sc_Scanner_take_header.nd
    have hcl := hc.cl
    have hn5 := hc.hd
    have hn6 := hc.sd
    have hn9 := hc.zs
    have hn10 := hc.wr
    have dz : decide (V.byt (Bt.byOf bs) = V.byt (Array.replicate (512 : Int).toNat 0)) = decide (bs = List.replicate 512 0) := by
      rw [byOf_zero, dec_bytV, Bool.eq_iff_iff, decide_eq_true_iff, decide_eq_true_iff]
      exact ⟨fun h => byOf_inj2 hb (fun c hc => by rw [List.eq_of_mem_replicate hc]; decide) h, fun h => by rw [h]; rfl⟩
    refine ⟨_, (pss_cons (ps_if (PW.pt (pw_and (pt_cmpR op_eq (pv 1) (pe_callTy call_bytesN (by rfl) (by assumption) (by decide +kernel) (pa_cons (pe_glob (v := .int 512) (by rfl) m_BS (by first | exact rfl | exact ⟨_, rfl⟩)) pa_nil)) (nomark _)) (pw_and (pt_cmpR op_eq (pe_fld (pv 0) rfl) pe_str (nomark _)) (pw_and1 (pt_cmpR op_eq (pe_fld (pv 0) rfl) pe_str (nomark _))))))
        (pss_cons (ps_fld (pv 0) pe_int rfl)
      (pss_one (ps_ret (pe_lst pa_nil))))
        pss_nil)
      (pss_cons (ps_set (i := 2) nd rfl (Or.inl rfl) (pe_mks mk_HeadingD hr (by omega) (by rfl) (pa_cons (pv 1) pa_nil) pk_nil))
      (pss_cons (ps_fld (pv 0) (pe_cc c_wfield hr (by omega) (by rfl) (pa_cons (pv 1) (pa_cons (pv 2) (pa_cons (pe_fld (pv 0) rfl) (pa_cons (pe_fld (pv 0) rfl) pa_nil))))) rfl)
      (pss_cons (ps_if (pt_cmpR op_ne (pe_fld (pv 0) rfl) pe_str (nomark _))
        (pss_one (ps_ret (pe_lst pa_nil)))
        pss_nil)
      (pss_cons (ps_fld (pv 0) (pv 2) rfl)
      (pss_cons (ps_fld (pv 0) (pe_callTy0 Bt.call_rBytes0 (by rfl) (by assumption) (by decide +kernel)) rfl)
      (pss_one (ps_ret (pe_mtA0 m_ended hr (by omega) (pv 0)))))))))), ?_⟩
    walk_at "rd"
    refine r_bytesN (by decide) (by decide) ?_
    walk_at "rd"
    rw [dz]
    by_cases hz : bs = List.replicate 512 0 ∧ ln = "" ∧ lt = ""
    · obtain ⟨rfl, rfl, rfl⟩ := hz
      rw [if_pos ⟨rfl, rfl, rfl⟩] at q
      rw [decide_eq_true rfl]
      walk_at "rd"
      refine r_fldE (v := .str "") hx hc.cl hc.ln rfl ?_
      walk_at "rd"
      refine r_kEq ?_
      walk_at "rd"
      refine r_fldE (v := .str "") hx hc.cl hc.lt rfl ?_
      walk_at "rd"
      refine r_kEq ?_
      walk_at "rd"
      rename_i D hD
      have xD : x ≠ D := ne_of_none upd_same hD
      have h0 : H D = none := by rw [upd_ne xD.symm] at hD; exact hD
      exact q D _ h0 (fun b o nb eb => upd_old hD (upd_diff nb eb)) ⟨.non, upd_old hD upd_same, rfl⟩ upd_same
    rw [if_neg hz] at q
    have el : ∀ z : Str, ¬ z = "" → decide (V.str z = V.str "") = false := fun z h => decide_eq_false fun e => h (by injection e)
    have HI : wrongF bs ln lt = "" → HInv ⟨v1, v2, v3, some (hdOf bs), [], ln, lt, zs, ""⟩ (hdOf bs) := fun e => ⟨good_of e, time_lt hb5, l1, l2⟩
    by_cases ez : bs = List.replicate 512 0
    · rw [decide_eq_true ez]
      walk_at "rd"
      refine r_fldE (v := .str ln) hx hc.cl hc.ln rfl ?_
      walk_at "rd"
      by_cases e1 : ln = ""
      · have e2 : ¬ lt = "" := fun e2 => hz ⟨ez, e1, e2⟩
        rw [e1, decide_eq_true rfl]
        walk_at "rd"
        refine r_fldE (v := .str lt) hx hc.cl hc.lt rfl ?_
        walk_at "rd"
        rw [el _ e2]
        walk_at "rd"
        refine ⟨rfl, fun h dh hh0 hdh ne => ⟨rfl, fun E => ?_⟩⟩
        refine ⟨h, dh, bs, rfl, upd_same, hb5, hb, fun H1 fr h1 => ⟨rfl, ?_⟩⟩
        have s1 : Same H H1 := frame_same hh0 hdh fr
        have x1 := s1 _ _ hx
        have nxh : x ≠ h := ne_of_none hx hh0
        walk_at "rd"
        refine r_fldE (v := .str ln) x1 hc.cl hc.ln rfl ?_
        walk_at "rd"
        refine r_fldE (v := .str lt) x1 hc.cl hc.lt rfl ?_
        walk_at "rd"
        refine ⟨h, dh, bs, ln, lt, rfl, hb5, hb, l1.len, l2.len, h1, fun H2 e2 => ?_⟩
        have x2 := e2 _ _ x1
        have h2 := e2 _ _ h1
        generalize hw : wrongF bs ln lt = wf at *
        walk_at "rd"
        refine r_fldE (v := .str wf) upd_same hc.cl hc.wr rfl ?_
        walk_at "rd"
        by_cases e : wf = ""
        · subst e
          rw [if_neg (fun h => h rfl)] at q
          walk_at "rd"
          refine ⟨rfl, ?_⟩
          walk_at "rd"
          unfold tMeth
          walk_at "rd"
          refine ⟨x, dx, _, rfl, upd_same, rfl, ?_⟩
          walk_at "rd"
          have h3 := upd_diff (p := x) (o := HO.ins C dx (scF ⟨v1, v2, v3, rest, .ref h, [], ln, lt, zs, ""⟩)) nxh.symm h2
          exact ⟨x, dx, h, dh, rest, ⟨v1, v2, v3, some (hdOf bs), [], ln, lt, zs, ""⟩, hdOf bs, rfl, upd_same, nxh, upd_diff nxh.symm (upd_diff nxh.symm (upd_diff nxh.symm h2)), rfl, Nat.zero_le _, (fun c hc => nomatch hc), (HI rfl).good.sz.imp fun l ⟨_, e, _⟩ => e, pre_head (HI rfl) rfl, q.to (fun b o nb eb => upd_diff nb (upd_diff nb (upd_diff nb (e2 _ _ (s1 _ _ eb))))) upd_same⟩
        · rw [if_pos e] at q
          rw [show (!decide (V.str wf = V.str "")) = true by rw [el _ e]; rfl]
          walk_at "rd"
          rename_i D hD
          have xD : x ≠ D := ne_of_none upd_same hD
          have h0 : H2 D = none := by rw [upd_ne xD.symm] at hD; exact hD
          exact q D _ (s1.free (e2.free h0)) (fun b o nb eb => upd_old hD (upd_diff nb (e2 _ _ (s1 _ _ eb)))) ⟨.non, upd_old hD upd_same, rfl⟩ upd_same
      · rw [el _ e1]
        walk_at "rd"
        refine ⟨rfl, fun h dh hh0 hdh ne => ⟨rfl, fun E => ?_⟩⟩
        refine ⟨h, dh, bs, rfl, upd_same, hb5, hb, fun H1 fr h1 => ⟨rfl, ?_⟩⟩
        have s1 : Same H H1 := frame_same hh0 hdh fr
        have x1 := s1 _ _ hx
        have nxh : x ≠ h := ne_of_none hx hh0
        walk_at "rd"
        refine r_fldE (v := .str ln) x1 hc.cl hc.ln rfl ?_
        walk_at "rd"
        refine r_fldE (v := .str lt) x1 hc.cl hc.lt rfl ?_
        walk_at "rd"
        refine ⟨h, dh, bs, ln, lt, rfl, hb5, hb, l1.len, l2.len, h1, fun H2 e2 => ?_⟩
        have x2 := e2 _ _ x1
        have h2 := e2 _ _ h1
        generalize hw : wrongF bs ln lt = wf at *
        walk_at "rd"
        refine r_fldE (v := .str wf) upd_same hc.cl hc.wr rfl ?_
        walk_at "rd"
        by_cases e : wf = ""
        · subst e
          rw [if_neg (fun h => h rfl)] at q
          walk_at "rd"
          refine ⟨rfl, ?_⟩
          walk_at "rd"
          unfold tMeth
          walk_at "rd"
          refine ⟨x, dx, _, rfl, upd_same, rfl, ?_⟩
          walk_at "rd"
          have h3 := upd_diff (p := x) (o := HO.ins C dx (scF ⟨v1, v2, v3, rest, .ref h, [], ln, lt, zs, ""⟩)) nxh.symm h2
          exact ⟨x, dx, h, dh, rest, ⟨v1, v2, v3, some (hdOf bs), [], ln, lt, zs, ""⟩, hdOf bs, rfl, upd_same, nxh, upd_diff nxh.symm (upd_diff nxh.symm (upd_diff nxh.symm h2)), rfl, Nat.zero_le _, (fun c hc => nomatch hc), (HI rfl).good.sz.imp fun l ⟨_, e, _⟩ => e, pre_head (HI rfl) rfl, q.to (fun b o nb eb => upd_diff nb (upd_diff nb (upd_diff nb (e2 _ _ (s1 _ _ eb))))) upd_same⟩
        · rw [if_pos e] at q
          rw [show (!decide (V.str wf = V.str "")) = true by rw [el _ e]; rfl]
          walk_at "rd"
          rename_i D hD
          have xD : x ≠ D := ne_of_none upd_same hD
          have h0 : H2 D = none := by rw [upd_ne xD.symm] at hD; exact hD
          exact q D _ (s1.free (e2.free h0)) (fun b o nb eb => upd_old hD (upd_diff nb (e2 _ _ (s1 _ _ eb)))) ⟨.non, upd_old hD upd_same, rfl⟩ upd_same
    · rw [decide_eq_false ez]
      walk_at "rd"
      refine ⟨rfl, fun h dh hh0 hdh ne => ⟨rfl, fun E => ?_⟩⟩
      refine ⟨h, dh, bs, rfl, upd_same, hb5, hb, fun H1 fr h1 => ⟨rfl, ?_⟩⟩
      have s1 : Same H H1 := frame_same hh0 hdh fr
      have x1 := s1 _ _ hx
      have nxh : x ≠ h := ne_of_none hx hh0
      walk_at "rd"
      refine r_fldE (v := .str ln) x1 hc.cl hc.ln rfl ?_
      walk_at "rd"
      refine r_fldE (v := .str lt) x1 hc.cl hc.lt rfl ?_
      walk_at "rd"
      refine ⟨h, dh, bs, ln, lt, rfl, hb5, hb, l1.len, l2.len, h1, fun H2 e2 => ?_⟩
      have x2 := e2 _ _ x1
      have h2 := e2 _ _ h1
      generalize hw : wrongF bs ln lt = wf at *
      walk_at "rd"
      refine r_fldE (v := .str wf) upd_same hc.cl hc.wr rfl ?_
      walk_at "rd"
      by_cases e : wf = ""
      · subst e
        rw [if_neg (fun h => h rfl)] at q
        walk_at "rd"
        refine ⟨rfl, ?_⟩
        walk_at "rd"
        unfold tMeth
        walk_at "rd"
        refine ⟨x, dx, _, rfl, upd_same, rfl, ?_⟩
        walk_at "rd"
        have h3 := upd_diff (p := x) (o := HO.ins C dx (scF ⟨v1, v2, v3, rest, .ref h, [], ln, lt, zs, ""⟩)) nxh.symm h2
        exact ⟨x, dx, h, dh, rest, ⟨v1, v2, v3, some (hdOf bs), [], ln, lt, zs, ""⟩, hdOf bs, rfl, upd_same, nxh, upd_diff nxh.symm (upd_diff nxh.symm (upd_diff nxh.symm h2)), rfl, Nat.zero_le _, (fun c hc => nomatch hc), (HI rfl).good.sz.imp fun l ⟨_, e, _⟩ => e, pre_head (HI rfl) rfl, q.to (fun b o nb eb => upd_diff nb (upd_diff nb (upd_diff nb (e2 _ _ (s1 _ _ eb))))) upd_same⟩
      · rw [if_pos e] at q
        rw [show (!decide (V.str wf = V.str "")) = true by rw [el _ e]; rfl]
        walk_at "rd"
        rename_i D hD
        have xD : x ≠ D := ne_of_none upd_same hD
        have h0 : H2 D = none := by rw [upd_ne xD.symm] at hD; exact hD
        exact q D _ (s1.free (e2.free h0)) (fun b o nb eb => upd_old hD (upd_diff nb (e2 _ _ (s1 _ _ eb)))) ⟨.non, upd_old hD upd_same, rfl⟩ upd_same
end
/-! ### what holds between two blocks -/
structure SInv (s : St) : Prop where
  l1 : TxtOk s.ln
  l2 : TxtOk s.lt
  by_ : ∀ c ∈ s.stored, c < 256
  hd : ∀ v, s.hd = some v → HInv s v ∧ (s.stored.length : Int) < v.size ∧ s.stored.length % 512 = 0
theorem inv0 (o : Int) : SInv (st0 o) := ⟨.inl rfl, .inl rfl, (fun _ h => nomatch h), (fun _ h => nomatch h)⟩
theorem HInv.small {s : St} {v : HdV} (h : HInv s v) : v.size ≤ 4608 := by
  obtain ⟨l, n, hl, hz, z1, z2⟩ := h.good.sz
  rcases szOf_kinds hz with ⟨_, rfl⟩ | ⟨_, rfl⟩ | ⟨_, rfl⟩ | ⟨_, rfl⟩ | ⟨_, rfl⟩ | ⟨_, rfl⟩ | ⟨_, rfl⟩ <;> (dsimp only at z2; omega)
theorem ended_inv {s : St} {v : HdV} (h : HInv s v) (hp : EndPre s v) (hh : s.hd = some v) (h5 : s.stored.length % 512 = 0) (hb : ∀ c ∈ s.stored, c < 256) : SInv (endedF s v).1 := by
  unfold endedF
  by_cases e : (s.stored.length : Int) < v.size
  · rw [if_pos e]
    refine ⟨h.l1, h.l2, hb, fun u hu => ?_⟩
    have hu' : s.hd = some u := hu
    rw [hh] at hu'
    injection hu' with hu'
    subst hu'
    exact ⟨h, e, h5⟩
  rw [if_neg e]
  rcases hp with hp | ⟨_, ⟨ek, tx, _⟩ | ⟨ek, tx, _⟩ | ⟨nk, nl, _⟩⟩
  · exact absurd hp e
  · rw [if_pos ek]
    exact ⟨h.l1, .inr (name_strOf tx).2, hb, fun _ h => nomatch h⟩
  · rw [if_neg (by rw [ek]; decide +kernel), if_pos ek]
    exact ⟨.inr (name_strOf tx).2, h.l2, hb, fun _ h => nomatch h⟩
  · rw [if_neg nk, if_neg nl]
    exact ⟨.inl rfl, .inl rfl, hb, fun _ h => nomatch h⟩
theorem over_wrong {s : St} (h : ¬ s.wrong = "") : overF s = true := by
  unfold overF
  rw [decide_eq_false h]
  rfl
theorem step_inv {s : St} {bs : List Nat} (h : SInv s) (hl : bs.length = 512) (hb : ∀ c ∈ bs, c < 256) (ho : overF (stepF s bs).1 = false) : SInv (stepF s bs).1 := by
  obtain ⟨v1, v2, v3, hd, ys, ln, lt, zs, wr⟩ := s
  unfold stepF at ho ⊢
  dsimp only at ho ⊢
  cases hd with
  | some v =>
    obtain ⟨hi, hlt, h5⟩ := h.hd v rfl
    have hi' : HInv ⟨v1, v2, v3 + 512, some v, ys, ln, lt, zs, wr⟩ v := ⟨hi.good, hi.tm, hi.l1, hi.l2⟩
    dsimp only at ho ⊢ hlt h5
    unfold storedF at ho ⊢
    dsimp only at ho ⊢
    have hyb : ∀ c ∈ ys ++ bs, c < 256 := fun c hc => (List.mem_append.mp hc).elim (h.by_ c) (hb c)
    by_cases e : wstF (strOf v.kind) v.size.toNat (ys ++ bs) = ""
    · rw [if_neg (fun g => g e)]
      have p := pre_stored (s := ⟨v1, v2, v3 + 512, some v, ys, ln, lt, zs, ""⟩) (ys := ys ++ bs) ⟨hi.good, hi.tm, hi.l1, hi.l2⟩ (by omega) (by rw [List.length_append]; omega) e
      exact ended_inv ⟨hi.good, hi.tm, hi.l1, hi.l2⟩ p rfl (by show (ys ++ bs).length % 512 = 0; rw [List.length_append]; omega) hyb
    · rw [if_pos e] at ho
      rw [over_wrong e] at ho
      cases ho
  | none =>
    dsimp only at ho ⊢
    by_cases hz : zs = 0
    · rw [if_pos hz] at ho ⊢
      unfold headerF at ho ⊢
      dsimp only at ho ⊢
      by_cases e0 : bs = List.replicate 512 0 ∧ ln = "" ∧ lt = ""
      · rw [if_pos e0]
        exact ⟨h.l1, h.l2, h.by_, fun _ h => nomatch h⟩
      rw [if_neg e0] at ho ⊢
      by_cases e : wrongF bs ln lt = ""
      · rw [if_neg (fun g => g e)]
        have hi : HInv ⟨v1, v3, v3 + 512, some (hdOf bs), [], ln, lt, zs, ""⟩ (hdOf bs) := ⟨good_of e, time_lt hl, h.l1, h.l2⟩
        exact ended_inv hi (pre_head hi rfl) rfl rfl (fun _ h => nomatch h)
      · rw [if_pos e] at ho
        rw [over_wrong e] at ho
        cases ho
    · rw [if_neg hz] at ho ⊢
      by_cases e : bs = List.replicate 512 0
      · rw [if_pos e] at ho
        unfold overF at ho
        rw [show decide ((2 : Int) = 2) = true from rfl, Bool.or_true] at ho
        cases ho
      · rw [if_neg e] at ho
        rw [over_wrong (show ¬ ("end" : Str) = "" by decide +kernel)] at ho
        cases ho
/-! ### the next block, any bytes -/
section
variable {P : Program} {w : World} {K : PySem.W.Frag} {mg : Str → Option Value} {base : Heap}
def spTblG (c : Cs) (C CH : Addr) : Sp := fun vs H Q _ => ∃ (x dx : Addr) (rest : List Nat) (s : St) (bs : List Nat), vs = [.ref x, .byt (Bt.byOf bs)] ∧ ScAt C CH x dx rest H s ∧ SInv s ∧ bs.length = 512 ∧ (∀ c ∈ bs, c < 256) ∧ Res c C CH x dx rest H Q (stepF s bs)
theorem ok_tblG {f C CH : Addr} {fd : FuncData} {k : Nat} {c : Cs} {t1 : Tok} (F : Fun K "take_block" "Scanner.take_block" s_Scanner_take_block f fd) (hc : ScC K C) (m1 : mg "bytes" = none) (m_BS : mg "BLOCK_SIZE" = some (.int 512 t1)) (m_tst : MetA P w K mg base 10 C "take_stored" ["self", "block"] (spTstG c C CH))
    (m_thd : MetA P w K mg base 10 C "take_header" ["self", "block"] (spThdG c C CH)) : FnOk P w K mg base CX0 (k + 11) f fd ["self", "block"] (spTblG c C CH) := by
  refine F.ok sc_Scanner_take_block (fun vs H Q E h => ?_) (fun cdv A outer s H vs Q E hr h => ?_)
  · obtain ⟨x, dx, rest, s, bs, rfl, _⟩ := h
    rfl
  · obtain ⟨x, dx, rest, ⟨v1, v2, v3, hd, ys, ln, lt, zs, wr⟩, bs, rfl, ⟨hv, hx, hh1⟩, hi, hb5, hb, q⟩ := h
    unfold scV at hx
    unfold stepF at q
    dsimp only at q hx hh1
    have dz : decide (V.byt (Bt.byOf bs) = V.byt (Array.replicate (512 : Int).toNat 0)) = decide (bs = List.replicate 512 0) := by
      rw [byOf_zero, dec_bytV, Bool.eq_iff_iff, decide_eq_true_iff, decide_eq_true_iff]
      exact ⟨fun h => byOf_inj2 hb (fun c hc => by rw [List.eq_of_mem_replicate hc]; decide) h, fun h => by rw [h]; rfl⟩
    have hu := hu_of hr
    have nd := sc_Scanner_take_block.nd
    have hcl := hc.cl
    have hn2 := hc.pl
    have hn3 := hc.at_
    have hn9 := hc.zs
    have hn10 := hc.wr
    refine ⟨_, (pss_cons (ps_set (i := 2) nd rfl (Or.inl rfl) (pe_fld (pv 0) rfl))
      (pss_cons (ps_fldaugN K (pv 0) (pe_glob (v := .int 512) (by rfl) m_BS (by first | exact rfl | exact ⟨_, rfl⟩)) in_add)
      (pss_cons (ps_if (pt_cmpR op_notN1 (pe_fld (pv 0) rfl) pe_non (nomark _))
        (pss_one (ps_ret (pe_mtA m_tst hr (by omega) (pv 0) (pa_cons (pv 1) pa_nil))))
        pss_nil)
      (pss_cons (ps_if (pt_cmpR op_eq (pe_fld (pv 0) rfl) pe_int (nomark _))
        (pss_cons (ps_fld (pv 0) (pv 2) rfl)
      (pss_one (ps_ret (pe_mtA m_thd hr (by omega) (pv 0) (pa_cons (pv 1) pa_nil)))))
        pss_nil)
      (pss_cons (ps_if (pt_cmpR op_eq (pv 1) (pe_callTy call_bytesN (by rfl) (by assumption) (by decide +kernel) (pa_cons (pe_glob (v := .int 512) (by rfl) m_BS (by first | exact rfl | exact ⟨_, rfl⟩)) pa_nil)) (nomark _))
        (pss_one (ps_fld (pv 0) pe_int rfl))
        (pss_one (ps_fld (pv 0) pe_str rfl)))
      (pss_one (ps_ret (pe_lst pa_nil)))))))), ?_⟩
    walk_at "rd"
    refine r_fldE (v := .int v3) hx hc.cl hc.at_ rfl ?_
    walk_at "rd"
    refine r_var rfl ⟨x, C, dx, _, .int v3, rfl, hx, hcl, hn3, rfl, ?_⟩
    walk_at "rd"
    refine ⟨v3, 512, rfl, rfl, dx, _, hx, Nat.le_of_ble_eq_true rfl, ?_⟩
    walk_at "rd"
    cases hd with
    | some u =>
      obtain ⟨h, dh, rfl, nxh, hh1⟩ := hh1
      obtain ⟨hI, hlt, h5⟩ := hi.hd u rfl
      have hsm := hI.small
      dsimp only at hlt h5 q
      refine r_fldE (v := .ref h) upd_same hc.cl hc.hd rfl ?_
      walk_at "rd"
      refine ⟨rfl, ?_⟩
      rw [show (!decide (V.ref h = V.non)) = true by rw [decide_eq_false (fun e => nomatch e)]; rfl]
      walk_at "rd"
      try unfold tMeth
      walk_at "rd"
      refine ⟨x, dx, _, rfl, upd_same, rfl, ?_⟩
      walk_at "rd"
      refine ⟨x, dx, h, dh, rest, ⟨v1, v2, v3 + 512, some u, ys, ln, lt, zs, wr⟩, u, bs, rfl, upd_same, nxh, upd_diff nxh.symm hh1, rfl, ⟨hI.good, hI.tm, hI.l1, hI.l2⟩, by omega, hb5, by show (ys ++ bs).length ≤ 5000; rw [List.length_append]; omega, fun c hc => (List.mem_append.mp hc).elim (hi.by_ c) (hb c), q.to (fun b o nb eb => upd_diff nb eb) upd_same⟩
    | none =>
      obtain rfl : hv = .non := hh1
      dsimp only at q
      refine r_fldE (v := .non) upd_same hc.cl hc.hd rfl ?_
      walk_at "rd"
      refine ⟨rfl, ?_⟩
      rw [show (!decide (V.non = V.non)) = false by rw [decide_eq_true rfl]; rfl]
      walk_at "rd"
      refine r_fldE (v := .int zs) upd_same hc.cl hc.zs rfl ?_
      walk_at "rd"
      rw [dec_intV]
      by_cases hz : zs = 0
      · rw [if_pos hz] at q
        rw [decide_eq_true hz]
        walk_at "rd"
        try unfold tMeth
        walk_at "rd"
        refine ⟨x, dx, _, rfl, upd_same, rfl, ?_⟩
        walk_at "rd"
        exact ⟨x, dx, rest, ⟨v1, v3, v3 + 512, none, ys, ln, lt, zs, wr⟩, bs, rfl, upd_same, rfl, hi.l1, hi.l2, hb5, hb, q.to (fun b o nb eb => upd_diff nb (upd_diff nb eb)) upd_same⟩
      · rw [if_neg hz] at q
        rw [decide_eq_false hz]
        walk_at "rd"
        refine r_bytesN (by decide) (by decide) ?_
        walk_at "rd"
        rw [dz]
        by_cases e : bs = List.replicate 512 0
        · rw [if_pos e] at q
          rw [decide_eq_true e]
          walk_at "rd"
          rename_i D hD
          have xD : x ≠ D := ne_of_none upd_same hD
          have h0 : H D = none := by rw [upd_ne xD.symm, upd_ne xD.symm] at hD; exact hD
          exact q D _ h0 (fun b o nb eb => upd_old hD (upd_diff nb (upd_diff nb eb))) ⟨.non, upd_old hD upd_same, rfl⟩ upd_same
        · rw [if_neg e] at q
          rw [decide_eq_false e]
          walk_at "rd"
          rename_i D hD
          have xD : x ≠ D := ne_of_none upd_same hD
          have h0 : H D = none := by rw [upd_ne xD.symm, upd_ne xD.symm] at hD; exact hD
          exact q D _ h0 (fun b o nb eb => upd_old hD (upd_diff nb (upd_diff nb eb))) ⟨.non, upd_old hD upd_same, rfl⟩ upd_same
end
/-! ### any data, block by block -/
/-- the state behind k blocks, and what they have brought -/
def runK (xs : List Nat) : Nat → St → St × List (Int × Mem)
  | 0, s => (s, [])
  | k + 1, s => ((stepF (runK xs k s).1 ((xs.drop (512 * k)).take 512)).1, (runK xs k s).2 ++ (stepF (runK xs k s).1 ((xs.drop (512 * k)).take 512)).2.toList)
/-- the scanner stops behind n blocks of the data -/
structure Stop (xs : List Nat) (s : St) (n : Nat) : Prop where
  le : 512 * n ≤ xs.length
  go : ∀ j, j < n → overF (runK xs j s).1 = false
  end_ : overF (runK xs n s).1 = true ∨ xs.length < 512 * n + 512
theorem runK_len {xs : List Nat} {s : St} : ∀ n, (runK xs n s).2.length ≤ n
  | 0 => Nat.le_refl 0
  | n + 1 => by
    have ih := runK_len (xs := xs) (s := s) n
    show ((runK xs n s).2 ++ (stepF (runK xs n s).1 ((xs.drop (512 * n)).take 512)).2.toList).length ≤ n + 1
    rw [List.length_append]
    have : (stepF (runK xs n s).1 ((xs.drop (512 * n)).take 512)).2.toList.length ≤ 1 := by
      cases (stepF (runK xs n s).1 ((xs.drop (512 * n)).take 512)).2 with
      | none => exact Nat.zero_le _
      | some p => exact Nat.le_refl 1
    omega
theorem HdAt.fr {CH x : Addr} {H H' : Hp} {hv : V} {o : Option HdV} (h : HdAt CH x H hv o) (fr : Frame x H H') : HdAt CH x H' hv o := by
  cases o with
  | none => exact h
  | some u =>
    obtain ⟨a, d, e, n, g⟩ := h
    exact ⟨a, d, e, n, fr _ _ n.symm g⟩
theorem HdAt.lst {CH x D : Addr} {H : Hp} {hv : V} {o : Option HdV} {l l' : List V} (h : HdAt CH x H hv o) (hD : H D = some (.lst l)) : HdAt CH x (upd H D (.lst l')) hv o := by
  cases o with
  | none => exact h
  | some u =>
    obtain ⟨a, d, e, n, g⟩ := h
    exact ⟨a, d, e, n, upd_diff (fun e => by rw [e, hD] at g; cases g) g⟩
theorem ScAt.lst {C CH x dx D : Addr} {rest : List Nat} {H : Hp} {s : St} {l l' : List V} (h : ScAt C CH x dx rest H s) (xD : x ≠ D) (hD : H D = some (.lst l)) : ScAt C CH x dx rest (upd H D (.lst l')) s := by
  obtain ⟨hv, hx, hh⟩ := h
  exact ⟨hv, upd_diff xD hx, hh.lst hD⟩
section
variable {P : Program} {w : World} {K : PySem.W.Frag} {mg : Str → Option Value} {base : Heap}
def spTakeG (c : Cs) (C CH : Addr) : Sp := fun vs H Q _ => ∃ (x dx : Addr) (rest : List Nat) (s : St) (ys : List Nat), vs = [.ref x, .byt (Bt.byOf ys)] ∧ ScAt C CH x dx rest H s ∧ overF s = false ∧ SInv s ∧ (rest ++ ys).length ≤ 400000 ∧ (∀ c ∈ rest ++ ys, c < 256) ∧
  ∀ (D : Addr) (Ts : List Addr) (H' : Hp) (n : Nat), H D = none → Frame x H H' → Stop (rest ++ ys) s n → ScAt C CH x dx ((rest ++ ys).drop (512 * n)) H' (runK (rest ++ ys) n s).1 → H' D = some (.lst (Ts.map V.ref)) → Fnd c x H' Ts (runK (rest ++ ys) n s).2 → Q (.ref D) H'
theorem ok_takeG {f C CH : Addr} {fd : FuncData} {k : Nat} {c : Cs} {t1 : Tok} (F : Fun K "take" "Scanner.take" s_Scanner_take f fd) (hc : ScC K C) (m1 : mg "len" = none) (m_BS : mg "BLOCK_SIZE" = some (.int 512 t1)) (m_over : MetA P w K mg base 2 C "is_over" ["self"] (spOver C)) (m_tbl : MetA P w K mg base 11 C "take_block" ["self", "block"] (spTblG c C CH)) :
    FnOk P w K mg base CX0 (k + 12) f fd ["self", "data"] (spTakeG c C CH) := by
  refine F.ok sc_Scanner_take (fun vs H Q E h => ?_) (fun cdv A outer s H vs Q E hr h => ?_)
  · obtain ⟨x, dx, rest, s, ys, rfl, _⟩ := h
    rfl
  · obtain ⟨x, dx, rest, s0, ys, rfl, ⟨hv, hx, hh1⟩, ho, hi, hxl, hb, q⟩ := h
    have hu := hu_of hr
    have nd := sc_Scanner_take.nd
    have hcl := hc.cl
    generalize hxs : rest ++ ys = xs at hxl hb q
    have hyl : rest.length + ys.length = xs.length := by rw [← hxs, List.length_append]
    have ov : ∀ (s : St) (r : List Nat) (u : V), (!decide ((scV s r u).wrong = "") || decide ((scV s r u).zeros = 2)) = overF s := fun _ _ _ => rfl
    refine ⟨_, (pss_cons (ps_set (i := 2) nd rfl (Or.inl rfl) (pe_lst pa_nil))
      (pss_cons (ps_if (pt_val (pe_mtA0 m_over hr (by omega) (pv 0)))
        (pss_one (ps_ret (pv 2)))
        pss_nil)
      (pss_cons (ps_set (i := 1) nd rfl (Or.inl rfl) (pe_op op_addY (pe_fld (pv 0) rfl) (pv 1)))
      (pss_cons (ps_set (i := 3) nd rfl (Or.inl rfl) pe_int)
      (pss_cons (ps_while PassesOwn.never (PW.pt (pw_and (pt_not (pt_val (pe_mtA0 m_over hr (by omega) (pv 0)))) (pw_and1 (pt_cmpR op_le (pe_op op_add (pv 3) (pe_glob (v := .int 512) (by rfl) m_BS (by first | exact rfl | exact ⟨_, rfl⟩))) (pe_callB call_rLenY (by rfl) (by assumption) (by decide +kernel) (pa_cons (pv 1) pa_nil)) (nomark _)))))
        (pss_cons (ps_expr (pe_bm PySem.F.plainAttrs_list PySem.F.slot_list_extend PySem.F.type_list_extend mt_extend (pv 2) (pa_cons (pe_mtA m_tbl hr (by omega) (pv 0) (pa_cons (pe_slice sl_Y (pv 1) (po_some (pv 3)) (po_some (pe_op op_add (pv 3) (pe_glob (v := .int 512) (by rfl) m_BS (by first | exact rfl | exact ⟨_, rfl⟩))))) pa_nil)) pa_nil)))
      (pss_one (ps_aug (i := 3) nd rfl (Or.inl rfl) (pe_glob (v := .int 512) (by rfl) m_BS (by first | exact rfl | exact ⟨_, rfl⟩)) ip_add))))
      (pss_cons (ps_fld (pv 0) (pe_slice sl_Y (pv 1) (po_some (pv 3)) po_none) rfl)
      (pss_one (ps_ret (pv 2))))))))), ?_⟩
    walk_at "rd"
    rename_i D hD
    have xD : x ≠ D := ne_of_none hx hD
    try unfold tMeth
    walk_at "rd"
    refine ⟨x, dx, _, rfl, upd_diff xD hx, rfl, ?_⟩
    walk_at "rd"
    refine sp_over (upd_diff xD hx) ?_
    rw [ov, ho]
    walk_at "rd"
    refine r_fldE (v := .byt (Bt.byOf rest)) (upd_diff xD hx) hc.cl hc.rs rfl ?_
    walk_at "rd"
    refine r_addYW (by rw [byOf_size, byOf_size]; exact Nat.le_trans (show rest.length + ys.length ≤ 400000 by omega) (by decide)) ?_
    rw [byOf_app, hxs]
    walk_at "rd"
    refine r_while (fun mm σ H' => ∃ (n : Nat) (Ts : List Addr), σ = [some (.ref x), some (.byt (Bt.byOf xs)), some (.ref D), some (.int ((512 * n : Nat) : Int))] ∧ mm = xs.length - 512 * n ∧ 512 * n ≤ xs.length ∧ (∀ j, j < n → overF (runK xs j s0).1 = false) ∧
      ScAt C CH x dx rest H' (runK xs n s0).1 ∧ (overF (runK xs n s0).1 = false → SInv (runK xs n s0).1) ∧ Fnd c x H' Ts (runK xs n s0).2 ∧ H' D = some (.lst (Ts.map V.ref)) ∧ Frame x H H') xs.length ?_ ?_ ?_
    · exact ⟨0, [], rfl, rfl, Nat.zero_le _, (fun j hj => absurd hj (Nat.not_lt_zero j)), ⟨hv, upd_diff xD hx, hh1.fr fun b o nb eb => upd_old hD eb⟩, (fun _ => hi), .nil, upd_same, fun b o nb eb => upd_old hD eb⟩
    · rintro mm σ H' ⟨n, Ts, rfl, rfl, hn, hgo, ⟨hv', hx', hh'⟩, hinv, hf, hD', fr⟩ N hN
      generalize hs' : (runK xs n s0).1 = s' at hx' hh' hinv
      walk_at "rd"
      refine ⟨x, dx, _, rfl, hx', rfl, ?_⟩
      walk_at "rd"
      refine sp_over hx' ?_
      rw [ov]
      have fin : (overF (runK xs n s0).1 = true ∨ xs.length < 512 * n + 512) → Q (.ref D) (upd H' x (.ins C dx (scF (scV s' (xs.drop (512 * n)) hv')))) := fun hzz =>
        q D Ts _ n hD (fun b o nb eb => upd_diff nb (fr b o nb eb)) ⟨hn, hgo, hzz⟩ ⟨hv', by rw [hs']; exact upd_same, by rw [hs']; exact hh'.fr fun b o nb eb => upd_diff nb eb⟩ (upd_diff xD.symm hD') (hf.frame hx' fun b o nb eb => upd_diff nb eb)
      by_cases hz : overF s' = true
      · rw [hz]
        walk_at "rd"
        refine r_slFromW (n := 512 * n) hn (Nat.le_trans hxl (by decide)) ?_
        walk_at "rd"
        refine ⟨x, C, dx, _, rfl, hx', hcl, hc.rs, Nat.le_of_ble_eq_true rfl, ?_⟩
        walk_at "rd"
        exact fin (.inl (by rw [hs']; exact hz))
      · rw [Bool.not_eq_true] at hz
        rw [hz]
        walk_at "rd"
        refine r_rLenY (by rw [byOf_size]; exact Nat.le_trans hxl (by decide)) ?_
        walk_at "rd"
        rw [byOf_size]
        by_cases hlt : 512 * n + 512 ≤ xs.length
        · rw [decide_eq_true (by omega : ((512 * n : Nat) : Int) + 512 ≤ (xs.length : Int))]
          walk_at "rd"
          refine ⟨x, dx, _, rfl, hx', rfl, ?_⟩
          walk_at "rd"
          refine r_slMidW (i := 512 * n) (j := 512 * n + 512) hn (by omega) (Nat.le_trans hxl (by decide)) ?_
          rw [Nat.add_sub_cancel_left]
          have hbl : ((xs.drop (512 * n)).take 512).length = 512 := by rw [List.length_take, List.length_drop]; omega
          have hbb : ∀ c ∈ (xs.drop (512 * n)).take 512, c < 256 := fun c hc => hb c (List.mem_of_mem_drop (List.mem_of_mem_take hc))
          have hr1 : (runK xs (n + 1) s0).1 = (stepF s' ((xs.drop (512 * n)).take 512)).1 := by rw [← hs']; rfl
          have hr2 : (runK xs (n + 1) s0).2 = (runK xs n s0).2 ++ (stepF s' ((xs.drop (512 * n)).take 512)).2.toList := by rw [← hs']; rfl
          have hnl := runK_len (xs := xs) (s := s0) n
          generalize (xs.drop (512 * n)).take 512 = bs at *
          walk_at "rd"
          refine ⟨x, dx, rest, s', bs, rfl, ⟨hv', hx', hh'⟩, hinv hz, hbl, hbb, fun D2 H2 hD2 f2 sc2 fnd => ?_⟩
          walk_at "rd"
          have hD2' := f2 D _ xD.symm hD'
          have hTl : (Ts.map V.ref).length ≤ 800 := by
            rw [List.length_map, hf.length]
            omega
          have hf2 := hf.frame hx' f2
          have hgo' : ∀ j, j < n + 1 → overF (runK xs j s0).1 = false := fun j hj => by
            by_cases e : j < n
            · exact hgo j e
            · have : j = n := by omega
              rw [this, hs']
              exact hz
          have hinv' : overF (runK xs (n + 1) s0).1 = false → SInv (runK xs (n + 1) s0).1 := fun h => by
            rw [hr1] at h ⊢
            exact step_inv (hinv hz) hbl hbb h
          generalize stepF s' bs = st at *
          obtain ⟨s2, r2⟩ := st
          dsimp only at sc2 fnd hr1 hr2
          cases r2 with
          | none =>
            refine ⟨D, D2, Ts.map V.ref, [], rfl, rfl, hD2', fnd, Nat.le_trans (by rw [List.length_nil]; omega : _ ≤ 801) (by decide), ?_⟩
            walk_at "rd"
            refine ⟨.int ((512 * n : Nat) : Int), rfl, r_c ⟨((512 * n : Nat) : Int), 512, rfl, rfl, ?_⟩⟩
            refine hN (xs.length - 512 * (n + 1)) _ _ (by omega) ⟨n + 1, Ts, by rw [show ((512 * (n + 1) : Nat) : Int) = ((512 * n : Nat) : Int) + 512 by push_cast; omega]; rfl, rfl, by omega, hgo', ?_, hinv', ?_, by rw [upd_same, List.append_nil], fun b o nb eb => ?_⟩
            · rw [hr1]
              exact sc2.lst xD hD2'
            · rw [hr2, Option.toList_none, List.append_nil, List.append_nil]
              exact hf2.lst hD2'
            · exact upd_diff (fun e => by rw [e, hD] at eb; cases eb) (f2 _ _ nb (fr _ _ nb eb))
          | some p =>
            obtain ⟨T, y, hT, hy, g1, g2, g3⟩ := fnd
            refine ⟨D, D2, Ts.map V.ref, [.ref T], rfl, rfl, hD2', g1, Nat.le_trans (by rw [List.length_singleton]; omega : _ ≤ 801) (by decide), ?_⟩
            walk_at "rd"
            refine ⟨.int ((512 * n : Nat) : Int), rfl, r_c ⟨((512 * n : Nat) : Int), 512, rfl, rfl, ?_⟩⟩
            have hyx : y ≠ x := fun e => by
              rw [e, hx'] at hy
              cases hy
            refine hN (xs.length - 512 * (n + 1)) _ _ (by omega) ⟨n + 1, Ts ++ [T], by rw [show ((512 * (n + 1) : Nat) : Int) = ((512 * n : Nat) : Int) + 512 by push_cast; omega]; rfl, rfl, by omega, hgo', ?_, hinv', ?_, by rw [upd_same, List.map_append]; rfl, fun b o nb eb => ?_⟩
            · rw [hr1]
              exact sc2.lst xD hD2'
            · rw [hr2, Option.toList_some]
              exact Fnd.lst (paired_snoc hf2 ⟨y, hyx, g2, g3⟩) hD2'
            · exact upd_diff (fun e => by rw [e, hD] at eb; cases eb) (f2 _ _ nb (fr _ _ nb eb))
        · rw [decide_eq_false (by omega : ¬ ((512 * n : Nat) : Int) + 512 ≤ (xs.length : Int))]
          walk_at "rd"
          refine r_slFromW (n := 512 * n) hn (Nat.le_trans hxl (by decide)) ?_
          walk_at "rd"
          refine ⟨x, C, dx, _, rfl, hx', hcl, hc.rs, Nat.le_of_ble_eq_true rfl, ?_⟩
          walk_at "rd"
          exact fin (.inr (by omega))
    · rintro σ H Q Q' h ⟨v0, a0, a, b, fs, a1, a2, a3, x', dx', v', a4, a5, k, a6, q⟩
      refine ⟨v0, a0, a, b, fs, a1, a2, a3, x', dx', v', a4, a5, k, a6, ?_⟩
      cases k with
      | true =>
        rw [if_neg (by decide)] at q ⊢
        exact h _ _ q
      | false =>
        rw [if_pos (by decide)] at q ⊢
        obtain ⟨v3, b1, i, j, b2, b3, v1, b4, y, b5, b6, i2, j2, b7, b8, k2, b9, q⟩ := q
        exact ⟨v3, b1, i, j, b2, b3, v1, b4, y, b5, b6, i2, j2, b7, b8, k2, b9, h _ _ q⟩
end
abbrev s_check_end : Stmt := topS 87
abbrev N_check_end : List Str := ["scanner"]
theorem sc_check_end : FnScope N_check_end ["scanner"] (defScope s_check_end) := ⟨rfl, rfl, rfl, by decide +kernel, rfl, by decide +kernel, by decide +kernel⟩
/-! ### reading a right archive -/
section
variable {P : Program} {w : World} {K : PySem.W.Frag} {mg : Str → Option Value} {base : Heap}
def spCDataR : Sp := fun vs H Q _ => ∃ y : Array UInt8, vs = [.byt y] ∧ Q .non H
theorem ok_cdataR {f : Addr} {fd : FuncData} {k : Nat} (F : Fun K "check_data" "check_data" s_check_data_reading f fd) (m1 : mg "isinstance" = none) (m2 : mg "bytes" = none) : FnOk P w K mg base CX0 (k + 2) f fd ["thing"] spCDataR := by
  refine F.ok sc_check_data_reading (fun vs H Q E h => ?_) (fun cdv A outer s H vs Q E hr h => ?_)
  · obtain ⟨y, rfl, _⟩ := h
    rfl
  · obtain ⟨y, rfl, q⟩ := h
    have hu := hu_of hr
    have nd := sc_check_data_reading.nd
    refine ⟨_, (pss_one (ps_if (pt_not (pt_val (pe_callB (call_isiK1 K) (by rfl) (by assumption) (by decide +kernel) (pa_cons (pv 0) (pa_cons (pe_bltn (v := .ty "bytes") (by rfl) (by assumption) (by decide +kernel) rfl) pa_nil)))))
        (pss_one ps_never)
        pss_nil)), ?_⟩
    walk_at "rd"
    exact q
def spCSrc : Sp := fun vs H Q _ => ∃ (y : Array UInt8) (o : Nat), vs = [.byt y, .int (o : Int)] ∧ y.size ≤ 1000000 ∧ o ≤ y.size ∧ Q .non H
theorem ok_csrc {f : Addr} {fd : FuncData} {k : Nat} (F : Fun K "check_source" "check_source" s_check_source f fd) (m1 : mg "len" = none) (c_cdataR : CalT P w K mg base 2 "check_data_reading" spCDataR) (c_within : CalT P w K mg base 2 "is_integer_within" spWithin) : FnOk P w K mg base CX0 (k + 3) f fd ["data", "offset"] spCSrc := by
  refine F.ok sc_check_source (fun vs H Q E h => ?_) (fun cdv A outer s H vs Q E hr h => ?_)
  · obtain ⟨y, o, rfl, _⟩ := h
    rfl
  · obtain ⟨y, o, rfl, hz, ho, q⟩ := h
    have hu := hu_of hr
    have nd := sc_check_source.nd
    refine ⟨_, (pss_cons (ps_expr (pe_cc c_cdataR hr (by omega) (by rfl) (pa_cons (pv 0) pa_nil)))
      (pss_one (ps_if (pt_not (pt_val (pe_cc c_within hr (by omega) (by rfl) (pa_cons (pv 1) (pa_cons pe_int (pa_cons (pe_callB call_rLenY (by rfl) (by assumption) (by decide +kernel) (pa_cons (pv 0) pa_nil)) pa_nil))))))
        (pss_one ps_never)
        pss_nil))), ?_⟩
    walk_at "rd"
    refine ⟨y, rfl, ?_⟩
    walk_at "rd"
    refine r_rLenY (Nat.le_trans hz (by decide)) ?_
    walk_at "rd"
    refine sp_within ?_
    rw [decide_eq_true (by omega : (0 : Int) ≤ (o : Int)), decide_eq_true (by omega : (o : Int) ≤ (y.size : Int))]
    walk_at "rd"
    exact q
def spCEnd (C : Addr) : Sp := fun vs H Q _ => ∃ (x dx : Addr) (v : ScV), vs = [.ref x] ∧ H x = some (.ins C dx (scF v)) ∧ v.wrong = "" ∧ v.zeros = 2 ∧ Q .non H
theorem ok_cend {f C : Addr} {fd : FuncData} {k : Nat} (F : Fun K "check_end" "check_end" s_check_end f fd) (hc : ScC K C) (m_over : MetA P w K mg base 2 C "is_over" ["self"] (spOver C)) : FnOk P w K mg base CX0 (k + 3) f fd ["scanner"] (spCEnd C) := by
  refine F.ok sc_check_end (fun vs H Q E h => ?_) (fun cdv A outer s H vs Q E hr h => ?_)
  · obtain ⟨x, dx, v, rfl, _⟩ := h
    rfl
  · obtain ⟨x, dx, v, rfl, hx, hw, hz, q⟩ := h
    have hu := hu_of hr
    have nd := sc_check_end.nd
    refine ⟨_, (pss_cons (ps_if (pt_cmpR op_ne (pe_fld (pv 0) rfl) pe_str (nomark _))
        (pss_one ps_never)
        pss_nil)
      (pss_one (ps_if (pt_not (pt_val (pe_mtA0 m_over hr (by omega) (pv 0))))
        (pss_one ps_never)
        pss_nil))), ?_⟩
    walk_at "rd"
    refine r_fldE (v := .str v.wrong) hx hc.cl hc.wr rfl ?_
    rw [hw]
    walk_at "rd"
    try unfold tMeth
    walk_at "rd"
    refine ⟨x, dx, _, rfl, hx, rfl, ?_⟩
    walk_at "rd"
    refine sp_over hx ?_
    rw [hw, hz]
    walk_at "rd"
    exact q
end
/-- the pairs of offsets and members at the addresses, with no scanner about -/
def Fnd0 (c : Cs) (H : Hp) (Ts : List Addr) (ps : List (Int × Mem)) : Prop := Paired (fun T (p : Int × Mem) => ∃ y : Addr, H T = some (.tup [.int p.1, .ref y]) ∧ p.2.Ins c H y) Ts ps
theorem Fnd0.same {c : Cs} {H H' : Hp} {Ts : List Addr} {ps : List (Int × Mem)} (h : Fnd0 c H Ts ps) (e : Same H H') : Fnd0 c H' Ts ps := Paired.mapP h fun T p ⟨y, a, b⟩ => ⟨y, e _ _ a, b.same e⟩
/-! ### scan of any data -/
inductive Tr where
  | fine
  | torn (o : Int)
  | wrong (o : Int) (z : Str)
def troF (s : St) : Tr := if s.wrong = "" then (if s.zeros = 2 then .fine else .torn s.start) else .wrong s.place s.wrong
def TrAt (H : Hp) (v : V) : Tr → Prop
  | .fine => v = .non
  | .torn o => ∃ t, v = .ref t ∧ H t = some (.tup [.str "torn", .int o])
  | .wrong o z => ∃ t, v = .ref t ∧ H t = some (.tup [.str "wrong", .int o, .str z])
theorem TrAt.same {H H' : Hp} {v : V} {t : Tr} (h : TrAt H v t) (e : Same H H') : TrAt H' v t := by
  cases t with
  | fine => exact h
  | torn o => obtain ⟨t, e1, e2⟩ := h; exact ⟨t, e1, e _ _ e2⟩
  | wrong o z => obtain ⟨t, e1, e2⟩ := h; exact ⟨t, e1, e _ _ e2⟩
/-! ### members compared: the rules -/
noncomputable instance : DecidableEq Mem := fun _ _ => Classical.propDecidable _
structure EqF (K : PySem.W.Frag) (C f : Addr) : Prop where
  eq : PySem.W.findIn K (.ref C) "__eq__" = some (some (.ref f))
  fn : PySem.W.isFn K (.ref f) = true
  ne : PySem.W.findIn K (.ref C) "__ne__" = some (some (.builtin "object.__ne__"))
  ob : PySem.W.subIn K (.ref C) (.type "object") = some true
/-- what an __eq__ of the class at C promises: False for what is no C; R tells the answer of two -/
def spEqM (K : PySem.W.Frag) (C : Addr) (R : Addr → Addr → Hp → Bool → Prop) : Sp := fun vs H Q _ => ∃ a u, vs = [.ref a, u] ∧
  ((∃ t, TyX K H u t ∧ PySem.W.kitOne K t (.ref C) = some false ∧ Q (.bl false) H) ∨ ∃ b r, u = .ref b ∧ R a b H r ∧ Q (.bl r) H)
structure EqT (P : Program) (w : World) (K : PySem.W.Frag) (mg : Str → Option Value) (base : Heap) (k : Nat) (C : Addr) (R : Addr → Addr → Hp → Bool → Prop) : Prop where
  ex : ∃ f, EqF K C f ∧ FnR P w K mg base CX0 k f (spEqM K C R)
/-! ### the pieces of two sparse files -/
theorem all_eq {α : Type} [DecidableEq α] (xs ys : List α) : ((List.range (min xs.length ys.length)).all (fun j => decide (xs[j]? = ys[j]?)) && xs.length == ys.length) = decide (xs = ys) := by
  rw [Bool.eq_iff_iff]
  simp only [Bool.and_eq_true, List.all_eq_true, List.mem_range, decide_eq_true_eq, beq_iff_eq]
  constructor
  · rintro ⟨h1, h2⟩
    apply List.ext_getElem? 
    intro j
    by_cases hj : j < xs.length
    · exact h1 j (by omega)
    · rw [List.getElem?_eq_none (by omega), List.getElem?_eq_none (by omega)]
  · rintro rfl
    exact ⟨fun _ _ => rfl, rfl⟩
section
variable {X : Cx} {pins : List (Addr × Obj)} {σ : L2.St} {H : Hp} {s : Shared} {A : Around}
theorem eqAt_byt (x y : Array UInt8) (t u : Tok) : SeqAt.EqAt A s (.bytes x t) (.bytes y u) (decide (x = y)) := fun prog w E Q h => PySem.W.eqBool_bytes (by
  rw [show decide (x.toList = y.toList) = decide (x = y) by rw [Bool.eq_iff_iff]; simp]
  exact h)
theorem eqAt_pair (I : Inv X pins σ H s) (hu : A.units < cLine) {q r : Addr} {i j : Int} {x y : Array UInt8} (h1 : H q = some (.tup [.int i, .byt x])) (h2 : H r = some (.tup [.int j, .byt y])) : SeqAt.EqAt A s (.ref q) (.ref r) (decide ((i, x) = (j, y))) := by
  by_cases hqr : q = r
  · subst hqr
    rw [h1] at h2
    injection h2 with h2
    injection h2 with h2
    injection h2 with e1 h2
    injection h2 with e2 _
    injection e1 with e1
    injection e2 with e2
    subst e1 e2
    rw [decide_eq_true rfl]
    exact SeqAt.EqAt.same _
  · obtain ⟨its, r1, p1, _⟩ := I.tuple (SqT.of h1)
    obtain ⟨its2, r2, p2, _⟩ := I.tuple (SqT.of h2)
    obtain ⟨u1, u2, rfl, v1, v2⟩ := vals2 r1
    obtain ⟨w1, w2, rfl, z1, z2⟩ := vals2 r2
    obtain ⟨t1, rfl⟩ := (show ∃ t, u1 = Value.int i t from v1)
    obtain ⟨t2, rfl⟩ := (show ∃ t, u2 = Value.bytes x t from v2)
    obtain ⟨t3, rfl⟩ := (show ∃ t, w1 = Value.int j t from z1)
    obtain ⟨t4, rfl⟩ := (show ∃ t, w2 = Value.bytes y t from z2)
    have h := SeqAt.RcAt.tuples (A := A) (e := fun k => if k = 0 then (i == j) else decide (x = y)) p1 p2 hu (fun k g1 g2 => by
      match k, g1, g2 with
      | 0, _, _ => exact SeqAt.EqAt.int_int i t1 j t3
      | 1, _, _ => exact eqAt_byt x y t2 t4)
    have e : ((List.range (min #[Value.int i t1, Value.bytes x t2].size #[Value.int j t3, Value.bytes y t4].size)).all (fun k => if k = 0 then (i == j) else decide (x = y)) && #[Value.int i t1, Value.bytes x t2].size == #[Value.int j t3, Value.bytes y t4].size) = decide ((i, x) = (j, y)) := by
      show ((List.range 2).all _ && true) = _
      rw [Bool.eq_iff_iff]
      simp [List.range_succ]
    have e' := e
    refine SeqAt.EqAt.of_refs hqr ?_
    rw [← e']
    exact h
def rEqPc : R2 := fun x y H Q => ∃ p r ps rs, x = .ref p ∧ y = .ref r ∧ PcsT H p ps ∧ PcsT H r rs ∧ Q (.bl (decide (ps = rs))) H
theorem op_eqPc (hu : X.A.units + 2 < cLine) : OpR X (compareOp .Eq) rEqPc := by
  intro pins s σ H x y v u Q I rx ry h
  obtain ⟨p, r, ps, rs, rfl, rfl, ⟨as, h1, ha⟩, ⟨bs, h2, hb⟩, q⟩ := h
  cases (show v = Value.ref p from rx)
  cases (show u = Value.ref r from ry)
  obtain ⟨its, r1, p1, _⟩ := I.tuple (SqT.of h1)
  obtain ⟨its2, r2, p2, _⟩ := I.tuple (SqT.of h2)
  have l1 := ha.length
  have l2 := hb.length
  have g1 := r1.length
  have g2 := r2.length
  rw [List.length_map] at g1 g2
  have h := SeqAt.RcAt.tuples (A := X.A) (e := fun k => decide (ps[k]? = rs[k]?)) p1 p2 (by omega) (fun k k1 k2 => by
    have k1' : k < its.length := by simpa using k1
    have k2' : k < its2.length := by simpa using k2
    obtain ⟨a, ha1⟩ : ∃ a, as[k]? = some a := ⟨as[k]'(by omega), List.getElem?_eq_getElem _⟩
    obtain ⟨b, hb1⟩ : ∃ b, bs[k]? = some b := ⟨bs[k]'(by omega), List.getElem?_eq_getElem _⟩
    obtain ⟨sa, hsa, ea⟩ := paired_at ha ha1
    obtain ⟨sb, hsb, eb⟩ := paired_at hb hb1
    obtain ⟨u1, hu1, ru1⟩ := r1.get (i := k) (x := .ref a) (by rw [List.getElem?_map, ha1]; rfl)
    obtain ⟨u2, hu2, ru2⟩ := r2.get (i := k) (x := .ref b) (by rw [List.getElem?_map, hb1]; rfl)
    cases (show u1 = Value.ref a from ru1)
    cases (show u2 = Value.ref b from ru2)
    have e1 : its.toArray[k] = Value.ref a := by
      have := List.getElem?_eq_getElem k1'
      rw [hu1] at this
      simpa using (Option.some.inj this).symm
    have e2 : its2.toArray[k] = Value.ref b := by
      have := List.getElem?_eq_getElem k2'
      rw [hu2] at this
      simpa using (Option.some.inj this).symm
    rw [e1, e2, hsa, hsb]
    have := eqAt_pair (A := X.A.in1) I (show X.A.in1.units < cLine from by show X.A.units + 1 < cLine; omega) ea eb
    rw [show decide (some sa = some sb) = decide ((sa.1, sa.2) = (sb.1, sb.2)) by rw [Bool.eq_iff_iff]; simp [Prod.ext_iff]]
    exact this)
  refine h X.prog X.w _ _ ⟨.bl (decide (ps = rs)), H, I, ?_, q⟩
  show Value.bool _ = Value.bool _
  rw [← all_eq, List.size_toArray, List.size_toArray, ← g1, ← g2, l1, l2]
end
theorem byteArr_ints {ns : List Int} (h : ns.all inByte = true) : (byteArr ns).toList.map (fun c => (c.toNat : Int)) = ns := by
  unfold byteArr
  rw [List.all_eq_true] at h
  simp only [List.map_map]
  refine (List.map_congr_left (g := id) fun i hi => ?_).trans (List.map_id _)
  have hb := h i hi
  unfold inByte at hb
  rw [Bool.and_eq_true, decide_eq_true_iff, decide_eq_true_iff] at hb
  show ((i.toNat.toUInt8.toNat : Nat) : Int) = i
  rw [show i.toNat.toUInt8.toNat = i.toNat % 256 from rfl]
  omega
/-! ### the members' own __eq__ -/
theorem kit_self {K : PySem.W.Frag} {C : Addr} : PySem.W.kitOne K (.ref C) (.ref C) = some true := by
  unfold PySem.W.kitOne
  rw [if_pos (beq_self_eq_true _)]
theorem byteArr_inj {x y : List Int} (hx : x.all inByte = true) (hy : y.all inByte = true) (h : byteArr x = byteArr y) : x = y := by
  rw [← byteArr_ints hx, ← byteArr_ints hy, h]
theorem byt_iff {x y : List Int} (hx : x.all inByte = true) (hy : y.all inByte = true) : (V.byt (byteArr x) = V.byt (byteArr y)) ↔ x = y := ⟨fun h => byteArr_inj hx hy (by injection h), fun h => by rw [h]⟩
theorem pcs_iff : ∀ {x y : List (Int × List Int)}, (∀ s ∈ x, s.2.all inByte = true) → (∀ s ∈ y, s.2.all inByte = true) → ((x.map fun s => (s.1, byteArr s.2)) = (y.map fun s => (s.1, byteArr s.2)) ↔ x = y)
  | [], [], _, _ => by simp
  | [], _ :: _, _, _ => by simp
  | _ :: _, [], _, _ => by simp
  | a :: x, b :: y, hx, hy => by
    have ih := pcs_iff (x := x) (y := y) (fun s hs => hx s (List.mem_cons_of_mem _ hs)) (fun s hs => hy s (List.mem_cons_of_mem _ hs))
    rw [List.map_cons, List.map_cons, List.cons.injEq, List.cons.injEq, ih]
    refine and_congr_left fun _ => ⟨fun h => ?_, fun h => by rw [h]⟩
    obtain ⟨h1, h2⟩ := Prod.mk.injEq .. ▸ h
    exact Prod.ext h1 (byteArr_inj (hx a List.mem_cons_self) (hy b List.mem_cons_self) h2)
def RF (C : Addr) : Addr → Addr → Hp → Bool → Prop := fun a c H r => ∃ dx dy n b t ns n2 b2 t2 ns2, H a = some (.ins C dx (fileF n (byteArr ns) b t)) ∧ H c = some (.ins C dy (fileF n2 (byteArr ns2) b2 t2)) ∧ ns.all inByte = true ∧ ns2.all inByte = true ∧ r = decide (Mem.file n b t ns = Mem.file n2 b2 t2 ns2)
def RD (C : Addr) : Addr → Addr → Hp → Bool → Prop := fun a c H r => ∃ dx dy n b t n2 b2 t2, H a = some (.ins C dx (dirF n b t)) ∧ H c = some (.ins C dy (dirF n2 b2 t2)) ∧ r = decide (Mem.dir n b t = Mem.dir n2 b2 t2)
def RY (C : Addr) : Addr → Addr → Hp → Bool → Prop := fun a c H r => ∃ dx dy n b t g n2 b2 t2 g2, H a = some (.ins C dx (symF n g b t)) ∧ H c = some (.ins C dy (symF n2 g2 b2 t2)) ∧ r = decide (Mem.sym n b t g = Mem.sym n2 b2 t2 g2)
def RL (C : Addr) : Addr → Addr → Hp → Bool → Prop := fun a c H r => ∃ dx dy n b t g n2 b2 t2 g2, H a = some (.ins C dx (symF n g b t)) ∧ H c = some (.ins C dy (symF n2 g2 b2 t2)) ∧ r = decide (Mem.lnk n b t g = Mem.lnk n2 b2 t2 g2)
def RS (C : Addr) : Addr → Addr → Hp → Bool → Prop := fun a c H r => ∃ dx dy n b t z sp n2 b2 t2 z2 sp2 p p2, H a = some (.ins C dx (spaF n z p b t)) ∧ H c = some (.ins C dy (spaF n2 z2 p2 b2 t2)) ∧ PcsT H p (sp.map fun s => (s.1, byteArr s.2)) ∧ PcsT H p2 (sp2.map fun s => (s.1, byteArr s.2)) ∧
  (∀ s ∈ sp, s.2.all inByte = true) ∧ (∀ s ∈ sp2, s.2.all inByte = true) ∧ r = decide (Mem.sparse n b t z sp = Mem.sparse n2 b2 t2 z2 sp2)
section
variable {P : Program} {w : World} {K : PySem.W.Frag} {mg : Str → Option Value} {base : Heap}
theorem ok_eqDirectory {f aM : Addr} {fd : FuncData} {k : Nat} {c : Cs} (F : Fun K "__eq__" "Directory.__eq__" s_Directory___eq__ f fd) (m1 : mg "isinstance" = none) (m_D : mg "Directory" = some (.ref c.D)) (cf : CF K c.D aM "directory") : FnOk P w K mg base CX0 (k + 2) f fd ["self", "other"] (spEqM K c.D (RD c.D)) := by
  refine F.ok sc_Directory___eq__ (fun vs H Q E h => ?_) (fun cdv A outer s H vs Q E hr h => ?_)
  · obtain ⟨a, u, rfl, _⟩ := h
    rfl
  · obtain ⟨a, u, rfl, h⟩ := h
    have hu := hu_of hr
    have hu64 := hr.units
    have nd := sc_Directory___eq__.nd
    refine ⟨_, (pss_one (ps_ret (pe_and (pe_callB (call_isiK1 K) (by rfl) (by assumption) (by decide +kernel) (pa_cons (pv 1) (pa_cons (pe_glob (v := .ref c.D) (by rfl) m_D (by first | exact rfl | exact ⟨_, rfl⟩)) pa_nil))) (pe_and (pe_cmpR op_eq (pe_fld (pv 0) rfl) (pe_fld (pv 1) rfl) (nomark _)) (pe_and (pe_cmpR op_eq (pe_fld (pv 0) rfl) (pe_fld (pv 1) rfl) (nomark _)) (pe_one (pe_cmpR op_eq (pe_fld (pv 0) rfl) (pe_fld (pv 1) rfl) (nomark _)))))))), ?_⟩
    rcases h with ⟨t0, ht, hk, q⟩ | ⟨d, r, rfl, h, q⟩
    · walk_at "rd"
      refine ⟨u, .ref c.D, t0, .ref c.D, false, rfl, .own _, ht, hk, ?_⟩
      walk_at "rd"
      exact q
    · obtain ⟨dx, dy, n, b, t, n2, b2, t2, h1, h2, rfl⟩ := h
      walk_at "rd"
      refine ⟨.ref d, .ref c.D, .ref c.D, .ref c.D, true, rfl, .own _, .base (.ins h2 cf.cl cf.ha cf.hn cf.htk cf.hm), kit_self, ?_⟩
      walk_at "rd"
      refine r_fldE h1 cf.cl cf.n1 rfl ?_
      walk_at "rd"
      refine r_fldE h2 cf.cl cf.n1 rfl ?_
      walk_at "rd"
      refine r_iteD (fun e => ?_) (fun e => ?_)
      case refine_2 =>
        refine (congrArg (fun z => Q (.bl z) _) (decide_eq_false ?_)).mp q
        intro e2
        apply e
        injection e2
        simp [*]
      have ee : n = n2 := by injection e
      subst ee
      walk_at "rd"
      refine r_fldE h1 cf.cl cf.n2 rfl ?_
      walk_at "rd"
      refine r_fldE h2 cf.cl cf.n2 rfl ?_
      walk_at "rd"
      refine r_iteD (fun e => ?_) (fun e => ?_)
      case refine_2 =>
        refine (congrArg (fun z => Q (.bl z) _) (decide_eq_false ?_)).mp q
        intro e2
        apply e
        injection e2
        simp [*]
      have ee : b = b2 := by injection e
      subst ee
      walk_at "rd"
      refine r_fldE h1 cf.cl cf.n3 rfl ?_
      walk_at "rd"
      refine r_fldE h2 cf.cl cf.n3 rfl ?_
      walk_at "rd"
      refine (congrArg (fun z => Q (.bl z) _) ?_).mp q
      simp
theorem ok_eqFile {f aM : Addr} {fd : FuncData} {k : Nat} {c : Cs} (F : Fun K "__eq__" "File.__eq__" s_File___eq__ f fd) (m1 : mg "isinstance" = none) (m_F : mg "File" = some (.ref c.F)) (cf : CF K c.F aM "file") (tX : NoAttr K c.F "data") : FnOk P w K mg base CX0 (k + 2) f fd ["self", "other"] (spEqM K c.F (RF c.F)) := by
  refine F.ok sc_File___eq__ (fun vs H Q E h => ?_) (fun cdv A outer s H vs Q E hr h => ?_)
  · obtain ⟨a, u, rfl, _⟩ := h
    rfl
  · obtain ⟨a, u, rfl, h⟩ := h
    have hu := hu_of hr
    have hu64 := hr.units
    have nd := sc_File___eq__.nd
    refine ⟨_, (pss_one (ps_ret (pe_and (pe_callB (call_isiK1 K) (by rfl) (by assumption) (by decide +kernel) (pa_cons (pv 1) (pa_cons (pe_glob (v := .ref c.F) (by rfl) m_F (by first | exact rfl | exact ⟨_, rfl⟩)) pa_nil))) (pe_and (pe_cmpR op_eq (pe_fld (pv 0) rfl) (pe_fld (pv 1) rfl) (nomark _)) (pe_and (pe_cmpR op_eq (pe_fld (pv 0) rfl) (pe_fld (pv 1) rfl) (nomark _)) (pe_and (pe_cmpR op_eq (pe_fld (pv 0) rfl) (pe_fld (pv 1) rfl) (nomark _)) (pe_one (pe_cmpR op_eq (pe_fld (pv 0) rfl) (pe_fld (pv 1) rfl) (nomark _))))))))), ?_⟩
    rcases h with ⟨t0, ht, hk, q⟩ | ⟨d, r, rfl, h, q⟩
    · walk_at "rd"
      refine ⟨u, .ref c.F, t0, .ref c.F, false, rfl, .own _, ht, hk, ?_⟩
      walk_at "rd"
      exact q
    · obtain ⟨dx, dy, n, b, t, ns, n2, b2, t2, ns2, h1, h2, o1, o2, rfl⟩ := h
      walk_at "rd"
      refine ⟨.ref d, .ref c.F, .ref c.F, .ref c.F, true, rfl, .own _, .base (.ins h2 cf.cl cf.ha cf.hn cf.htk cf.hm), kit_self, ?_⟩
      walk_at "rd"
      refine r_fldE h1 cf.cl cf.n1 rfl ?_
      walk_at "rd"
      refine r_fldE h2 cf.cl cf.n1 rfl ?_
      walk_at "rd"
      refine r_iteD (fun e => ?_) (fun e => ?_)
      case refine_2 =>
        refine (congrArg (fun z => Q (.bl z) _) (decide_eq_false ?_)).mp q
        intro e2
        apply e
        injection e2
        simp [*]
      have ee : n = n2 := by injection e
      subst ee
      walk_at "rd"
      refine r_fldE h1 cf.cl tX rfl ?_
      walk_at "rd"
      refine r_fldE h2 cf.cl tX rfl ?_
      walk_at "rd"
      refine r_iteD (fun e => ?_) (fun e => ?_)
      case refine_2 =>
        refine (congrArg (fun z => Q (.bl z) _) (decide_eq_false ?_)).mp q
        intro e2
        apply e
        injection e2
        simp [*]
      have ee : ns = ns2 := (byt_iff o1 o2).mp e
      subst ee
      walk_at "rd"
      refine r_fldE h1 cf.cl cf.n2 rfl ?_
      walk_at "rd"
      refine r_fldE h2 cf.cl cf.n2 rfl ?_
      walk_at "rd"
      refine r_iteD (fun e => ?_) (fun e => ?_)
      case refine_2 =>
        refine (congrArg (fun z => Q (.bl z) _) (decide_eq_false ?_)).mp q
        intro e2
        apply e
        injection e2
        simp [*]
      have ee : b = b2 := by injection e
      subst ee
      walk_at "rd"
      refine r_fldE h1 cf.cl cf.n3 rfl ?_
      walk_at "rd"
      refine r_fldE h2 cf.cl cf.n3 rfl ?_
      walk_at "rd"
      refine (congrArg (fun z => Q (.bl z) _) ?_).mp q
      simp
theorem ok_eqSymlink {f aM : Addr} {fd : FuncData} {k : Nat} {c : Cs} (F : Fun K "__eq__" "Symlink.__eq__" s_Symlink___eq__ f fd) (m1 : mg "isinstance" = none) (m_Y : mg "Symlink" = some (.ref c.Y)) (cf : CF K c.Y aM "symlink") (tX : NoAttr K c.Y "target") : FnOk P w K mg base CX0 (k + 2) f fd ["self", "other"] (spEqM K c.Y (RY c.Y)) := by
  refine F.ok sc_Symlink___eq__ (fun vs H Q E h => ?_) (fun cdv A outer s H vs Q E hr h => ?_)
  · obtain ⟨a, u, rfl, _⟩ := h
    rfl
  · obtain ⟨a, u, rfl, h⟩ := h
    have hu := hu_of hr
    have hu64 := hr.units
    have nd := sc_Symlink___eq__.nd
    refine ⟨_, (pss_one (ps_ret (pe_and (pe_callB (call_isiK1 K) (by rfl) (by assumption) (by decide +kernel) (pa_cons (pv 1) (pa_cons (pe_glob (v := .ref c.Y) (by rfl) m_Y (by first | exact rfl | exact ⟨_, rfl⟩)) pa_nil))) (pe_and (pe_cmpR op_eq (pe_fld (pv 0) rfl) (pe_fld (pv 1) rfl) (nomark _)) (pe_and (pe_cmpR op_eq (pe_fld (pv 0) rfl) (pe_fld (pv 1) rfl) (nomark _)) (pe_and (pe_cmpR op_eq (pe_fld (pv 0) rfl) (pe_fld (pv 1) rfl) (nomark _)) (pe_one (pe_cmpR op_eq (pe_fld (pv 0) rfl) (pe_fld (pv 1) rfl) (nomark _))))))))), ?_⟩
    rcases h with ⟨t0, ht, hk, q⟩ | ⟨d, r, rfl, h, q⟩
    · walk_at "rd"
      refine ⟨u, .ref c.Y, t0, .ref c.Y, false, rfl, .own _, ht, hk, ?_⟩
      walk_at "rd"
      exact q
    · obtain ⟨dx, dy, n, b, t, g, n2, b2, t2, g2, h1, h2, rfl⟩ := h
      walk_at "rd"
      refine ⟨.ref d, .ref c.Y, .ref c.Y, .ref c.Y, true, rfl, .own _, .base (.ins h2 cf.cl cf.ha cf.hn cf.htk cf.hm), kit_self, ?_⟩
      walk_at "rd"
      refine r_fldE h1 cf.cl cf.n1 rfl ?_
      walk_at "rd"
      refine r_fldE h2 cf.cl cf.n1 rfl ?_
      walk_at "rd"
      refine r_iteD (fun e => ?_) (fun e => ?_)
      case refine_2 =>
        refine (congrArg (fun z => Q (.bl z) _) (decide_eq_false ?_)).mp q
        intro e2
        apply e
        injection e2
        simp [*]
      have ee : n = n2 := by injection e
      subst ee
      walk_at "rd"
      refine r_fldE h1 cf.cl tX rfl ?_
      walk_at "rd"
      refine r_fldE h2 cf.cl tX rfl ?_
      walk_at "rd"
      refine r_iteD (fun e => ?_) (fun e => ?_)
      case refine_2 =>
        refine (congrArg (fun z => Q (.bl z) _) (decide_eq_false ?_)).mp q
        intro e2
        apply e
        injection e2
        simp [*]
      have ee : g = g2 := by injection e
      subst ee
      walk_at "rd"
      refine r_fldE h1 cf.cl cf.n2 rfl ?_
      walk_at "rd"
      refine r_fldE h2 cf.cl cf.n2 rfl ?_
      walk_at "rd"
      refine r_iteD (fun e => ?_) (fun e => ?_)
      case refine_2 =>
        refine (congrArg (fun z => Q (.bl z) _) (decide_eq_false ?_)).mp q
        intro e2
        apply e
        injection e2
        simp [*]
      have ee : b = b2 := by injection e
      subst ee
      walk_at "rd"
      refine r_fldE h1 cf.cl cf.n3 rfl ?_
      walk_at "rd"
      refine r_fldE h2 cf.cl cf.n3 rfl ?_
      walk_at "rd"
      refine (congrArg (fun z => Q (.bl z) _) ?_).mp q
      simp
theorem ok_eqLink {f aM : Addr} {fd : FuncData} {k : Nat} {c : Cs} (F : Fun K "__eq__" "Link.__eq__" s_Link___eq__ f fd) (m1 : mg "isinstance" = none) (m_L : mg "Link" = some (.ref c.L)) (cf : CF K c.L aM "link") (tX : NoAttr K c.L "target") : FnOk P w K mg base CX0 (k + 2) f fd ["self", "other"] (spEqM K c.L (RL c.L)) := by
  refine F.ok sc_Link___eq__ (fun vs H Q E h => ?_) (fun cdv A outer s H vs Q E hr h => ?_)
  · obtain ⟨a, u, rfl, _⟩ := h
    rfl
  · obtain ⟨a, u, rfl, h⟩ := h
    have hu := hu_of hr
    have hu64 := hr.units
    have nd := sc_Link___eq__.nd
    refine ⟨_, (pss_one (ps_ret (pe_and (pe_callB (call_isiK1 K) (by rfl) (by assumption) (by decide +kernel) (pa_cons (pv 1) (pa_cons (pe_glob (v := .ref c.L) (by rfl) m_L (by first | exact rfl | exact ⟨_, rfl⟩)) pa_nil))) (pe_and (pe_cmpR op_eq (pe_fld (pv 0) rfl) (pe_fld (pv 1) rfl) (nomark _)) (pe_and (pe_cmpR op_eq (pe_fld (pv 0) rfl) (pe_fld (pv 1) rfl) (nomark _)) (pe_and (pe_cmpR op_eq (pe_fld (pv 0) rfl) (pe_fld (pv 1) rfl) (nomark _)) (pe_one (pe_cmpR op_eq (pe_fld (pv 0) rfl) (pe_fld (pv 1) rfl) (nomark _))))))))), ?_⟩
    rcases h with ⟨t0, ht, hk, q⟩ | ⟨d, r, rfl, h, q⟩
    · walk_at "rd"
      refine ⟨u, .ref c.L, t0, .ref c.L, false, rfl, .own _, ht, hk, ?_⟩
      walk_at "rd"
      exact q
    · obtain ⟨dx, dy, n, b, t, g, n2, b2, t2, g2, h1, h2, rfl⟩ := h
      walk_at "rd"
      refine ⟨.ref d, .ref c.L, .ref c.L, .ref c.L, true, rfl, .own _, .base (.ins h2 cf.cl cf.ha cf.hn cf.htk cf.hm), kit_self, ?_⟩
      walk_at "rd"
      refine r_fldE h1 cf.cl cf.n1 rfl ?_
      walk_at "rd"
      refine r_fldE h2 cf.cl cf.n1 rfl ?_
      walk_at "rd"
      refine r_iteD (fun e => ?_) (fun e => ?_)
      case refine_2 =>
        refine (congrArg (fun z => Q (.bl z) _) (decide_eq_false ?_)).mp q
        intro e2
        apply e
        injection e2
        simp [*]
      have ee : n = n2 := by injection e
      subst ee
      walk_at "rd"
      refine r_fldE h1 cf.cl tX rfl ?_
      walk_at "rd"
      refine r_fldE h2 cf.cl tX rfl ?_
      walk_at "rd"
      refine r_iteD (fun e => ?_) (fun e => ?_)
      case refine_2 =>
        refine (congrArg (fun z => Q (.bl z) _) (decide_eq_false ?_)).mp q
        intro e2
        apply e
        injection e2
        simp [*]
      have ee : g = g2 := by injection e
      subst ee
      walk_at "rd"
      refine r_fldE h1 cf.cl cf.n2 rfl ?_
      walk_at "rd"
      refine r_fldE h2 cf.cl cf.n2 rfl ?_
      walk_at "rd"
      refine r_iteD (fun e => ?_) (fun e => ?_)
      case refine_2 =>
        refine (congrArg (fun z => Q (.bl z) _) (decide_eq_false ?_)).mp q
        intro e2
        apply e
        injection e2
        simp [*]
      have ee : b = b2 := by injection e
      subst ee
      walk_at "rd"
      refine r_fldE h1 cf.cl cf.n3 rfl ?_
      walk_at "rd"
      refine r_fldE h2 cf.cl cf.n3 rfl ?_
      walk_at "rd"
      refine (congrArg (fun z => Q (.bl z) _) ?_).mp q
      simp
theorem ok_eqSparse {f aM : Addr} {fd : FuncData} {k : Nat} {c : Cs} (F : Fun K "__eq__" "Sparse.__eq__" s_Sparse___eq__ f fd) (m1 : mg "isinstance" = none) (m_S : mg "Sparse" = some (.ref c.S)) (cf : CF K c.S aM "sparse") (tZ : NoAttr K c.S "size") (tX : NoAttr K c.S "pieces") : FnOk P w K mg base CX0 (k + 2) f fd ["self", "other"] (spEqM K c.S (RS c.S)) := by
  refine F.ok sc_Sparse___eq__ (fun vs H Q E h => ?_) (fun cdv A outer s H vs Q E hr h => ?_)
  · obtain ⟨a, u, rfl, _⟩ := h
    rfl
  · obtain ⟨a, u, rfl, h⟩ := h
    have hu := hu_of hr
    have hu64 := hr.units
    have nd := sc_Sparse___eq__.nd
    refine ⟨_, (pss_one (ps_ret (pe_and (pe_callB (call_isiK1 K) (by rfl) (by assumption) (by decide +kernel) (pa_cons (pv 1) (pa_cons (pe_glob (v := .ref c.S) (by rfl) m_S (by first | exact rfl | exact ⟨_, rfl⟩)) pa_nil))) (pe_and (pe_cmpR op_eq (pe_fld (pv 0) rfl) (pe_fld (pv 1) rfl) (nomark _)) (pe_and (pe_cmpR op_eq (pe_fld (pv 0) rfl) (pe_fld (pv 1) rfl) (nomark _)) (pe_and (pe_cmpR (op_eqPc (Nat.lt_of_le_of_lt (Nat.add_le_add_left (by decide) _) hu64)) (pe_fld (pv 0) rfl) (pe_fld (pv 1) rfl) (nomark _)) (pe_and (pe_cmpR op_eq (pe_fld (pv 0) rfl) (pe_fld (pv 1) rfl) (nomark _)) (pe_one (pe_cmpR op_eq (pe_fld (pv 0) rfl) (pe_fld (pv 1) rfl) (nomark _)))))))))), ?_⟩
    rcases h with ⟨t0, ht, hk, q⟩ | ⟨d, r, rfl, h, q⟩
    · walk_at "rd"
      refine ⟨u, .ref c.S, t0, .ref c.S, false, rfl, .own _, ht, hk, ?_⟩
      walk_at "rd"
      exact q
    · obtain ⟨dx, dy, n, b, t, z, sp, n2, b2, t2, z2, sp2, p, p2, h1, h2, g1, g2, o1, o2, rfl⟩ := h
      walk_at "rd"
      refine ⟨.ref d, .ref c.S, .ref c.S, .ref c.S, true, rfl, .own _, .base (.ins h2 cf.cl cf.ha cf.hn cf.htk cf.hm), kit_self, ?_⟩
      walk_at "rd"
      refine r_fldE h1 cf.cl cf.n1 rfl ?_
      walk_at "rd"
      refine r_fldE h2 cf.cl cf.n1 rfl ?_
      walk_at "rd"
      refine r_iteD (fun e => ?_) (fun e => ?_)
      case refine_2 =>
        refine (congrArg (fun z => Q (.bl z) _) (decide_eq_false ?_)).mp q
        intro e2
        apply e
        injection e2
        simp [*]
      have ee : n = n2 := by injection e
      subst ee
      walk_at "rd"
      refine r_fldE h1 cf.cl tZ rfl ?_
      walk_at "rd"
      refine r_fldE h2 cf.cl tZ rfl ?_
      walk_at "rd"
      refine r_iteD (fun e => ?_) (fun e => ?_)
      case refine_2 =>
        refine (congrArg (fun z => Q (.bl z) _) (decide_eq_false ?_)).mp q
        intro e2
        apply e
        injection e2
        simp [*]
      have ee : z = z2 := by injection e
      subst ee
      walk_at "rd"
      refine r_fldE h1 cf.cl tX rfl ?_
      walk_at "rd"
      refine r_fldE h2 cf.cl tX rfl ?_
      walk_at "rd"
      refine ⟨p, p2, _, _, rfl, rfl, g1, g2, ?_⟩
      walk_at "rd"
      refine r_iteD (fun e => ?_) (fun e => ?_)
      case refine_2 =>
        refine (congrArg (fun z => Q (.bl z) _) (decide_eq_false ?_)).mp q
        intro e2
        apply e
        injection e2
        simp [*]
      have ee : sp = sp2 := (pcs_iff o1 o2).mp e
      subst ee
      walk_at "rd"
      refine r_fldE h1 cf.cl cf.n2 rfl ?_
      walk_at "rd"
      refine r_fldE h2 cf.cl cf.n2 rfl ?_
      walk_at "rd"
      refine r_iteD (fun e => ?_) (fun e => ?_)
      case refine_2 =>
        refine (congrArg (fun z => Q (.bl z) _) (decide_eq_false ?_)).mp q
        intro e2
        apply e
        injection e2
        simp [*]
      have ee : b = b2 := by injection e
      subst ee
      walk_at "rd"
      refine r_fldE h1 cf.cl cf.n3 rfl ?_
      walk_at "rd"
      refine r_fldE h2 cf.cl cf.n3 rfl ?_
      walk_at "rd"
      refine (congrArg (fun z => Q (.bl z) _) ?_).mp q
      simp
end
/-! ### lists of members compared -/
def DMem (c : Cs) : Eqv := fun x y H => ∃ a b m, x = .ref a ∧ y = .ref b ∧ Mem.Ins c H a m ∧ Mem.Ins c H b m ∧ m.Ok
theorem mon_mem {c : Cs} : Mon (DMem c) := fun x y H H' e ⟨a, b, m, h1, h2, h3, h4, h5⟩ => ⟨a, b, m, h1, h2, h3.same e, h4.same e, h5⟩
/-- the members' own == -/
structure EqMs (P : Program) (w : World) (K : PySem.W.Frag) (mg : Str → Option Value) (base : Heap) (c : Cs) : Prop where
  F : EqT P w K mg base 2 c.F (RF c.F)
  S : EqT P w K mg base 2 c.S (RS c.S)
  D : EqT P w K mg base 2 c.D (RD c.D)
  Y : EqT P w K mg base 2 c.Y (RY c.Y)
  L : EqT P w K mg base 2 c.L (RL c.L)
theorem rcG_eqT {X : Cx} {k : Nat} {C : Addr} {R : Addr → Addr → Hp → Bool → Prop} (E : EqT X.prog X.w X.K X.mg X.base k C R) : RcG X k (DIns C fun a b H => R a b H true) := by
  obtain ⟨f, F, Fn⟩ := E.ex
  exact rcG_own (E := E0) Fn (fun a b H Q E h q => ⟨a, _, rfl, .inr ⟨b, true, rfl, h, q⟩⟩) F.eq F.fn pass0
theorem eqG_eqT {X : Cx} {k : Nat} {C : Addr} {R : Addr → Addr → Hp → Bool → Prop} (E : EqT X.prog X.w X.K X.mg X.base k C R) : EqG X k (DIns C fun a b H => R a b H true) :=
  (rcG_eqT E).eqG fun _ _ _ d => let ⟨a, b, _, _, _, _, hx, hy, _⟩ := d; ⟨a, b, hx, hy⟩
theorem eqG_mem {X : Cx} {c : Cs} (E : EqMs X.prog X.w X.K X.mg X.base c) : EqG X 2 (DMem c) := by
  refine ((eqG_eqT E.F).or ((eqG_eqT E.S).or ((eqG_eqT E.D).or ((eqG_eqT E.Y).or (eqG_eqT E.L))))).imp fun x y H d => ?_
  obtain ⟨a, b, m, rfl, rfl, h1, h2, ho⟩ := d
  cases m with
  | file n b1 t ns =>
    obtain ⟨dx, h1⟩ := h1
    obtain ⟨dy, h2⟩ := h2
    exact .inl ⟨a, b, dx, dy, _, _, rfl, rfl, h1, h2, dx, dy, n, b1, t, ns, n, b1, t, ns, h1, h2, ho.2.2, ho.2.2, (decide_eq_true rfl).symm⟩
  | sparse n b1 t z sp =>
    obtain ⟨dx, p, h1, k1⟩ := h1
    obtain ⟨dy, p2, h2, k2⟩ := h2
    exact .inr (.inl ⟨a, b, dx, dy, _, _, rfl, rfl, h1, h2, dx, dy, n, b1, t, z, sp, n, b1, t, z, sp, p, p2, h1, h2, k1, k2, ho.2.2.2.2.2, ho.2.2.2.2.2, (decide_eq_true rfl).symm⟩)
  | dir n b1 t =>
    obtain ⟨dx, h1⟩ := h1
    obtain ⟨dy, h2⟩ := h2
    exact .inr (.inr (.inl ⟨a, b, dx, dy, _, _, rfl, rfl, h1, h2, dx, dy, n, b1, t, n, b1, t, h1, h2, (decide_eq_true rfl).symm⟩))
  | sym n b1 t g =>
    obtain ⟨dx, h1⟩ := h1
    obtain ⟨dy, h2⟩ := h2
    exact .inr (.inr (.inr (.inl ⟨a, b, dx, dy, _, _, rfl, rfl, h1, h2, dx, dy, n, b1, t, g, n, b1, t, g, h1, h2, (decide_eq_true rfl).symm⟩)))
  | lnk n b1 t g =>
    obtain ⟨dx, h1⟩ := h1
    obtain ⟨dy, h2⟩ := h2
    exact .inr (.inr (.inr (.inr ⟨a, b, dx, dy, _, _, rfl, rfl, h1, h2, dx, dy, n, b1, t, g, n, b1, t, g, h1, h2, (decide_eq_true rfl).symm⟩)))
theorem op_neMemK {X : Cx} {P : Program} {w : World} {mg : Str → Option Value} {base : Heap} {c : Cs} (K : PySem.W.Frag) (E : EqMs P w K mg base c) (hr : Room 3 X.A) (h1 : X.prog = P := by rfl) (h2 : X.w = w := by rfl) (h3 : X.K = K := by rfl) (h4 : X.mg = mg := by rfl) (h5 : X.base = base := by rfl) :
    OpR X (compareOp .NotEq) (rNeG (DList (DMem c))) := by
  subst h1 h2 h3 h4 h5
  exact op_neGL mon_mem (eqG_mem E) hr
theorem prs_mem {c : Cs} {H : Hp} {xs ys : List Addr} {ms : List Mem} (hx : Paired (fun y (m : Mem) => m.Ins c H y) xs ms) (hy : Made c H ys ms) : Prs (DMem c) (xs.map V.ref) (ys.map V.ref) H := by
  refine ⟨by rw [List.length_map, List.length_map, hx.length, hy.length], fun i x y h1 h2 => ?_⟩
  rw [List.getElem?_map] at h1 h2
  obtain ⟨a, ha, rfl⟩ : ∃ a, xs[i]? = some a ∧ V.ref a = x := by
    cases e : xs[i]? with
    | none => rw [e] at h1; cases h1
    | some a => rw [e] at h1; exact ⟨a, rfl, Option.some.inj h1⟩
  obtain ⟨b, hb, rfl⟩ : ∃ b, ys[i]? = some b ∧ V.ref b = y := by
    cases e : ys[i]? with
    | none => rw [e] at h2; cases h2
    | some a => rw [e] at h2; exact ⟨a, rfl, Option.some.inj h2⟩
  obtain ⟨m, hm, g1⟩ := paired_at hx ha
  obtain ⟨m', hm', g2, g3⟩ := paired_at hy hb
  rw [hm] at hm'
  cases hm'
  exact ⟨a, b, m, rfl, rfl, g1, g2, g3⟩
theorem r_neMem {c : Cs} {H : Hp} {Q : VK} {a b : Addr} {xs ys : List Addr} {ms : List Mem} (ha : H a = some (.lst (xs.map V.ref))) (hb : H b = some (.lst (ys.map V.ref))) (hx : Paired (fun y (m : Mem) => m.Ins c H y) xs ms) (hy : Made c H ys ms) (q : ∀ H', Same H H' → Q (.bl false) H') : rNeG (DList (DMem c)) (.ref a) (.ref b) H Q :=
  ⟨⟨a, b, _, _, rfl, rfl, ha, hb, prs_mem hx hy⟩, q⟩
/-! ### the member that is made, and how many blocks it has -/
def blk (z : Str) : Nat := if z = "" then 0 else 2
def LenOk (z : Str) : Prop := z = "" ∨ 101 ≤ z.length
theorem longP_blk {k z : Str} (hk : k.length = 1) (hka : PySem.W.KSb.Asc k) (hn : nameB z = true) : (longP k z).length = 512 * (if z.length ≤ 100 then 0 else 2) := by
  unfold longP
  split
  · rfl
  · have hz : z.length ≤ 250 := (of_name hn).2.1
    have hzl : z.cps.toList.length = z.length := by simp [Str.length]
    have hHl := HD_len (l := k) (z := LL) (a := "") (m := 0) (s := z.length + 1) (t := 0) (by simpa [Str.length] using hk) hka LL_asc em_asc (by decide) (by omega) (by decide)
    rw [List.length_append, hHl, filled_len]
    simp only [List.length_append, hzl, List.length_cons, List.length_nil]
    unfold pad
    omega
theorem natI_len (xs : List Nat) : (natI xs).length = xs.length := List.length_map _
theorem natI_nat (xs : List Nat) : (natI xs).map Int.toNat = xs := by
  unfold natI
  rw [List.map_map]
  exact (List.map_congr_left (g := id) fun i _ => rfl).trans (List.map_id _)
theorem natI_byte {xs : List Nat} (h : ∀ c ∈ xs, c < 256) : (natI xs).all inByte = true := by
  rw [List.all_eq_true]
  intro i hi
  obtain ⟨c, hc, rfl⟩ := List.mem_map.mp hi
  have := h c hc
  unfold inByte
  rw [Bool.and_eq_true, decide_eq_true_iff, decide_eq_true_iff]
  exact ⟨Int.natCast_nonneg c, by show ((c : Nat) : Int) ≤ 255; omega⟩
theorem cutN_spn : ∀ {sp : List (Int × Int)} {xs : List Nat}, (∀ s ∈ sp, 0 ≤ s.2) → lenS sp ≤ (xs.length : Int) → spn (cutN xs sp) = sp
  | [], _, _, _ => rfl
  | s :: sp, xs, h0, h => by
    have e : lenS (s :: sp) = s.2 + lenS sp := List.sum_cons
    have h1 := h0 s List.mem_cons_self
    have h2 := lenS_nn fun t ht => h0 t (List.mem_cons_of_mem _ ht)
    have ih := cutN_spn (sp := sp) (xs := xs.drop s.2.toNat) (fun t ht => h0 t (List.mem_cons_of_mem _ ht)) (by rw [List.length_drop]; omega)
    show (s.1, ((natI (xs.take s.2.toNat)).length : Int)) :: spn (cutN (xs.drop s.2.toNat) sp) = s :: sp
    rw [ih, natI_len, List.length_take, Nat.min_eq_left (by omega), Int.toNat_of_nonneg h1]
theorem cutN_len : ∀ {sp : List (Int × Int)} {xs : List Nat}, (cutN xs sp).length = sp.length
  | [], _ => rfl
  | s :: sp, xs => by
    show (cutN (xs.drop s.2.toNat) sp).length + 1 = sp.length + 1
    rw [cutN_len]
theorem cutN_byte : ∀ {sp : List (Int × Int)} {xs : List Nat}, (∀ c ∈ xs, c < 256) → ∀ s ∈ cutN xs sp, s.2.all inByte = true
  | [], _, _, s, hs => nomatch hs
  | t :: sp, xs, h, s, hs => by
    rcases List.mem_cons.mp hs with rfl | hs
    · exact natI_byte fun c hc => h c (List.mem_of_mem_take hc)
    · exact cutN_byte (fun c hc => h c (List.mem_of_mem_drop hc)) s hs
theorem cutN_cat : ∀ {sp : List (Int × Int)} {xs : List Nat}, (∀ s ∈ sp, 0 ≤ s.2) → lenS sp ≤ (xs.length : Int) → ((cat (cutN xs sp)).length : Int) = lenS sp
  | [], _, _, _ => rfl
  | s :: sp, xs, h0, h => by
    have e : lenS (s :: sp) = s.2 + lenS sp := List.sum_cons
    have h1 := h0 s List.mem_cons_self
    have h2 := lenS_nn fun t ht => h0 t (List.mem_cons_of_mem _ ht)
    have ih := cutN_cat (sp := sp) (xs := xs.drop s.2.toNat) (fun t ht => h0 t (List.mem_cons_of_mem _ ht)) (by rw [List.length_drop]; omega)
    have e2 : cat (cutN xs (s :: sp)) = (natI (xs.take s.2.toNat)).map Int.toNat ++ cat (cutN (xs.drop s.2.toNat) sp) := List.flatMap_cons
    rw [e2, natI_nat, List.length_append, List.length_take, Nat.min_eq_left (by omega)]
    push_cast
    rw [ih]
    omega
theorem textV_len {xs : List Nat} {z : Str} (h : textV xs = .str z) : z.length ≤ xs.length := by
  rw [textV_str h]
  show (stripN xs).toArray.size ≤ _
  rw [List.size_toArray]
  exact strip_len
theorem kd_lt {l : Str} {b : Bool} {lt : Str} (h : kdRightV (.str l) b lt = true) (hn : inV (.str l) [.str "L", .str "1", .str "2"] = false) : lt = "" := by
  unfold kdRightV at h
  split at h
  · cases h
  · rw [hn, Bool.or_false] at h
    exact of_decide_eq_true h
theorem blk_pick {v : V} {z : Str} (hz : LenOk z) (hv : z = "" → (strOf v).length ≤ 100) : (if (pickT v z).length ≤ 100 then 0 else 2) = blk z := by
  unfold blk
  by_cases e : z = ""
  · rw [if_pos e, pickT_nil e, if_pos (hv e)]
  · rw [if_neg e, pickT_ne e, if_neg (by have := hz.resolve_left e; omega)]
theorem Mem.bytes_blk {m : Mem} {a b : Nat} (ho : m.Ok) (h1 : (longP "K" m.tgt).length = 512 * a) (h2 : (longP "L" m.nm).length = 512 * b) : m.bytes.length = 512 * (a + b + 1) + (filled m.stored).length := by
  unfold Mem.bytes
  rw [List.length_append, List.length_append, List.length_append, h1, h2, Mem.hd_len ho]
  omega
theorem longP_nil' : (longP "K" "").length = 512 * 0 := by
  unfold longP
  rw [if_pos (by decide)]
  rfl
theorem done_mem {s : St} {v : HdV} (h : HInv s v) (mk : MkOk v s.ln s.lt s.stored) (l1 : LenOk s.ln) (l2 : LenOk s.lt) (sr : ∃ bs : List Nat, bs.length = 512 ∧ v = hdOf bs) (hb : ∀ c ∈ s.stored, c < 256) (h5 : s.stored.length % 512 = 0) (hge : v.size ≤ (s.stored.length : Int)) (hlt : (s.stored.length : Int) < v.size + 512)
    (nk : v.kind ≠ .str "K") (nl : v.kind ≠ .str "L") : (memOf v s.ln s.lt s.stored).Ok ∧ (memOf v s.ln s.lt s.stored).bytes.length = 512 * (blk s.lt + blk s.ln + 1 + s.stored.length / 512) := by
  obtain ⟨v1, v2, v3, hd, ys, ln, lt, zs, wr⟩ := s
  obtain ⟨md, tm, hnm, hnz, htz, hkd⟩ := mk
  obtain ⟨bs, hbl, hv⟩ := sr
  have n1 : ln = "" → (strOf v.name).length ≤ 100 := fun e => by
    have e1 := hnz e
    have e2 : v.name = textV (bs.take 100) := by rw [hv]; rfl
    rw [e2] at e1 ⊢
    have := textV_len e1
    rw [List.length_take] at this
    omega
  have n2 : lt = "" → (strOf v.target).length ≤ 100 := fun e => by
    have e1 := htz e
    have e2 : v.target = textV ((bs.drop 157).take 100) := by rw [hv]; rfl
    rw [e2] at e1 ⊢
    have := textV_len e1
    rw [List.length_take] at this
    omega
  have hkr := h.good.kd
  obtain ⟨l, n, hl, hz, z1, z2⟩ := h.good.sz
  clear hv hbl
  obtain ⟨u1, u2, u3, u4, u5, u6, u7, u8⟩ := v
  dsimp only at md tm hnm hnz htz hkd n1 n2 hkr hl z1 z2 hge hlt hb h5 l1 l2 nk nl ⊢
  subst hl
  have st : stampOk (pickT u1 ln) u2 u6 := ⟨hnm, md.1, md.2, tm.1, tm.2⟩
  have hL : (longP "L" (pickT u1 ln)).length = 512 * blk ln := by rw [longP_blk chLl chL hnm, blk_pick l1 n1]
  rcases hkd with ⟨hk, hs, s, rfl, hsl⟩ | hk | ⟨hk, htg⟩ | ⟨hk, h5', z, sp, em, z0, z1', hn, hok, hls⟩
  · injection hk with hk
    subst hk
    have e0 : lt = "" := kd_lt hkr (by decide +kernel)
    have em : memOf ⟨u1, u2, u3, u4, (s : Int), u6, .str "0", u8⟩ ln lt ys = .file (pickT u1 ln) u2 u6 (natI (ys.take s)) := (if_pos rfl).trans (by rw [Int.toNat_natCast])
    rw [em]
    have ho : (Mem.file (pickT u1 ln) u2 u6 (natI (ys.take s))).Ok := ⟨st, by rw [natI_len, List.length_take]; omega, natI_byte fun c hc => hb c (List.mem_of_mem_take hc)⟩
    refine ⟨ho, ?_⟩
    rw [Mem.bytes_blk ho longP_nil' hL, e0]
    have es : (Mem.file (pickT u1 ln) u2 u6 (natI (ys.take s))).stored = ys.take s := natI_nat _
    rw [es, filled_len, List.length_take, Nat.min_eq_left hsl]
    show 512 * (0 + blk ln + 1) + (s + pad s) = 512 * (0 + blk ln + 1 + ys.length / 512)
    unfold pad
    omega
  · injection hk with hk
    subst hk
    have e0 : lt = "" := kd_lt hkr (by decide +kernel)
    rw [mem_d]
    have ho : (Mem.dir (pickT u1 ln) u2 u6).Ok := st
    refine ⟨ho, ?_⟩
    have z2' : u5 ≤ 0 := by
      rcases szOf_kinds hz with ⟨e, _⟩ | ⟨e, _⟩ | ⟨e, _⟩ | ⟨e, _⟩ | ⟨_, rfl⟩ | ⟨e, _⟩ | ⟨e, _⟩
      all_goals first | exact z2 | exact absurd e (by decide +kernel)
    rw [Mem.bytes_blk ho longP_nil' hL, e0]
    show 512 * (0 + blk ln + 1) + (filled []).length = 512 * (0 + blk ln + 1 + ys.length / 512)
    rw [filled_len, List.length_nil]
    unfold pad
    omega
  · have z2' : u5 ≤ 0 := by
      rcases szOf_kinds hz with ⟨rfl, _⟩ | ⟨rfl, _⟩ | ⟨rfl, _⟩ | ⟨rfl, _⟩ | ⟨_, rfl⟩ | ⟨_, rfl⟩ | ⟨_, rfl⟩
      all_goals first | exact z2 | (exfalso; revert hk; decide +kernel)
    have hK : (longP "K" (pickT u8 lt)).length = 512 * blk lt := by rw [longP_blk chKl chK htg, blk_pick l2 n2]
    rcases hk with hk | hk
    · injection hk with hk
      subst hk
      rw [mem_y]
      have ho : (Mem.sym (pickT u1 ln) u2 u6 (pickT u8 lt)).Ok := ⟨st, htg⟩
      refine ⟨ho, ?_⟩
      rw [Mem.bytes_blk ho hK hL]
      show 512 * (blk lt + blk ln + 1) + (filled []).length = 512 * (blk lt + blk ln + 1 + ys.length / 512)
      rw [filled_len, List.length_nil]
      unfold pad
      omega
    · injection hk with hk
      subst hk
      rw [mem_l]
      have ho : (Mem.lnk (pickT u1 ln) u2 u6 (pickT u8 lt)).Ok := ⟨st, htg⟩
      refine ⟨ho, ?_⟩
      rw [Mem.bytes_blk ho hK hL]
      show 512 * (blk lt + blk ln + 1) + (filled []).length = 512 * (blk lt + blk ln + 1 + ys.length / 512)
      rw [filled_len, List.length_nil]
      unfold pad
      omega
  · injection hk with hk
    subst hk
    have e0 : lt = "" := kd_lt hkr (by decide +kernel)
    have hs0 : ∀ s ∈ sp, 0 ≤ s.2 := fun s hs => by have := (spansOk_all (Int.le_refl 0) hok s hs).2.1; omega
    rw [mem_s em]
    obtain ⟨m1, m2, m3, m4⟩ := mapN_some em
    have hsp := cutN_spn hs0 hls
    have hyd : ∀ c ∈ ys.drop 512, c < 256 := fun c hc => hb c (List.mem_of_mem_drop hc)
    have ho : (Mem.sparse (pickT u1 ln) u2 u6 z (cutN (ys.drop 512) sp)).Ok := ⟨st, z0, z1', by rw [cutN_len]; exact hn, by show spansOk z 0 (spn (cutN (ys.drop 512) sp)); rw [hsp]; exact hok, cutN_byte hyd⟩
    refine ⟨ho, ?_⟩
    rw [Mem.bytes_blk ho longP_nil' hL, e0]
    have es : (Mem.sparse (pickT u1 ln) u2 u6 z (cutN (ys.drop 512) sp)).stored = ys.take 512 ++ cat (cutN (ys.drop 512) sp) := by
      show filled (linesOf (numsOf z (spn (cutN (ys.drop 512) sp)))) ++ _ = _
      rw [hsp, m3]
    have hc := cutN_cat hs0 hls
    rw [es, filled_len, List.length_append, List.length_take, Nat.min_eq_left h5']
    show 512 * (0 + blk ln + 1) + (512 + (cat (cutN (ys.drop 512) sp)).length + pad (512 + (cat (cutN (ys.drop 512) sp)).length)) = 512 * (0 + blk ln + 1 + ys.length / 512)
    unfold pad
    omega
/-! ### where the members end -/
def endP (o : Int) (fs : List (Int × Mem)) : Int := match fs.getLast? with
  | none => o
  | some p => p.1 + (p.2.bytes.length : Int)
theorem endP_snoc {o : Int} {fs : List (Int × Mem)} {p : Int × Mem} : endP o (fs ++ [p]) = p.1 + (p.2.bytes.length : Int) := by
  unfold endP
  rw [List.getLast?_concat]
def units (s : St) : Nat := blk s.lt + blk s.ln + (match s.hd with | none => 0 | some _ => 1 + s.stored.length / 512)
structure I4a (o : Int) (s : St) (fs : List (Int × Mem)) : Prop where
  ok : ∀ p ∈ fs, p.2.Ok
  st : s.start = endP o fs
structure I4b (s : St) : Prop where
  l1 : LenOk s.ln
  l2 : LenOk s.lt
  zz : ∀ v, s.hd = some v → s.zeros = 0
  sr : ∀ v, s.hd = some v → ∃ bs : List Nat, bs.length = 512 ∧ v = hdOf bs
  at_ : s.zeros = 0 → s.at_ = s.start + 512 * (units s : Nat)
theorem take1_list (z : Str) : (take1 z).cps.toList = z.cps.toList.take 100 := by
  unfold take1 txtS
  simp
theorem take1_cut (z : Str) : cutS z none (some 100) = take1 z := cut_to (n := 100)
theorem take1_len {z : Str} (h : 101 ≤ z.length) : (take1 z).length = 100 := by
  show (take1 z).cps.size = 100
  rw [← Array.length_toList, take1_list, List.length_take]
  have : z.cps.toList.length = z.length := by simp [Str.length]
  omega
theorem cut_ne_LL {z : Str} (h : 101 ≤ z.length) : cutS z none (some 100) ≠ LL := fun e => by
  have e1 := congrArg Str.length e
  rw [take1_cut, take1_len h] at e1
  have e2 : LL.length = 13 := by decide +kernel
  rw [e2] at e1
  cases e1
theorem ended_i4 {o : Int} {fs : List (Int × Mem)} {s : St} {v : HdV} (h : HInv s v) (hp : EndPre s v) (hh : s.hd = some v) (a : I4a o s fs) (l1 : LenOk s.ln) (l2 : LenOk s.lt) (hz : s.zeros = 0) (sr : ∃ bs : List Nat, bs.length = 512 ∧ v = hdOf bs) (hb : ∀ c ∈ s.stored, c < 256) (h5 : s.stored.length % 512 = 0)
    (hlt : (s.stored.length : Int) < v.size + 512) (hat : s.at_ = s.start + 512 * ((blk s.lt + blk s.ln + 1 + s.stored.length / 512 : Nat) : Int)) : I4a o (endedF s v).1 (fs ++ (endedF s v).2.toList) ∧ I4b (endedF s v).1 := by
  unfold endedF
  by_cases e : (s.stored.length : Int) < v.size
  · rw [if_pos e]
    refine ⟨⟨by rw [Option.toList_none, List.append_nil]; exact a.ok, by rw [Option.toList_none, List.append_nil]; exact a.st⟩, l1, l2, fun _ _ => hz, fun u hu => ?_, fun _ => ?_⟩
    · have hu' : s.hd = some u := hu
      rw [hh] at hu'
      injection hu' with hu'
      subst hu'
      exact sr
    · show s.at_ = s.start + 512 * ((units s : Nat) : Int)
      have hus : units s = blk s.lt + blk s.ln + (1 + s.stored.length / 512) := by
        unfold units
        rw [hh]
      rw [hat, hus]
      push_cast
      omega
  rw [if_neg e]
  have hge : v.size ≤ (s.stored.length : Int) := by omega
  have hkr := h.good.kd
  have hnr := h.good.nm
  obtain ⟨l, n, hl, hsz, z1, z2⟩ := h.good.sz
  have l512 : (102 : Int) ≤ v.size → v.size ≤ 251 → s.stored.length = 512 := fun h1 h2 => by omega
  have ksz : ∀ k : Str, v.kind = .str k → (k = "K" ∨ k = "L") → (102 : Int) ≤ v.size ∧ v.size ≤ 251 := fun k hk hkl => by
    rw [hl] at hk
    injection hk with hk
    subst hk
    rcases szOf_kinds hsz with ⟨rfl, _⟩ | ⟨rfl, _⟩ | ⟨_, rfl⟩ | ⟨_, rfl⟩ | ⟨rfl, _⟩ | ⟨rfl, _⟩ | ⟨rfl, _⟩
    all_goals first | exact ⟨z1, z2⟩ | (exfalso; revert hkl; decide +kernel)
  rcases hp with hp | ⟨_, ⟨ek, tx, tl⟩ | ⟨ek, tx, tl⟩ | ⟨nk, nl, mk⟩⟩
  · exact absurd hp e
  · rw [if_pos ek]
    obtain ⟨k1, k2⟩ := ksz "K" ek (.inl rfl)
    rw [ek] at hkr
    have e0 : s.lt = "" := kd_lt hkr (by decide +kernel)
    have hne : strOf (textV s.stored) ≠ "" := fun e => by
      rw [e] at tl
      exact absurd tl (by decide)
    refine ⟨⟨by rw [Option.toList_none, List.append_nil]; exact a.ok, by rw [Option.toList_none, List.append_nil]; exact a.st⟩, l1, .inr tl, (fun _ h => nomatch h), (fun _ h => nomatch h), fun _ => ?_⟩
    show s.at_ = s.start + 512 * ((blk (strOf (textV s.stored)) + blk s.ln + 0 : Nat) : Int)
    rw [hat, e0, l512 k1 k2, show blk (strOf (textV s.stored)) = 2 from if_neg hne, show blk "" = 0 from rfl]
    push_cast
    omega
  · rw [if_neg (by rw [ek]; decide +kernel), if_pos ek]
    obtain ⟨k1, k2⟩ := ksz "L" ek (.inr rfl)
    rw [ek] at hkr
    have hnm : v.name = .str LL := by
      have := kd_short hkr
      rw [show kdInV (.str "L") = true by decide +kernel] at this
      exact of_decide_eq_true this.symm
    have e0 : s.ln = "" := by
      refine Decidable.byContradiction fun g => ?_
      unfold nmRightV at hnr
      rw [if_neg g, hnm] at hnr
      have e1 := of_decide_eq_true hnr
      injection e1 with e1
      exact cut_ne_LL (l1.resolve_left g) e1.symm
    have hne : strOf (textV s.stored) ≠ "" := fun e => by
      rw [e] at tl
      exact absurd tl (by decide)
    refine ⟨⟨by rw [Option.toList_none, List.append_nil]; exact a.ok, by rw [Option.toList_none, List.append_nil]; exact a.st⟩, .inr tl, l2, (fun _ h => nomatch h), (fun _ h => nomatch h), fun _ => ?_⟩
    show s.at_ = s.start + 512 * ((blk s.lt + blk (strOf (textV s.stored)) + 0 : Nat) : Int)
    rw [hat, e0, l512 k1 k2, show blk (strOf (textV s.stored)) = 2 from if_neg hne, show blk "" = 0 from rfl]
  · rw [if_neg nk, if_neg nl]
    obtain ⟨mo, mb⟩ := done_mem h mk l1 l2 sr hb h5 hge hlt nk nl
    refine ⟨⟨fun p hp => ?_, ?_⟩, .inl rfl, .inl rfl, (fun _ h => nomatch h), (fun _ h => nomatch h), fun _ => ?_⟩
    · rw [Option.toList_some] at hp
      rcases List.mem_append.mp hp with hp | hp
      · exact a.ok p hp
      · rw [List.mem_singleton.mp hp]
        exact mo
    · rw [Option.toList_some, endP_snoc]
      show s.at_ = s.start + ((memOf v s.ln s.lt s.stored).bytes.length : Int)
      rw [hat, mb]
      push_cast
      rfl
    · show s.at_ = s.at_ + 512 * ((blk "" + blk "" + 0 : Nat) : Int)
      rw [show blk "" = 0 from rfl]
      omega
theorem step_i4 {o : Int} {fs : List (Int × Mem)} {s : St} {bs : List Nat} (h : SInv s) (a : I4a o s fs) (b : I4b s) (hl : bs.length = 512) (hb : ∀ c ∈ bs, c < 256) : I4a o (stepF s bs).1 (fs ++ (stepF s bs).2.toList) ∧ (overF (stepF s bs).1 = false → I4b (stepF s bs).1) := by
  obtain ⟨v1, v2, v3, hd, ys, ln, lt, zs, wr⟩ := s
  have nil : ∀ s' : St, s'.start = v1 → I4a o s' (fs ++ (none : Option (Int × Mem)).toList) := fun s' e => ⟨by rw [Option.toList_none, List.append_nil]; exact a.ok, by rw [Option.toList_none, List.append_nil, e]; exact a.st⟩
  unfold stepF
  dsimp only
  cases hd with
  | some v =>
    obtain ⟨hi, hlt, h5⟩ := h.hd v rfl
    have hz := b.zz v rfl
    have hat := b.at_ hz
    have hus : units ⟨v1, v2, v3, some v, ys, ln, lt, zs, wr⟩ = blk lt + blk ln + (1 + ys.length / 512) := rfl
    rw [hus] at hat
    dsimp only at hlt h5 hz hat ⊢
    unfold storedF
    dsimp only
    have hyb : ∀ c ∈ ys ++ bs, c < 256 := fun c hc => (List.mem_append.mp hc).elim (h.by_ c) (hb c)
    by_cases e : wstF (strOf v.kind) v.size.toNat (ys ++ bs) = ""
    · rw [if_neg (fun g => g e)]
      have p := pre_stored (s := ⟨v1, v2, v3 + 512, some v, ys, ln, lt, zs, ""⟩) (ys := ys ++ bs) ⟨hi.good, hi.tm, hi.l1, hi.l2⟩ (by omega) (by rw [List.length_append]; omega) e
      have hyl : (ys ++ bs).length = ys.length + 512 := by rw [List.length_append, hl]
      have r := ended_i4 (o := o) (fs := fs) (s := ⟨v1, v2, v3 + 512, some v, ys ++ bs, ln, lt, zs, ""⟩) (v := v) ⟨hi.good, hi.tm, hi.l1, hi.l2⟩ p rfl ⟨a.ok, a.st⟩ b.l1 b.l2 hz (b.sr v rfl) hyb (by show (ys ++ bs).length % 512 = 0; omega) (by show ((ys ++ bs).length : Int) < _; omega) (by
        show v3 + 512 = v1 + 512 * ((blk lt + blk ln + 1 + (ys ++ bs).length / 512 : Nat) : Int)
        rw [hat, hyl]
        push_cast
        omega)
      exact ⟨r.1, fun _ => r.2⟩
    · rw [if_pos e]
      exact ⟨nil _ rfl, fun ho => by rw [over_wrong e] at ho; cases ho⟩
  | none =>
    dsimp only
    by_cases hz : zs = 0
    · have hat := b.at_ hz
      have hus : units ⟨v1, v2, v3, none, ys, ln, lt, zs, wr⟩ = blk lt + blk ln + 0 := rfl
      rw [hus] at hat
      dsimp only at hat
      rw [if_pos hz]
      unfold headerF
      dsimp only
      by_cases e0 : bs = List.replicate 512 0 ∧ ln = "" ∧ lt = ""
      · rw [if_pos e0]
        exact ⟨nil _ rfl, fun _ => ⟨b.l1, b.l2, (fun _ h => nomatch h), (fun _ h => nomatch h), fun h => by cases (show (1 : Int) = 0 from h)⟩⟩
      rw [if_neg e0]
      by_cases e : wrongF bs ln lt = ""
      · rw [if_neg (fun g => g e)]
        have hi : HInv ⟨v1, v3, v3 + 512, some (hdOf bs), [], ln, lt, zs, ""⟩ (hdOf bs) := ⟨good_of e, time_lt hl, h.l1, h.l2⟩
        have hsz : 0 ≤ (hdOf bs).size := by
          obtain ⟨l, n, _, hzz, z1, _⟩ := hi.good.sz
          rcases szOf_kinds hzz with ⟨_, rfl⟩ | ⟨_, rfl⟩ | ⟨_, rfl⟩ | ⟨_, rfl⟩ | ⟨_, rfl⟩ | ⟨_, rfl⟩ | ⟨_, rfl⟩ <;> (dsimp only at z1; omega)
        have r := ended_i4 (o := o) (fs := fs) hi (pre_head hi rfl) rfl ⟨a.ok, a.st⟩ b.l1 b.l2 hz ⟨bs, hl, rfl⟩ (fun _ h => nomatch h) rfl (by show (0 : Int) < _; omega) (by
          show v3 + 512 = v1 + 512 * ((blk lt + blk ln + 1 + 0 / 512 : Nat) : Int)
          rw [hat]
          push_cast
          omega)
        exact ⟨r.1, fun _ => r.2⟩
      · rw [if_pos e]
        exact ⟨nil _ rfl, fun ho => by rw [over_wrong e] at ho; cases ho⟩
    · rw [if_neg hz]
      by_cases e : bs = List.replicate 512 0
      · rw [if_pos e]
        exact ⟨nil _ rfl, fun ho => by
          unfold overF at ho
          rw [show decide ((2 : Int) = 2) = true from rfl, Bool.or_true] at ho
          cases ho⟩
      · rw [if_neg e]
        exact ⟨nil _ rfl, fun ho => by rw [over_wrong (show ¬ ("end" : Str) = "" by decide +kernel)] at ho; cases ho⟩
/-- all of it behind n blocks -/
theorem run_i4 {xs : List Nat} {o : Int} : ∀ {n : Nat}, 512 * n ≤ xs.length → (∀ c ∈ xs, c < 256) → (∀ j, j < n → overF (runK xs j (st0 o)).1 = false) → I4a o (runK xs n (st0 o)).1 (runK xs n (st0 o)).2 ∧ (overF (runK xs n (st0 o)).1 = false → I4b (runK xs n (st0 o)).1 ∧ SInv (runK xs n (st0 o)).1)
  | 0, _, _, _ => ⟨⟨(fun p hp => nomatch hp), rfl⟩, fun _ => ⟨⟨.inl rfl, .inl rfl, (fun _ h => nomatch h), (fun _ h => nomatch h), fun _ => by
      show o = o + 512 * ((blk "" + blk "" + 0 : Nat) : Int)
      rw [show blk "" = 0 from rfl]
      omega⟩, inv0 o⟩⟩
  | n + 1, hl, hb, hgo => by
    obtain ⟨a, b⟩ := run_i4 (xs := xs) (o := o) (n := n) (by omega) hb fun j hj => hgo j (by omega)
    obtain ⟨b, i⟩ := b (hgo n (by omega))
    have hbl : ((xs.drop (512 * n)).take 512).length = 512 := by rw [List.length_take, List.length_drop]; omega
    have hbb : ∀ c ∈ (xs.drop (512 * n)).take 512, c < 256 := fun c hc => hb c (List.mem_of_mem_drop (List.mem_of_mem_take hc))
    have r := step_i4 i a b hbl hbb
    exact ⟨r.1, fun ho => ⟨r.2 ho, step_inv i hbl hbb ho⟩⟩
/-! ### data that are cut -/
theorem blk_take {xs : List Nat} {a k : Nat} (h : 512 * k + 512 ≤ a) : ((xs.take a).drop (512 * k)).take 512 = (xs.drop (512 * k)).take 512 := by
  rw [List.drop_take, List.take_take, Nat.min_eq_left (by omega)]
theorem run_take {xs : List Nat} {s : St} {a : Nat} : ∀ {j : Nat}, 512 * j ≤ a → runK (xs.take a) j s = runK xs j s
  | 0, _ => rfl
  | j + 1, h => by
    have ih := run_take (xs := xs) (s := s) (a := a) (j := j) (by omega)
    show ((stepF (runK (xs.take a) j s).1 (((xs.take a).drop (512 * j)).take 512)).1, (runK (xs.take a) j s).2 ++ (stepF (runK (xs.take a) j s).1 (((xs.take a).drop (512 * j)).take 512)).2.toList) = _
    rw [ih, blk_take (by omega)]
    rfl
/-- what the stop behind a cut says of the whole data -/
structure StopC (xs : List Nat) (a n : Nat) : Prop where
  al : a ≤ xs.length
  le : 512 * n ≤ a
  go : ∀ j, j < n → overF (runK xs j (st0 0)).1 = false
  end_ : overF (runK xs n (st0 0)).1 = true ∨ a < 512 * n + 512
theorem stopC_of {xs : List Nat} {a n : Nat} (al : a ≤ xs.length) (h : Stop (xs.take a) (st0 0) n) : StopC xs a n ∧ runK (xs.take a) n (st0 0) = runK xs n (st0 0) := by
  have hl : (xs.take a).length = a := by rw [List.length_take]; omega
  obtain ⟨h1, h2, h3⟩ := h
  rw [hl] at h1 h3
  have e := run_take (xs := xs) (s := st0 0) (a := a) (j := n) h1
  rw [e] at h3
  refine ⟨⟨al, h1, fun j hj => ?_, h3⟩, e⟩
  have := h2 j hj
  rw [run_take (by omega)] at this
  exact this
theorem stop_mono {xs : List Nat} {a b n m : Nat} (hab : a ≤ b) (ha : StopC xs a n) (hb : StopC xs b m) : n ≤ m ∧ (overF (runK xs n (st0 0)).1 = true → m = n) := by
  have h1 : n ≤ m := by
    refine Nat.le_of_not_lt fun h => ?_
    have e := ha.go m h
    rcases hb.end_ with h2 | h2
    · rw [e] at h2
      cases h2
    · have := ha.le
      omega
  refine ⟨h1, fun h => ?_⟩
  refine Nat.le_antisymm (Nat.le_of_not_lt fun h2 => ?_) h1
  have e := hb.go n h2
  rw [h] at e
  cases e
theorem stop_same {xs : List Nat} {a n m : Nat} (ha : StopC xs a n) (hb : StopC xs a m) : m = n := by
  have h1 := (stop_mono (Nat.le_refl a) ha hb).1
  have h2 := (stop_mono (Nat.le_refl a) hb ha).1
  omega
theorem StopC.facts {xs : List Nat} {a n : Nat} (h : StopC xs a n) (hb : ∀ c ∈ xs, c < 256) : I4a 0 (runK xs n (st0 0)).1 (runK xs n (st0 0)).2 := by
  have h1 := h.le
  have h2 := h.al
  exact (run_i4 (o := 0) (by omega) hb h.go).1
theorem Mem.bytes_512 {m : Mem} (h : m.Ok) : m.bytes.length % 512 = 0 := by
  have hn := (Mem.Ok.stamp h).1
  have hL := longP_blk chLl chL hn
  have fin : ∀ a, (longP "K" m.tgt).length = 512 * a → m.bytes.length % 512 = 0 := fun a ha => by
    rw [Mem.bytes_blk h ha hL, filled_len]
    unfold pad
    omega
  cases m with
  | sym n b t g => exact fin _ (longP_blk chKl chK h.2)
  | lnk n b t g => exact fin _ (longP_blk chKl chK h.2)
  | _ => exact fin 0 longP_nil'
/-! ### what scan gives, compared -/
/-! ### the pure scanner reads back what is written: blocks -/
theorem runK_pre {a b : List Nat} {s : St} : ∀ {j : Nat}, 512 * j ≤ a.length → runK (a ++ b) j s = runK a j s
  | 0, _ => rfl
  | j + 1, h => by
    have ih := runK_pre (a := a) (b := b) (s := s) (j := j) (by omega)
    have e : ((a ++ b).drop (512 * j)).take 512 = (a.drop (512 * j)).take 512 := by
      rw [List.drop_append_of_le_length (by omega), List.take_append_of_le_length (by rw [List.length_drop]; omega)]
    show ((stepF (runK (a ++ b) j s).1 (((a ++ b).drop (512 * j)).take 512)).1, (runK (a ++ b) j s).2 ++ (stepF (runK (a ++ b) j s).1 (((a ++ b).drop (512 * j)).take 512)).2.toList) = _
    rw [ih, e]
    rfl
theorem runK_app {a b : List Nat} {s : St} {ka : Nat} (ha : a.length = 512 * ka) : ∀ kb : Nat, runK (a ++ b) (ka + kb) s = ((runK b kb (runK a ka s).1).1, (runK a ka s).2 ++ (runK b kb (runK a ka s).1).2)
  | 0 => by
    show runK (a ++ b) ka s = ((runK a ka s).1, (runK a ka s).2 ++ [])
    rw [runK_pre (by omega), List.append_nil]
  | kb + 1 => by
    have ih := runK_app (b := b) (s := s) ha kb
    have e : (a ++ b).drop (512 * (ka + kb)) = b.drop (512 * kb) := by
      rw [show 512 * (ka + kb) = a.length + 512 * kb by omega, List.drop_append, List.drop_of_length_le (by omega), List.nil_append, Nat.add_sub_cancel_left]
    show ((stepF (runK (a ++ b) (ka + kb) s).1 (((a ++ b).drop (512 * (ka + kb))).take 512)).1, (runK (a ++ b) (ka + kb) s).2 ++ (stepF (runK (a ++ b) (ka + kb) s).1 (((a ++ b).drop (512 * (ka + kb))).take 512)).2.toList) = _
    rw [ih, e, List.append_assoc]
    rfl
theorem runK_one {b : List Nat} {s : St} (hb : b.length = 512) : runK b 1 s = ((stepF s b).1, (stepF s b).2.toList) := by
  show ((stepF s ((b.drop (512 * 0)).take 512)).1, [] ++ (stepF s ((b.drop (512 * 0)).take 512)).2.toList) = _
  rw [Nat.mul_zero, List.drop_zero, List.take_of_length_le (by omega), List.nil_append]
theorem step_hd {o p q : Int} {ys b : List Nat} {ln lt : Str} (hz : ¬ (b = List.replicate 512 0 ∧ ln = "" ∧ lt = "")) (hw : wrongF b ln lt = "") :
    stepF ⟨o, p, q, none, ys, ln, lt, 0, ""⟩ b = endedF ⟨o, q, q + 512, some (hdOf b), [], ln, lt, 0, ""⟩ (hdOf b) := by
  show headerF ⟨o, q, q + 512, none, ys, ln, lt, 0, ""⟩ b = _
  unfold headerF
  rw [if_neg hz, if_neg (fun h => h hw)]
theorem step_st {o p q : Int} {ys b : List Nat} {ln lt : Str} {v : HdV} (hw : wstF (strOf v.kind) v.size.toNat (ys ++ b) = "") :
    stepF ⟨o, p, q, some v, ys, ln, lt, 0, ""⟩ b = endedF ⟨o, p, q + 512, some v, ys ++ b, ln, lt, 0, ""⟩ v := by
  show storedF ⟨o, p, q + 512, some v, ys, ln, lt, 0, ""⟩ v b = _
  unfold storedF
  rw [if_neg (fun h => h hw)]
theorem run_st {o p q : Int} {bs : List Nat} {ln lt : Str} {v : HdV} {k : Nat} (hw : ∀ j, j < k → wstF (strOf v.kind) v.size.toNat (bs.take (512 * (j + 1))) = "") (hs : ∀ j, j < k → ((512 * j : Nat) : Int) < v.size) (hl : bs.length = 512 * k) :
    ∀ j, j < k → runK bs j ⟨o, p, q, some v, [], ln, lt, 0, ""⟩ = (⟨o, p, q + ((512 * j : Nat) : Int), some v, bs.take (512 * j), ln, lt, 0, ""⟩, [])
  | 0, _ => by
    show ((⟨o, p, q, some v, [], ln, lt, 0, ""⟩ : St), ([] : List (Int × Mem))) = (⟨o, p, q + ((512 * 0 : Nat) : Int), some v, bs.take (512 * 0), ln, lt, 0, ""⟩, [])
    rw [show q + ((512 * 0 : Nat) : Int) = q by omega, Nat.mul_zero, List.take_zero]
  | j + 1, h => by
    have ih := run_st (o := o) (p := p) (q := q) (ln := ln) (lt := lt) hw hs hl j (by omega)
    show ((stepF (runK bs j _).1 ((bs.drop (512 * j)).take 512)).1, (runK bs j _).2 ++ (stepF (runK bs j _).1 ((bs.drop (512 * j)).take 512)).2.toList) = _
    rw [ih]
    have et : bs.take (512 * j) ++ (bs.drop (512 * j)).take 512 = bs.take (512 * (j + 1)) := by
      rw [show 512 * (j + 1) = 512 * j + 512 by omega, List.take_add]
    have e1 := step_st (o := o) (p := p) (q := q + ((512 * j : Nat) : Int)) (ys := bs.take (512 * j)) (b := (bs.drop (512 * j)).take 512) (ln := ln) (lt := lt) (v := v) (by rw [et]; exact hw j (by omega))
    rw [e1, et]
    have e2 : endedF ⟨o, p, q + ((512 * j : Nat) : Int) + 512, some v, bs.take (512 * (j + 1)), ln, lt, 0, ""⟩ v = (⟨o, p, q + ((512 * (j + 1) : Nat) : Int), some v, bs.take (512 * (j + 1)), ln, lt, 0, ""⟩, none) := by
      unfold endedF
      have := hs (j + 1) h
      rw [if_pos (by show ((bs.take (512 * (j + 1))).length : Int) < v.size; rw [List.length_take]; omega), show q + ((512 * j : Nat) : Int) + 512 = q + ((512 * (j + 1) : Nat) : Int) by push_cast; omega]
    rw [e2]
    rfl
theorem run_all {o p q : Int} {bs : List Nat} {ln lt : Str} {v : HdV} {k : Nat} (hk : 1 ≤ k) (hw : ∀ j, j < k → wstF (strOf v.kind) v.size.toNat (bs.take (512 * (j + 1))) = "") (hs : ∀ j, j < k → ((512 * j : Nat) : Int) < v.size) (hl : bs.length = 512 * k) :
    runK bs k ⟨o, p, q, some v, [], ln, lt, 0, ""⟩ = ((endedF ⟨o, p, q + (bs.length : Int), some v, bs, ln, lt, 0, ""⟩ v).1, (endedF ⟨o, p, q + (bs.length : Int), some v, bs, ln, lt, 0, ""⟩ v).2.toList) := by
  obtain ⟨j, rfl⟩ : ∃ j, k = j + 1 := ⟨k - 1, by omega⟩
  show ((stepF (runK bs j _).1 ((bs.drop (512 * j)).take 512)).1, (runK bs j _).2 ++ (stepF (runK bs j _).1 ((bs.drop (512 * j)).take 512)).2.toList) = _
  rw [run_st hw hs hl j (by omega)]
  have et : bs.take (512 * j) ++ (bs.drop (512 * j)).take 512 = bs := by
    rw [← List.take_add, List.take_of_length_le (by omega)]
  have h0 := hw j (by omega)
  rw [List.take_of_length_le (by omega)] at h0
  have e1 := step_st (o := o) (p := p) (q := q + ((512 * j : Nat) : Int)) (ys := bs.take (512 * j)) (b := (bs.drop (512 * j)).take 512) (ln := ln) (lt := lt) (v := v) (by rw [et]; exact h0)
  rw [e1, et, show q + ((512 * j : Nat) : Int) + 512 = q + (bs.length : Int) by rw [hl]; push_cast; omega, List.nil_append]
/-! ### the pure scanner reads back what is written: headers -/
theorem textV_pl {z : Str} (h : Pl z) : textV z.cps.toList = .str z := by
  have := textV_pad (n := 0) h
  rw [List.replicate_zero, List.append_nil] at this
  rw [this, txtS_self]
theorem hd_of {l z a : Str} {m s t : Nat} (h : HdOk l z a m s t) (hz : z.length ≤ 100) (ha : a.length ≤ 100) : hdOf (HD l z a m s t) = ⟨.str z, m, 0, 0, s, t, .str l, .str a⟩ := by
  unfold hdOf
  rw [f_name h, f_mode h, f_owner h, f_group h, f_size h, f_time h, f_kind h, f_target h, textV_fld h.pz, textV_fld h.pa, textV_pl h.pl, txtS_take hz, txtS_take ha, numN_fld (by decide) h.hm, numN_fld (by decide) (show 0 < 8 ^ 7 by decide), numN_fld (by decide) h.hs, numN_fld (by decide) h.ht]
  rfl
theorem dec_str2 {a b : Str} : decide (V.str a = V.str b) = decide (a = b) := by
  rw [Bool.eq_iff_iff, decide_eq_true_iff, decide_eq_true_iff]
  exact ⟨(fun h => by injection h), (fun h => by rw [h])⟩
def nmRight (z ln : Str) : Bool := if ln = "" then decide (z = LL) || nameB z else decide (z = cutS ln none (some 100))
def tgRight (l a lt : Str) : Bool := if l = "1" ∨ l = "2" then (if lt = "" then nameB a else decide (a = cutS lt none (some 100))) else decide (a = "")
structure RightH (l z a : Str) (m s t : Nat) (ln lt : Str) (n : Int × Int) : Prop where
  ok : HdOk l z a m s t
  nz : z.length ≤ 100
  na : a.length ≤ 100
  nl : ln.length ≤ 5000
  nt : lt.length ≤ 5000
  nm : nmRight z ln = true
  sz : szOf l = some n
  lo : n.1 ≤ s
  hi : (s : Int) ≤ n.2
  kd : kdIn l = decide (z = LL)
  kt : lt = "" ∨ l = "L" ∨ l = "1" ∨ l = "2"
  md : m ≤ 4095
  m0 : z = LL → m = 0
  t0 : z = LL → t = 0
  tg : tgRight l a lt = true
theorem dec_c (a b : Str) : decide (a = b) = decide (b = a) := decide_eq_decide.mpr eq_comm
theorem kd_right {l z lt : Str} {n : Int × Int} (hs : szOf l = some n) (hk : kdIn l = decide (z = LL)) (ht : lt = "" ∨ l = "L" ∨ l = "1" ∨ l = "2") : kdRightV (.str l) (decide (z = LL)) lt = true := by
  have h1 : szG (V.str l) = some n := hs
  have h2 : kdInV (.str l) = decide (z = LL) := by
    rw [← hk]
    unfold kdInV inV kdIn
    simp [eqV_str]
    rw [dec_c "K" l, dec_c "L" l]
  unfold kdRightV
  rw [if_neg (by rw [h1, h2]; simp)]
  rcases ht with h | h | h | h
  · rw [decide_eq_true h]; rfl
  all_goals
    rw [h]
    rw [Bool.or_eq_true]
    right
    unfold inV
    simp [eqV_str]
theorem tg_rightV {l a lt : Str} : tgRightV (.str l) (.str a) lt = tgRight l a lt := by
  unfold tgRightV tgRight
  have e : inV (.str l) [.str "1", .str "2"] = decide (l = "1" ∨ l = "2") := by
    unfold inV
    simp [eqV_str]
    rw [dec_c "1" l, dec_c "2" l]
  rw [e, dec_str2, dec_str2]
  by_cases h : l = "1" ∨ l = "2"
  · rw [if_pos (decide_eq_true h), if_pos h]
    rfl
  · rw [if_neg (by rw [decide_eq_false h]; decide), if_neg h]
theorem nm_rightV {z ln : Str} : nmRightV (.str z) ln = nmRight z ln := by
  unfold nmRightV nmRight
  rw [dec_str2, dec_str2]
  rfl
theorem wrongF_of {xs : List Nat} {ln lt : Str} (h : ∀ p ∈ checksL xs ln lt, p.2 = true) : wrongF xs ln lt = "" := by
  unfold wrongF
  rw [List.find?_eq_none.mpr fun p hp => by rw [h p hp]; decide]
  rfl
theorem cs_hd {l z a : Str} {m s t : Nat} (h : HdOk l z a m s t) : CS (HD l z a m s t) = SM l z a m s t := by
  have e1 : (HD l z a m s t).take 148 = FR z m s t := by
    have e : HD l z a m s t = FR z m s t ++ ((fldO (SM l z a m s t) 6 ++ [32]) ++ BK l a) := by unfold HD; simp only [List.append_assoc]
    rw [e, ← FR_len (z := z) h.hm h.hs h.ht, List.take_left]
  have e2 : (HD l z a m s t).drop 156 = BK l a := by
    have e : HD l z a m s t = (FR z m s t ++ fldO (SM l z a m s t) 6 ++ [32]) ++ BK l a := rfl
    rw [e, ← l_pre h, List.drop_left]
  unfold CS
  rw [e1, e2]
  unfold SM
  omega
theorem wrongF_hd {l z a : Str} {m s t : Nat} {ln lt : Str} {n : Int × Int} (R : RightH l z a m s t ln lt n) : wrongF (HD l z a m s t) ln lt = "" := by
  refine wrongF_of ?_
  unfold checksL
  rw [hd_of R.ok R.nz R.na, f_magic R.ok, f_rest R.ok, f_sum R.ok, cs_hd R.ok]
  have hsz : szG (V.str l) = some n := R.sz
  have hlo := R.lo
  have hhi := R.hi
  have hmd := R.md
  have hzz : (V.str z = V.str LL) ↔ z = LL := ⟨(fun h => by injection h), (fun h => by rw [h])⟩
  simp only [List.mem_cons, List.not_mem_nil, or_false, forall_eq_or_imp, forall_eq]
  rw [dec_str2]
  refine ⟨nm_rightV.trans R.nm, ?_, rfl, rfl, decide_eq_true (by omega), ?_, kd_right R.sz R.kd R.kt, tg_rightV.trans R.tg, rfl, decide_eq_true trivial, decide_eq_true trivial, ?_⟩
  · by_cases e : z = LL
    · rw [if_pos (hzz.mpr e), R.m0 e]
      rfl
    · rw [if_neg (fun h => e (hzz.mp h)), Bool.and_eq_true, decide_eq_true_iff, decide_eq_true_iff]
      omega
  · by_cases e : z = LL
    · rw [if_pos (hzz.mpr e), R.t0 e]
      rfl
    · rw [if_neg (fun h => e (hzz.mp h)), decide_eq_true_iff]
      omega
  · rw [hsz, Option.getD_some, Bool.and_eq_true, decide_eq_true_iff, decide_eq_true_iff]
    exact ⟨hlo, hhi⟩
theorem hd_nz {l z a : Str} {m s t : Nat} (h : HdOk l z a m s t) : HD l z a m s t ≠ List.replicate 512 0 := fun e => by
  have h1 := f_magic h
  rw [e] at h1
  revert h1
  decide +kernel
/-! ### the headers of members and of long parts are right -/
def longOf (z : Str) : Str := if z.length ≤ 100 then "" else z
theorem take1_short {z : Str} (h : z.length ≤ 100) : take1 z = z := txtS_take h
def hdM (m : Mem) : HdV := ⟨.str (take1 m.nm), m.bits, 0, 0, (m.stored.length : Nat), m.tm, .str m.kc, .str (take1 m.tgt)⟩
theorem map_512 {z : Int} {sp : List (Int × Int)} (hn : ∀ i ∈ numsOf z sp, 0 ≤ i ∧ i ≤ 4096) (h6 : sp.length ≤ 50) : (filled (linesOf (numsOf z sp))).length = 512 := by
  have h1 := lines_len _ hn
  have h2 := nums_len z sp
  have h3 : 1 ≤ (linesOf (numsOf z sp)).length := by
    unfold linesOf numsOf
    rw [List.flatMap_cons, List.length_append, List.length_append, List.length_singleton]
    omega
  rw [filled_len]
  unfold pad
  omega
theorem cat_lenS : ∀ sp : List (Int × List Int), lenS (spn sp) = ((cat sp).length : Int)
  | [] => rfl
  | s :: sp => by
    have ih := cat_lenS sp
    have e1 : lenS (spn (s :: sp)) = (s.2.length : Int) + lenS (spn sp) := List.sum_cons
    have e2 : cat (s :: sp) = s.2.map Int.toNat ++ cat sp := List.flatMap_cons
    rw [e1, e2, ih, List.length_append, List.length_map]
    omega
theorem kc_in (m : Mem) : m.kc ∈ [("0" : Str), "S", "5", "2", "1"] := by cases m <;> simp [Mem.kc]
theorem kc_all : ∀ z ∈ [("0" : Str), "S", "5", "2", "1"], z ≠ "K" ∧ z ≠ "L" := by decide +kernel
theorem kc_ne (m : Mem) : m.kc ≠ "K" ∧ m.kc ≠ "L" := kc_all _ (kc_in m)
theorem fldT_take (z : Str) : fldT (take1 z) = fldT z := by
  unfold fldT
  rw [take1_list, List.take_take, Nat.min_self]
theorem HD_take (l z a : Str) (m s t : Nat) : HD l (take1 z) (take1 a) m s t = HD l z a m s t := by
  unfold HD SM FR BK
  rw [fldT_take, fldT_take]
theorem take1_le (z : Str) : (take1 z).length ≤ 100 := by
  show (take1 z).cps.size ≤ 100
  rw [← Array.length_toList, take1_list, List.length_take]
  omega
theorem pl_take {z : Str} (h : Pl z) : Pl (take1 z) := fun c hc => by
  rw [take1_list] at hc
  exact h c (List.mem_of_mem_take hc)
theorem pl_empty : Pl "" := by intro c hc; revert c; decide +kernel
theorem name_take_ne {n : Str} (h : nameB n = true) : take1 n ≠ LL := by
  intro e
  by_cases hl : n.length ≤ 100
  · rw [take1_short hl] at e
    rw [e] at h
    revert h
    decide +kernel
  · have e2 := congrArg (fun z : Str => z.cps.toList.length) e
    simp only [take1_list, List.length_take] at e2
    have e3 : LL.cps.toList.length = 13 := by decide +kernel
    rw [e3] at e2
    have e4 : n.cps.toList.length = n.length := Array.length_toList
    omega
theorem nm_right {n : Str} (h : nameB n = true) : nmRight (take1 n) (longOf n) = true := by
  unfold nmRight longOf
  by_cases hl : n.length ≤ 100
  · rw [if_pos hl, if_pos rfl, take1_short hl, h, Bool.or_true]
  · rw [if_neg hl, take1_cut, if_neg (fun e => hl (by rw [e]; decide +kernel))]
    exact decide_eq_true rfl
theorem tg_link {l g : Str} (hl : l = "1" ∨ l = "2") (h : nameB g = true) : tgRight l (take1 g) (longOf g) = true := by
  unfold tgRight longOf
  rw [if_pos hl]
  by_cases hs : g.length ≤ 100
  · rw [if_pos hs, if_pos rfl, take1_short hs, h]
  · rw [if_neg hs, take1_cut, if_neg (fun e => hs (by rw [e]; decide +kernel))]
    exact decide_eq_true rfl
theorem long_le {n : Str} (h : n.length ≤ 250) : (longOf n).length ≤ 5000 := by
  unfold longOf
  split
  · decide +kernel
  · omega
theorem name_len {n : Str} (h : nameB n = true) : n.length ≤ 250 := (of_name h).2.1
theorem right_long {k t lt : Str} (hk : k = "K" ∨ k = "L") (h1 : 100 < t.length) (h2 : t.length ≤ 250) (hl : lt.length ≤ 5000) (h3 : lt = "" ∨ k = "L") : RightH k LL "" 0 (t.length + 1) 0 "" lt (102, 251) where
  ok := ⟨by rcases hk with rfl | rfl <;> decide +kernel, by rcases hk with rfl | rfl <;> (intro c hc; revert c; decide +kernel), by intro c hc; revert c; decide +kernel, pl_empty, by decide, by omega, by decide⟩
  nz := by decide +kernel
  na := by decide +kernel
  nl := by decide +kernel
  nt := hl
  nm := by decide +kernel
  sz := by rcases hk with rfl | rfl <;> decide +kernel
  lo := by show (102 : Int) ≤ ((t.length + 1 : Nat) : Int); omega
  hi := by show ((t.length + 1 : Nat) : Int) ≤ 251; omega
  kd := by rcases hk with rfl | rfl <;> decide +kernel
  kt := h3.imp id Or.inl
  md := by decide
  m0 := fun _ => rfl
  t0 := fun _ => rfl
  tg := by rcases hk with rfl | rfl <;> (unfold tgRight; rw [if_neg (by decide +kernel)]; decide +kernel)
theorem kc_pl : ∀ z ∈ [("0" : Str), "S", "5", "2", "1"], z.cps.toList.length = 1 ∧ (∀ c ∈ z.cps.toList, c ≠ 0 ∧ c < 128) ∧ kdIn z = false := by decide +kernel
theorem Mem.Ok.pl {m : Mem} (h : m.Ok) : Pl m.nm ∧ Pl m.tgt := by
  refine ⟨pl_name (Mem.Ok.stamp h).1, ?_⟩
  cases m with
  | sym n b t g => exact pl_name h.2
  | lnk n b t g => exact pl_name h.2
  | _ => exact pl_empty
/-- how many bytes a kind may store -/
def Mem.lim : Mem → Int × Int
  | .file .. => (0, 4096)
  | .sparse .. => (512, 4608)
  | _ => (0, 0)
theorem cat_max {z : Int} {sp : List (Int × List Int)} (h : spansOk z 0 (spn sp)) (hz0 : 0 ≤ z) (hz : z ≤ 4096) : ((cat sp).length : Int) ≤ 4096 := by
  have := cat_len hz (Int.le_refl 0) h
  omega
theorem Mem.Ok.lim {m : Mem} (h : m.Ok) : m.lim.1 ≤ (m.stored.length : Int) ∧ (m.stored.length : Int) ≤ m.lim.2 := by
  cases m with
  | file n b t ns =>
    have e : (Mem.file n b t ns).stored.length = ns.length := List.length_map _
    rw [e]
    exact ⟨by show (0 : Int) ≤ _; omega, by show ((ns.length : Nat) : Int) ≤ 4096; have := h.2.1; omega⟩
  | sparse n b t z sp =>
    obtain ⟨st, z0, z1, hl, hso, hall⟩ := h
    have hf5 := map_512 (spn_small z0 z1 hl hso) (by unfold spn; rw [List.length_map]; exact hl)
    have e : (Mem.sparse n b t z sp).stored.length = 512 + (cat sp).length := by
      show (filled (linesOf (numsOf z (spn sp))) ++ cat sp).length = _
      rw [List.length_append, hf5]
    have := cat_max hso z0 z1
    rw [e]
    exact ⟨by show (512 : Int) ≤ _; omega, by show _ ≤ (4608 : Int); omega⟩
  | dir n b t => exact ⟨Int.le_refl 0, Int.le_refl 0⟩
  | sym n b t g => exact ⟨Int.le_refl 0, Int.le_refl 0⟩
  | lnk n b t g => exact ⟨Int.le_refl 0, Int.le_refl 0⟩
theorem right_m {m : Mem} (h : m.Ok) : RightH m.kc (take1 m.nm) (take1 m.tgt) m.bits.toNat m.stored.length m.tm.toNat (longOf m.nm) (longOf m.tgt) m.lim where
  ok := by
    have st := Mem.Ok.stamp h
    have lm := Mem.Ok.lim h
    have l2 : m.lim.2 ≤ 4608 := by cases m <;> simp [Mem.lim]
    refine ⟨(kc_pl _ (kc_in m)).1, (kc_pl _ (kc_in m)).2.1, pl_take (Mem.Ok.pl h).1, pl_take (Mem.Ok.pl h).2, ?_, ?_, ?_⟩
    · have := st.2.2.1
      have e : (8 : Nat) ^ 7 = 2097152 := by decide
      omega
    · have e : (8 : Nat) ^ 11 = 8589934592 := by decide
      omega
    · have := st.2.2.2.2
      have e : (8 : Nat) ^ 11 = 8589934592 := by decide
      omega
  nz := take1_le _
  na := take1_le _
  nl := long_le (Mem.Ok.nm h).2
  nt := long_le (Mem.Ok.tgt h).2
  nm := nm_right (Mem.Ok.stamp h).1
  sz := by
    cases m with
    | file n b t ns => show szOf "0" = some (0, 4096); decide +kernel
    | sparse n b t z sp => show szOf "S" = some (512, 4608); decide +kernel
    | dir n b t => show szOf "5" = some (0, 0); decide +kernel
    | sym n b t g => show szOf "2" = some (0, 0); decide +kernel
    | lnk n b t g => show szOf "1" = some (0, 0); decide +kernel
  lo := (Mem.Ok.lim h).1
  hi := (Mem.Ok.lim h).2
  kd := by rw [(kc_pl _ (kc_in m)).2.2, decide_eq_false (name_take_ne (Mem.Ok.stamp h).1)]
  kt := by
    cases m with
    | sym n b t g => exact .inr (.inr (.inr rfl))
    | lnk n b t g => exact .inr (.inr (.inl rfl))
    | file n b t ns => exact .inl (by show longOf "" = ""; decide +kernel)
    | sparse n b t z sp => exact .inl (by show longOf "" = ""; decide +kernel)
    | dir n b t => exact .inl (by show longOf "" = ""; decide +kernel)
  md := by have := (Mem.Ok.stamp h).2.2.1; omega
  m0 := fun e => absurd e (name_take_ne (Mem.Ok.stamp h).1)
  t0 := fun e => absurd e (name_take_ne (Mem.Ok.stamp h).1)
  tg := by
    cases m with
    | sym n b t g => exact tg_link (.inr rfl) h.2
    | lnk n b t g => exact tg_link (.inl rfl) h.2
    | file n b t ns => show tgRight "0" (take1 "") (longOf "") = true; decide +kernel
    | sparse n b t z sp => show tgRight "S" (take1 "") (longOf "") = true; decide +kernel
    | dir n b t => show tgRight "5" (take1 "") (longOf "") = true; decide +kernel
/-! ### the pure scanner reads back what is written: long parts -/
theorem text_of {z : Str} (h : Pl z) {n : Nat} : textV (z.cps.toList ++ List.replicate n 0) = .str z ∧ stripN (z.cps.toList ++ List.replicate n 0) = z.cps.toList := by
  refine ⟨?_, strip_pad fun c hc => (h c hc).1⟩
  rw [textV_pad h, txtS_self]
theorem filled_z (z : Str) : ∃ n, filled (z.cps.toList ++ [0]) = z.cps.toList ++ List.replicate n 0 := by
  refine ⟨1 + pad (z.cps.toList ++ [0]).length, ?_⟩
  unfold filled
  rw [List.append_assoc, ← List.replicate_append_replicate]
  rfl
theorem filled_512 {z : Str} (h : z.length ≤ 250) : (filled (z.cps.toList ++ [0])).length = 512 := by
  have e : z.cps.toList.length = z.length := by simp [Str.length]
  rw [filled_len, List.length_append, List.length_singleton, e]
  unfold pad
  omega
theorem run_long {k z lt : Str} {o p q : Int} {ys : List Nat} (hk : k = "K" ∨ k = "L") (h1 : 100 < z.length) (hn : nameB z = true) (hl : lt.length ≤ 5000) (h3 : lt = "" ∨ k = "L") :
    runK (longP k z) 2 ⟨o, p, q, none, ys, "", lt, 0, ""⟩ = (⟨o, q, q + 1024, none, filled (z.cps.toList ++ [0]), if k = "K" then "" else z, if k = "K" then z else lt, 0, ""⟩, []) := by
  have h2 := name_len hn
  have R := right_long (lt := lt) hk h1 h2 hl h3
  have e0 : longP k z = HD k LL "" 0 (z.length + 1) 0 ++ filled (z.cps.toList ++ [0]) := by
    unfold longP
    rw [if_neg (by omega)]
  have hh := hd_len R.ok
  have hf := filled_512 h2
  rw [e0, runK_app (ka := 1) (kb := 1) (by omega), runK_one hh, step_hd (fun h => hd_nz R.ok h.1) (wrongF_hd R), hd_of R.ok R.nz R.na]
  have e1 : endedF ⟨o, q, q + 512, some ⟨.str LL, ((0 : Nat) : Int), 0, 0, ((z.length + 1 : Nat) : Int), ((0 : Nat) : Int), .str k, .str ""⟩, [], "", lt, 0, ""⟩ ⟨.str LL, ((0 : Nat) : Int), 0, 0, ((z.length + 1 : Nat) : Int), ((0 : Nat) : Int), .str k, .str ""⟩ =
      (⟨o, q, q + 512, some ⟨.str LL, ((0 : Nat) : Int), 0, 0, ((z.length + 1 : Nat) : Int), ((0 : Nat) : Int), .str k, .str ""⟩, [], "", lt, 0, ""⟩, none) := by
    unfold endedF
    rw [if_pos (by show ((0 : Nat) : Int) < ((z.length + 1 : Nat) : Int); omega)]
  rw [e1]
  obtain ⟨n, hfz⟩ := filled_z z
  have ht := text_of (pl_name hn) (n := n)
  rw [← hfz] at ht
  have hw : wstF (strOf (V.str k)) (((z.length + 1 : Nat) : Int)).toNat ([] ++ filled (z.cps.toList ++ [0])) = "" := by
    unfold wstF
    rw [List.nil_append, if_pos (show kdIn (strOf (V.str k)) = true from by rcases hk with rfl | rfl <;> decide +kernel), ht.1, ht.2, if_pos]
    refine ⟨hn, by rw [txtS_self], ?_⟩
    rw [txtS_self, Int.toNat_natCast]
    omega
  rw [runK_one hf, step_st hw, List.nil_append]
  have e2 : ¬ (((filled (z.cps.toList ++ [0])).length : Int) < ((z.length + 1 : Nat) : Int)) := by omega
  unfold endedF
  rw [if_neg (show ¬ (((filled (z.cps.toList ++ [0])).length : Int) < ((z.length + 1 : Nat) : Int)) from e2)]
  rcases hk with rfl | rfl
  · rw [if_pos rfl, if_pos rfl, if_pos rfl]
    show ((⟨o, q, q + 512 + 512, none, filled (z.cps.toList ++ [0]), "", strOf (textV (filled (z.cps.toList ++ [0]))), 0, ""⟩ : St), ([] : List (Int × Mem))) = _
    rw [ht.1, Int.add_assoc]
    rfl
  · rw [if_neg (show ¬ V.str "L" = V.str "K" by decide +kernel), if_pos rfl, if_neg (by decide +kernel), if_neg (by decide +kernel)]
    show ((⟨o, q, q + 512 + 512, none, filled (z.cps.toList ++ [0]), strOf (textV (filled (z.cps.toList ++ [0]))), lt, 0, ""⟩ : St), ([] : List (Int × Mem))) = _
    rw [ht.1, Int.add_assoc]
    rfl
/-! ### the pure scanner reads back what is written: maps -/
theorem spansC_of {z : Int} : ∀ {l : Int} {sp : List (Int × Int)}, spansOk z l sp → spansC z l sp = true
  | _, [], _ => rfl
  | l, (b, n) :: r, ⟨h1, h2, h3, h4⟩ => by
    rw [spansC_cons, if_neg (by show ¬ (b < l ∨ n < 1 ∨ z < b + n); omega)]
    exact spansC_of h4
theorem dz_digL {i : Int} (h0 : 0 ≤ i) (h1 : i ≤ 4096) : digL (dz i).cps.toList = true := by
  obtain ⟨n, rfl⟩ := Int.eq_ofNat_of_zero_le h0
  have h := dz_dig n (List.mem_range.mpr (by omega))
  rw [Bool.and_eq_true] at h
  unfold digL
  rw [Bool.and_eq_true]
  refine ⟨?_, ?_⟩
  · have e : (dz (n : Int)).cps.toList.length = (dz (n : Int)).length := by simp [Str.length]
    have h2 : 1 ≤ (dz (n : Int)).length := of_decide_eq_true h.2
    cases q : (dz (n : Int)).cps.toList with
    | nil => rw [q] at e; simp at e; omega
    | cons x r => rfl
  · exact List.all_eq_true.mpr fun c hc => List.all_eq_true.mp h.1 c hc
theorem dz_val {i : Int} (h0 : 0 ≤ i) (h1 : i ≤ 4096) : valN (dz i).cps.toList = i := by
  have hd := dz_digL h0 h1
  have e := dig_int hd (by
    have := (dz_small h0 h1).2
    have e : (dz i).cps.toList.length = (dz i).length := by simp [Str.length]
    omega)
  rw [txtS_self, dz_reads h0 h1] at e
  unfold valN
  exact (Option.some.inj e).symm
theorem linesN_of {ns : List Int} (h : ∀ i ∈ ns, 0 ≤ i ∧ i ≤ 4096) : linesN (linesOf ns) = ns.map fun i => (dz i).cps.toList := by
  unfold linesN
  rw [spl_lines ns h, List.dropLast_concat]
theorem map_val : ∀ {ns : List Int}, (∀ i ∈ ns, 0 ≤ i ∧ i ≤ 4096) → (ns.map fun i => (dz i).cps.toList).map valN = ns
  | [], _ => rfl
  | i :: r, h => by
    have h1 := h i List.mem_cons_self
    rw [List.map_cons, List.map_cons, dz_val h1.1 h1.2, map_val fun j hj => h j (List.mem_cons_of_mem _ hj)]
theorem getD_some {ns : List Int} {i : Nat} {x : Int} (h : ns[i]? = some x) : ns.getD i 0 = x := by
  rw [List.getD_eq_getElem?_getD, h]
  rfl
theorem pairsI_nums (z : Int) (sp : List (Int × Int)) : pairsI (numsOf z sp) = sp := by
  unfold pairsI
  rw [nums_len, show (2 + 2 * sp.length - 2) / 2 = sp.length by omega]
  refine List.ext_getElem? fun i => ?_
  rw [List.getElem?_map]
  by_cases hi : i < sp.length
  · rw [List.getElem?_range hi, List.getElem?_eq_getElem hi]
    have hs : sp[i]? = some sp[i] := List.getElem?_eq_getElem hi
    obtain ⟨a1, a2⟩ := flat_at sp i hs
    have b1 : (numsOf z sp)[2 + 2 * i]? = some sp[i].1 := by
      rw [← a1, show 2 + 2 * i = 2 * i + 1 + 1 by omega]
      rfl
    have b2 : (numsOf z sp)[2 + 2 * i + 1]? = some sp[i].2 := by
      rw [← a2, show 2 + 2 * i + 1 = 2 * i + 1 + 1 + 1 by omega]
      rfl
    rw [Option.map_some, getD_some b1, getD_some b2]
  · rw [List.getElem?_eq_none (by rw [List.length_range]; omega), List.getElem?_eq_none (by omega)]
    rfl
theorem mapN_of {z st : Int} {sp : List (Int × Int)} (hz : 0 ≤ z ∧ z ≤ 4096) (hl : sp.length ≤ 50) (hs : spansOk z 0 sp) (hn : ∀ i ∈ numsOf z sp, 0 ≤ i ∧ i ≤ 4096) (hst : st = 512 + lenS sp) : mapN (filled (linesOf (numsOf z sp))) st = some (z, sp) := by
  have e1 : (linesN (linesOf (numsOf z sp))).map valN = numsOf z sp := by rw [linesN_of hn, map_val hn]
  unfold mapN
  rw [strip_lines hn, e1, pairsI_nums, if_pos, if_pos, if_pos]
  · rfl
  · exact ⟨hz, ⟨hl, spansC_of hs⟩, rfl, hst⟩
  · rw [linesN_of hn]
    refine ⟨(fun e => by cases e), List.all_eq_true.mpr fun l hl => ?_⟩
    obtain ⟨i, hi, rfl⟩ := List.mem_map.mp hl
    exact dz_digL (hn i hi).1 (hn i hi).2
  · refine List.all_eq_true.mpr fun c hc => ?_
    unfold mapB digN
    rcases lines_ne hn c hc with rfl | ⟨h1, h2⟩
    · rfl
    · rw [decide_eq_true h1, decide_eq_true h2]
      rfl
theorem cutN_catZ {zs : List Nat} : ∀ {sp : List (Int × List Int)}, (∀ s ∈ sp, s.2.all inByte = true) → cutN (cat sp ++ zs) (spn sp) = sp
  | [], _ => rfl
  | s :: sp, h => by
    have e1 : cat (s :: sp) = s.2.map Int.toNat ++ cat sp := List.flatMap_cons
    have ih := cutN_catZ (zs := zs) fun q hq => h q (List.mem_cons_of_mem _ hq)
    show (s.1, natI ((cat (s :: sp) ++ zs).take ((s.2.length : Int)).toNat)) :: cutN ((cat (s :: sp) ++ zs).drop ((s.2.length : Int)).toNat) (spn sp) = _
    have el : ((s.2.length : Int)).toNat = (s.2.map Int.toNat).length := by rw [List.length_map]; omega
    rw [el, e1, List.append_assoc, List.drop_left, List.take_left, ih]
    have en : natI (s.2.map Int.toNat) = s.2 := by
      unfold natI
      rw [List.map_map]
      refine (List.map_congr_left fun i hi => ?_).trans (List.map_id _)
      have := List.all_eq_true.mp (h s List.mem_cons_self) i hi
      unfold inByte at this
      rw [Bool.and_eq_true] at this
      have h0 : 0 ≤ i := of_decide_eq_true this.1
      show ((i.toNat : Nat) : Int) = i
      omega
    rw [en]
/-! ### the pure scanner reads back what is written: members -/
theorem nat_int {ns : List Int} (h : ns.all inByte = true) : natI (ns.map Int.toNat) = ns := by
  unfold natI
  rw [List.map_map]
  refine (List.map_congr_left fun i hi => ?_).trans (List.map_id _)
  have := List.all_eq_true.mp h i hi
  unfold inByte at this
  rw [Bool.and_eq_true] at this
  have h0 : 0 ≤ i := of_decide_eq_true this.1
  show ((i.toNat : Nat) : Int) = i
  omega
theorem pick_own (z : Str) : pickT (.str (take1 z)) (longOf z) = z := by
  unfold pickT longOf
  by_cases h : z.length ≤ 100
  · rw [if_pos h, if_pos rfl]
    exact take1_short h
  · rw [if_neg h, if_neg (fun e => h (by rw [e]; decide +kernel))]
theorem sp_first {z : Int} {sp : List (Int × List Int)} {b t : Int} {n : Str} (ho : (Mem.sparse n b t z sp).Ok) : (filled (Mem.sparse n b t z sp).stored).take 512 = filled (linesOf (numsOf z (spn sp))) ∧
    mapN (filled (linesOf (numsOf z (spn sp)))) (((Mem.sparse n b t z sp).stored.length : Nat) : Int) = some (z, spn sp) ∧ ∃ p, (filled (Mem.sparse n b t z sp).stored).drop 512 = cat sp ++ List.replicate p 0 := by
  obtain ⟨st, z0, z1, hl, hso, hall⟩ := ho
  have hn := spn_small z0 z1 hl hso
  have hl' : (spn sp).length ≤ 50 := by unfold spn; rw [List.length_map]; exact hl
  have h5 := map_512 hn hl'
  have e : filled (Mem.sparse n b t z sp).stored = filled (linesOf (numsOf z (spn sp))) ++ (cat sp ++ List.replicate (pad (Mem.sparse n b t z sp).stored.length) 0) := by
    unfold filled
    rw [← List.append_assoc]
    rfl
  refine ⟨?_, mapN_of ⟨z0, z1⟩ hl' hso hn ?_, pad (Mem.sparse n b t z sp).stored.length, ?_⟩
  · rw [e, ← h5, List.take_left]
  · show (((filled (linesOf (numsOf z (spn sp))) ++ cat sp).length : Nat) : Int) = _
    rw [List.length_append, h5, cat_lenS]
    push_cast
    rfl
  · rw [e, ← h5, List.drop_left]
theorem memOf_own {m : Mem} (ho : m.Ok) : memOf (hdM m) (longOf m.nm) (longOf m.tgt) (filled m.stored) = m := by
  have ps : pickT (hdM m).name (longOf m.nm) = m.nm := pick_own _
  have pt : pickT (hdM m).target (longOf m.tgt) = m.tgt := pick_own _
  unfold memOf
  rw [ps, pt]
  cases m with
  | file n b t ns =>
    rw [if_pos (show (hdM (.file n b t ns)).kind = .str "0" from rfl)]
    show Mem.file n b t (natI ((filled (Mem.file n b t ns).stored).take (((Mem.file n b t ns).stored.length : Int)).toNat)) = _
    rw [Int.toNat_natCast, take_filled]
    show Mem.file n b t (natI (ns.map Int.toNat)) = _
    rw [nat_int ho.2.2]
  | sparse n b t z sp =>
    have k : (hdM (.sparse n b t z sp)).kind = .str "S" := rfl
    rw [k, if_neg (by decide +kernel), if_neg (by decide +kernel), if_neg (by decide +kernel), if_neg (by decide +kernel)]
    obtain ⟨e1, e2, p, e3⟩ := sp_first ho
    rw [e1, show mapN (filled (linesOf (numsOf z (spn sp)))) (hdM (.sparse n b t z sp)).size = some (z, spn sp) from e2, e3]
    show Mem.sparse n b t z (cutN (cat sp ++ List.replicate p 0) (spn sp)) = _
    rw [cutN_catZ ho.2.2.2.2.2]
  | dir n b t =>
    have k : (hdM (.dir n b t)).kind = .str "5" := rfl
    rw [k, if_neg (by decide +kernel), if_pos rfl]
    rfl
  | sym n b t g =>
    have k : (hdM (.sym n b t g)).kind = .str "2" := rfl
    rw [k, if_neg (by decide +kernel), if_neg (by decide +kernel), if_pos rfl]
    rfl
  | lnk n b t g =>
    have k : (hdM (.lnk n b t g)).kind = .str "1" := rfl
    rw [k, if_neg (by decide +kernel), if_neg (by decide +kernel), if_neg (by decide +kernel), if_pos rfl]
    rfl
theorem pad_drop (xs : List Nat) (n p : Nat) : ((xs ++ List.replicate p 0).take n).drop xs.length = List.replicate (((xs ++ List.replicate p 0).take n).length - xs.length) 0 := by
  rw [List.drop_take, List.drop_left, List.take_replicate, List.length_take, List.length_append, List.length_replicate]
  congr 1
  omega
theorem wst_own {m : Mem} (ho : m.Ok) (j : Nat) : wstF m.kc m.stored.length ((filled m.stored).take (512 * (j + 1))) = "" := by
  unfold wstF
  rw [if_neg (by rw [(kc_pl _ (kc_in m)).2.2]; decide), if_neg, if_pos]
  · exact pad_drop _ _ _
  · rintro ⟨e, h⟩
    cases m with
    | sparse n b t z sp =>
      obtain ⟨e1, e2, _⟩ := sp_first ho
      rw [List.take_take, Nat.min_eq_left (by omega), e1, e2] at h
      cases h
    | file n b t ns => exact absurd e (by show ¬ ("0" : Str) = "S"; decide +kernel)
    | dir n b t => exact absurd e (by show ¬ ("5" : Str) = "S"; decide +kernel)
    | sym n b t g => exact absurd e (by show ¬ ("2" : Str) = "S"; decide +kernel)
    | lnk n b t g => exact absurd e (by show ¬ ("1" : Str) = "S"; decide +kernel)
/-! ### the pure scanner reads back what is written: runs -/
structure Run (xs : List Nat) (k : Nat) (s s' : St) (fs : List (Int × Mem)) : Prop where
  len : xs.length = 512 * k
  eq : runK xs k s = (s', fs)
  go : ∀ j, j ≤ k → overF (runK xs j s).1 = false
theorem Run.nil {s : St} (h : overF s = false) : Run [] 0 s s [] := ⟨rfl, rfl, fun j hj => by
  have : j = 0 := by omega
  subst this
  exact h⟩
theorem Run.app {a b : List Nat} {ka kb : Nat} {s s1 s2 : St} {f1 f2 : List (Int × Mem)} (h1 : Run a ka s s1 f1) (h2 : Run b kb s1 s2 f2) : Run (a ++ b) (ka + kb) s s2 (f1 ++ f2) := by
  refine ⟨by rw [List.length_append, h1.len, h2.len]; omega, ?_, fun j hj => ?_⟩
  · rw [runK_app h1.len, h1.eq, h2.eq]
  · by_cases g : j ≤ ka
    · rw [runK_pre (by have := h1.len; omega)]
      exact h1.go j g
    · obtain ⟨i, rfl⟩ : ∃ i, j = ka + i := ⟨j - ka, by omega⟩
      rw [runK_app h1.len, h1.eq]
      exact h2.go i (by omega)
theorem Run.one {b : List Nat} {s s' : St} {f : Option (Int × Mem)} (hb : b.length = 512) (h0 : overF s = false) (h1 : stepF s b = (s', f)) (h2 : overF s' = false) : Run b 1 s s' f.toList := by
  refine ⟨by omega, by rw [runK_one hb, h1], fun j hj => ?_⟩
  rcases (by omega : j = 0 ∨ j = 1) with rfl | rfl
  · exact h0
  · rw [runK_one hb, h1]
    exact h2
theorem over0 {o p q : Int} {v : Option HdV} {ys : List Nat} {ln lt : Str} : overF ⟨o, p, q, v, ys, ln, lt, 0, ""⟩ = false := by
  unfold overF
  rfl
theorem Run.of_long {k z lt : Str} {o p q : Int} {ys : List Nat} (hk : k = "K" ∨ k = "L") (h1 : 100 < z.length) (hn : nameB z = true) (hl : lt.length ≤ 5000) (h3 : lt = "" ∨ k = "L") :
    Run (longP k z) 2 ⟨o, p, q, none, ys, "", lt, 0, ""⟩ ⟨o, q, q + 1024, none, filled (z.cps.toList ++ [0]), if k = "K" then "" else z, if k = "K" then z else lt, 0, ""⟩ [] := by
  have h2 := name_len hn
  have R := right_long (lt := lt) hk h1 h2 hl h3
  have e0 : longP k z = HD k LL "" 0 (z.length + 1) 0 ++ filled (z.cps.toList ++ [0]) := by
    unfold longP
    rw [if_neg (by omega)]
  have hh := hd_len R.ok
  have hf := filled_512 h2
  refine ⟨by rw [e0, List.length_append]; omega, run_long hk h1 hn hl h3, fun j hj => ?_⟩
  rcases (by omega : j = 0 ∨ j = 1 ∨ j = 2) with rfl | rfl | rfl
  · exact over0
  · rw [e0, runK_pre (by omega), runK_one hh, step_hd (fun h => hd_nz R.ok h.1) (wrongF_hd R), hd_of R.ok R.nz R.na]
    unfold endedF
    rw [if_pos (by show ((0 : Nat) : Int) < ((z.length + 1 : Nat) : Int); omega)]
    exact over0
  · rw [run_long hk h1 hn hl h3]
    exact over0
theorem run_optK {z : Str} {o p q : Int} {ys : List Nat} (hn : 100 < z.length → nameB z = true) : ∃ p' ys' k, Run (longP "K" z) k ⟨o, p, q, none, ys, "", "", 0, ""⟩ ⟨o, p', q + ((longP "K" z).length : Int), none, ys', "", longOf z, 0, ""⟩ [] := by
  by_cases h : z.length ≤ 100
  · have e : longP "K" z = [] := by unfold longP; rw [if_pos h]
    have e2 : longOf z = "" := by unfold longOf; rw [if_pos h]
    rw [e, e2, show q + (([] : List Nat).length : Int) = q by simp]
    exact ⟨p, ys, 0, .nil over0⟩
  · have r := Run.of_long (k := "K") (z := z) (lt := "") (o := o) (p := p) (q := q) (ys := ys) (.inl rfl) (by omega) (hn (by omega)) (by decide +kernel) (.inl rfl)
    have e2 : longOf z = z := by unfold longOf; rw [if_neg h]
    have e3 := r.len
    rw [if_pos rfl, if_pos rfl] at r
    rw [e2, e3]
    exact ⟨_, _, _, r⟩
theorem run_optL {z lt : Str} {o p q : Int} {ys : List Nat} (hn : 100 < z.length → nameB z = true) (hl : lt.length ≤ 5000) : ∃ p' ys' k, Run (longP "L" z) k ⟨o, p, q, none, ys, "", lt, 0, ""⟩ ⟨o, p', q + ((longP "L" z).length : Int), none, ys', longOf z, lt, 0, ""⟩ [] := by
  by_cases h : z.length ≤ 100
  · have e : longP "L" z = [] := by unfold longP; rw [if_pos h]
    have e2 : longOf z = "" := by unfold longOf; rw [if_pos h]
    rw [e, e2, show q + (([] : List Nat).length : Int) = q by simp]
    exact ⟨p, ys, 0, .nil over0⟩
  · have r := Run.of_long (k := "L") (z := z) (lt := lt) (o := o) (p := p) (q := q) (ys := ys) (.inr rfl) (by omega) (hn (by omega)) hl (.inr rfl)
    have e2 : longOf z = z := by unfold longOf; rw [if_neg h]
    have e3 := r.len
    rw [if_neg (by decide +kernel), if_neg (by decide +kernel)] at r
    rw [e2, e3]
    exact ⟨_, _, _, r⟩
theorem hdM_of {m : Mem} (ho : m.Ok) : hdOf (HD m.kc m.nm m.tgt m.bits.toNat m.stored.length m.tm.toNat) = hdM m := by
  have R := right_m ho
  have st := Mem.Ok.stamp ho
  rw [← HD_take, hd_of R.ok R.nz R.na]
  unfold hdM
  rw [Int.toNat_of_nonneg st.2.1, Int.toNat_of_nonneg st.2.2.2.1]
theorem ended_own {m : Mem} (ho : m.Ok) {o p q : Int} : endedF ⟨o, p, q, some (hdM m), filled m.stored, longOf m.nm, longOf m.tgt, 0, ""⟩ (hdM m) = (⟨q, p, q, none, filled m.stored, "", "", 0, ""⟩, some (o, m)) := by
  have hl := filled_len m.stored
  unfold endedF
  rw [if_neg (by show ¬ ((filled m.stored).length : Int) < ((m.stored.length : Nat) : Int); omega), if_neg (by show ¬ V.str m.kc = V.str "K"; exact fun e => (kc_ne m).1 (V.str.inj e)), if_neg (by show ¬ V.str m.kc = V.str "L"; exact fun e => (kc_ne m).2 (V.str.inj e))]
  show (_, some (o, memOf (hdM m) (longOf m.nm) (longOf m.tgt) (filled m.stored))) = _
  rw [memOf_own ho]
theorem run_own {m : Mem} (ho : m.Ok) {o p q : Int} {ys : List Nat} : ∃ k, Run (HD m.kc m.nm m.tgt m.bits.toNat m.stored.length m.tm.toNat ++ filled m.stored) k ⟨o, p, q, none, ys, longOf m.nm, longOf m.tgt, 0, ""⟩
    ⟨q + 512 + ((filled m.stored).length : Int), q, q + 512 + ((filled m.stored).length : Int), none, filled m.stored, "", "", 0, ""⟩ [(o, m)] := by
  have R := right_m ho
  have hl := filled_len m.stored
  have hhd := hdM_of ho
  have hh := Mem.hd_len ho
  have hw : wrongF (HD m.kc m.nm m.tgt m.bits.toNat m.stored.length m.tm.toNat) (longOf m.nm) (longOf m.tgt) = "" := by
    rw [← HD_take]
    exact wrongF_hd R
  have hz : HD m.kc m.nm m.tgt m.bits.toNat m.stored.length m.tm.toNat ≠ List.replicate 512 0 := by
    rw [← HD_take]
    exact hd_nz R.ok
  have s1 := step_hd (o := o) (p := p) (q := q) (ys := ys) (fun h => hz h.1) hw
  rw [hhd] at s1
  by_cases h0 : m.stored.length = 0
  · have e0 : filled m.stored = [] := by
      rw [List.eq_nil_iff_length_eq_zero, hl, h0]
      rfl
    have en := ended_own ho (o := o) (p := q) (q := q + 512)
    rw [e0] at en ⊢
    rw [List.append_nil, show q + 512 + (([] : List Nat).length : Int) = q + 512 by simp]
    exact ⟨1, Run.one hh over0 (s1.trans en) over0⟩
  · have e1 : endedF ⟨o, q, q + 512, some (hdM m), [], longOf m.nm, longOf m.tgt, 0, ""⟩ (hdM m) = (⟨o, q, q + 512, some (hdM m), [], longOf m.nm, longOf m.tgt, 0, ""⟩, none) := by
      unfold endedF
      rw [if_pos (by show ((0 : Nat) : Int) < ((m.stored.length : Nat) : Int); omega)]
    obtain ⟨k, hk⟩ : ∃ k, (filled m.stored).length = 512 * k := ⟨(filled m.stored).length / 512, by rw [hl]; unfold pad; omega⟩
    have hk1 : 1 ≤ k := by omega
    have hpl := pad_lt m.stored.length
    have hws : ∀ j, j < k → wstF (strOf (hdM m).kind) (hdM m).size.toNat ((filled m.stored).take (512 * (j + 1))) = "" := fun j _ => by
      show wstF m.kc (((m.stored.length : Nat) : Int)).toNat _ = ""
      rw [Int.toNat_natCast]
      exact wst_own ho j
    have hsz : ∀ j, j < k → ((512 * j : Nat) : Int) < (hdM m).size := fun j hj => by
      show ((512 * j : Nat) : Int) < ((m.stored.length : Nat) : Int)
      omega
    have r1 : Run (HD m.kc m.nm m.tgt m.bits.toNat m.stored.length m.tm.toNat) 1 ⟨o, p, q, none, ys, longOf m.nm, longOf m.tgt, 0, ""⟩ ⟨o, q, q + 512, some (hdM m), [], longOf m.nm, longOf m.tgt, 0, ""⟩ [] := Run.one (f := none) hh over0 (s1.trans e1) over0
    have en := ended_own ho (o := o) (p := q) (q := q + 512 + ((filled m.stored).length : Int))
    have r2 : Run (filled m.stored) k ⟨o, q, q + 512, some (hdM m), [], longOf m.nm, longOf m.tgt, 0, ""⟩ ⟨q + 512 + ((filled m.stored).length : Int), q, q + 512 + ((filled m.stored).length : Int), none, filled m.stored, "", "", 0, ""⟩ [(o, m)] := by
      have ra := run_all (o := o) (p := q) (q := q + 512) (ln := longOf m.nm) (lt := longOf m.tgt) hk1 hws hsz hk
      rw [en] at ra
      refine ⟨hk, ra, fun j hj => ?_⟩
      by_cases g : j < k
      · rw [run_st hws hsz hk j g]
        exact over0
      · have : j = k := by omega
        subst this
        rw [ra]
        exact over0
    exact ⟨1 + k, r1.app r2⟩
theorem run_mem {m : Mem} (ho : m.Ok) {o p q : Int} {ys : List Nat} : ∃ p' ys' k, Run m.bytes k ⟨o, p, q, none, ys, "", "", 0, ""⟩ ⟨q + (m.bytes.length : Int), p', q + (m.bytes.length : Int), none, ys', "", "", 0, ""⟩ [(o, m)] := by
  have hnb := (Mem.Ok.stamp ho).1
  have htb : 100 < m.tgt.length → nameB m.tgt = true := fun h => by
    cases m with
    | sym n b t g => exact ho.2
    | lnk n b t g => exact ho.2
    | file n b t ns => exact absurd h (by show ¬ 100 < ("" : Str).length; decide +kernel)
    | sparse n b t z sp => exact absurd h (by show ¬ 100 < ("" : Str).length; decide +kernel)
    | dir n b t => exact absurd h (by show ¬ 100 < ("" : Str).length; decide +kernel)
  obtain ⟨p1, y1, k1, r1⟩ := run_optK (z := m.tgt) (o := o) (p := p) (q := q) (ys := ys) htb
  obtain ⟨p2, y2, k2, r2⟩ := run_optL (z := m.nm) (lt := longOf m.tgt) (o := o) (p := p1) (q := q + ((longP "K" m.tgt).length : Int)) (ys := y1) (fun _ => hnb) (long_le (Mem.Ok.tgt ho).2)
  obtain ⟨k3, r3⟩ := run_own ho (o := o) (p := p2) (q := q + ((longP "K" m.tgt).length : Int) + ((longP "L" m.nm).length : Int)) (ys := y2)
  have r := (r1.app r2).app r3
  have eb : m.bytes = longP "K" m.tgt ++ longP "L" m.nm ++ (HD m.kc m.nm m.tgt m.bits.toNat m.stored.length m.tm.toNat ++ filled m.stored) := by
    show longP "K" m.tgt ++ longP "L" m.nm ++ HD m.kc m.nm m.tgt m.bits.toNat m.stored.length m.tm.toNat ++ filled m.stored = _
    simp only [List.append_assoc]
  have el : q + ((longP "K" m.tgt).length : Int) + ((longP "L" m.nm).length : Int) + 512 + ((filled m.stored).length : Int) = q + (m.bytes.length : Int) := by
    rw [eb, List.length_append, List.length_append, List.length_append, Mem.hd_len ho]
    push_cast
    omega
  rw [← eb, el] at r
  exact ⟨_, _, _, r⟩
/-- members with the places where they begin -/
def offs (o : Int) : List Mem → List (Int × Mem)
  | [] => []
  | m :: r => (o, m) :: offs (o + (m.bytes.length : Int)) r
theorem run_mems : ∀ {ms : List Mem} {o p : Int} {ys : List Nat}, (∀ m ∈ ms, m.Ok) → ∃ p' ys' k, Run (ms.flatMap Mem.bytes) k ⟨o, p, o, none, ys, "", "", 0, ""⟩ ⟨o + ((ms.flatMap Mem.bytes).length : Int), p', o + ((ms.flatMap Mem.bytes).length : Int), none, ys', "", "", 0, ""⟩ (offs o ms)
  | [], o, p, ys, _ => by
    rw [List.flatMap_nil, show o + (([] : List Nat).length : Int) = o by simp]
    exact ⟨p, ys, 0, .nil over0⟩
  | m :: ms, o, p, ys, h => by
    obtain ⟨p1, y1, k1, r1⟩ := run_mem (h m List.mem_cons_self) (o := o) (p := p) (q := o) (ys := ys)
    obtain ⟨p2, y2, k2, r2⟩ := run_mems (ms := ms) (o := o + (m.bytes.length : Int)) (p := p1) (ys := y1) fun x hx => h x (List.mem_cons_of_mem _ hx)
    have r := r1.app r2
    rw [List.flatMap_cons, show o + ((m.bytes ++ ms.flatMap Mem.bytes).length : Int) = o + (m.bytes.length : Int) + ((ms.flatMap Mem.bytes).length : Int) by rw [List.length_append]; push_cast; omega]
    exact ⟨_, _, _, r⟩
/-! ### damaged padding and ends, told exactly -/
theorem stop_of {a b rest : List Nat} {ka : Nat} {s s1 s2 : St} {fs : List (Int × Mem)} {f : Option (Int × Mem)} (r : Run a ka s s1 fs) (hb : b.length = 512) (h : stepF s1 b = (s2, f)) (ho : overF s2 = true) :
    Stop (a ++ b ++ rest) s (ka + 1) ∧ runK (a ++ b ++ rest) (ka + 1) s = (s2, fs ++ f.toList) := by
  have hl := r.len
  have e : runK (a ++ b ++ rest) (ka + 1) s = (s2, fs ++ f.toList) := by
    rw [runK_pre (by rw [List.length_append]; omega), runK_app hl, r.eq, runK_one hb, h]
  refine ⟨⟨by rw [List.length_append, List.length_append]; omega, fun j hj => ?_, .inl (by rw [e]; exact ho)⟩, e⟩
  rw [List.append_assoc, runK_pre (by omega)]
  exact r.go j (by omega)
theorem stop_uniq {xs : List Nat} {s : St} {n k : Nat} (h : Stop xs s n) (g : Stop xs s k) : n = k := by
  have h1 := h.le
  have g1 := g.le
  rcases Nat.lt_trichotomy n k with c | c | c
  · exfalso
    rcases h.end_ with e | e
    · rw [g.go n c] at e
      cases e
    · omega
  · exact c
  · exfalso
    rcases g.end_ with e | e
    · rw [h.go k c] at e
      cases e
    · omega
/-! ### what scan tells of damaged paddings and ends -/
theorem run_zero {o p q : Int} {ys : List Nat} : Run (List.replicate 512 0) 1 ⟨o, p, q, none, ys, "", "", 0, ""⟩ ⟨o, q, q + 512, none, ys, "", "", 1, ""⟩ [] := by
  refine Run.one (f := none) (List.length_replicate ..) over0 ?_ rfl
  show headerF ⟨o, q, q + 512, none, ys, "", "", 0, ""⟩ (List.replicate 512 0) = _
  unfold headerF
  rw [if_pos ⟨rfl, rfl, rfl⟩]
/-- what scan tells of data: a wrong place, and the members in front of it -/
def Tells (xs : List Nat) (fs : List (Int × Mem)) (o : Int) (z : Str) : Prop := ∃ n s, Stop xs (st0 0) n ∧ runK xs n (st0 0) = (s, fs) ∧ troF s = .wrong o z
theorem Tells.stop {xs : List Nat} {fs : List (Int × Mem)} {o : Int} {z : Str} (h : Tells xs fs o z) {n : Nat} (g : Stop xs (st0 0) n) : (runK xs n (st0 0)).2 = fs ∧ troF (runK xs n (st0 0)).1 = .wrong o z := by
  obtain ⟨k, s, h1, h2, h3⟩ := h
  rw [stop_uniq g h1, h2]
  exact ⟨rfl, h3⟩
/-! ### the data that are damaged -/
/-! ### the ends -/
theorem arch_ends (ms : List Mem) : arch ms = (ms.flatMap Mem.bytes ++ List.replicate 512 0) ++ List.replicate 512 0 ++ [] := by
  unfold arch
  rw [List.append_nil, List.append_assoc, List.replicate_append_replicate]
/-! ### general: slices, members made, what scan tells -/
section
variable {P : Program} {w : World} {K : PySem.W.Frag} {mg : Str → Option Value} {base : Heap} {c : Cs} {H : Hp}
theorem upd_lst {H : Hp} {D x : Addr} {l0 l : List V} {o : HO} (hD : H D = some (.lst l0)) (n : ∀ l, o ≠ .lst l) (h : H x = some o) : upd H D (.lst l) x = some o := by
  have nx : x ≠ D := fun e => by
    rw [e, hD] at h
    exact n _ (Option.some.inj h).symm
  rw [upd_ne nx]
  exact h
theorem Mem.Ins.lstU {c : Cs} {H : Hp} {D x : Addr} {l0 l : List V} {m : Mem} (hD : H D = some (.lst l0)) (h : m.Ins c H x) : m.Ins c (upd H D (.lst l)) x := by
  cases m with
  | file n b t ns => obtain ⟨dx, h1⟩ := h; exact ⟨dx, upd_lst hD (by intro _ x; cases x) h1⟩
  | sparse n b t z sp =>
    obtain ⟨dx, p, h1, as, h2, h3⟩ := h
    exact ⟨dx, p, upd_lst hD (by intro _ x; cases x) h1, as, upd_lst hD (by intro _ x; cases x) h2, Paired.mapP h3 fun q s z => upd_lst hD (by intro _ x; cases x) z⟩
  | dir n b t => obtain ⟨dx, h1⟩ := h; exact ⟨dx, upd_lst hD (by intro _ x; cases x) h1⟩
  | sym n b t g => obtain ⟨dx, h1⟩ := h; exact ⟨dx, upd_lst hD (by intro _ x; cases x) h1⟩
  | lnk n b t g => obtain ⟨dx, h1⟩ := h; exact ⟨dx, upd_lst hD (by intro _ x; cases x) h1⟩
theorem made_of {c : Cs} {H : Hp} : ∀ {xs : List Addr} {ms : List Mem}, Paired (fun y (m : Mem) => m.Ins c H y) xs ms → (∀ m ∈ ms, m.Ok) → Made c H xs ms
  | _, _, .nil, _ => .nil
  | _, _, .cons h t, ok => .cons ⟨h, ok _ List.mem_cons_self⟩ (made_of t fun m hm => ok m (List.mem_cons_of_mem _ hm))
def MadL (c : Cs) (H : Hp) (M : Addr) (ms : List Mem) : Prop := ∃ ys : List Addr, H M = some (.lst (ys.map V.ref)) ∧ Made c H ys ms
theorem MadL.same {c : Cs} {H H' : Hp} {M : Addr} {ms : List Mem} (h : MadL c H M ms) (e : Same H H') : MadL c H' M ms := by
  obtain ⟨ys, h1, h2⟩ := h
  exact ⟨ys, e _ _ h1, h2.same e⟩
theorem Src.keep {H H' : Hp} {a x : Addr} {o : HO} (hs : Src H a) (b : But a H H') (n : ∀ l, o ≠ .lst l) (h : H x = some o) : H' x = some o := by
  obtain ⟨_, _, _, h9, _⟩ := hs
  exact b _ _ (fun e => by
    rw [e, h9] at h
    exact n _ (Option.some.inj h).symm) h
theorem sl_to {H : Hp} {p : Addr} {xs : List Nat} {n : Nat} (h : H p = some (.lst (cutV ((nL xs).map V.int) none (some (n : Int))))) : LN H p (xs.take n) := by
  unfold LN
  rw [h, cutV_to, ← List.map_take, show (nL xs).take n = nL (xs.take n) from (List.map_take ..).symm]
theorem offs_snd : ∀ {ms : List Mem} {o : Int}, (offs o ms).map (fun p => p.2) = ms
  | [], _ => rfl
  | m :: ms, _ => congrArg (m :: ·) offs_snd
theorem offs_len : ∀ {ms : List Mem} {o : Int}, (offs o ms).length = ms.length
  | [], _ => rfl
  | m :: ms, _ => congrArg (· + 1) offs_len
theorem src_refs {H : Hp} {a M : Addr} {ys : List Addr} (hs : Src H a) (h : H M = some (.lst (ys.map V.ref))) : M ≠ a := fun e => by
  obtain ⟨x, y, z, h9, _⟩ := hs
  rw [e, h9] at h
  injection h with h
  injection h with h
  cases ys with
  | nil => cases h
  | cons y r => injection h with h _; cases h
end
/-! ### what has come of right data -/
theorem step_zero {o p q : Int} {ys : List Nat} : stepF ⟨o, p, q, none, ys, "", "", 1, ""⟩ (List.replicate 512 0) = (⟨o, p, q + 512, none, ys, "", "", 2, ""⟩, none) := by
  unfold stepF
  show (if (1 : Int) = 0 then _ else if List.replicate 512 0 = List.replicate 512 0 then _ else _) = _
  rw [if_neg (by decide), if_pos rfl]
theorem at_last {α : Type} {xs : List α} {i : Nat} (h : i + 1 = xs.length) : atI xs (-1) = xs[i]? := by
  unfold atI ixN
  rw [if_neg (by decide), if_pos (by omega)]
  show xs[((-1 : Int) + (xs.length : Int)).toNat]? = _
  rw [show ((-1 : Int) + (xs.length : Int)).toNat = i by omega]
def spotN (ms : List Mem) (i : Nat) : Nat := ((ms.take i).flatMap Mem.bytes).length
/-! ### a reader's state, told by the data that have come -/
theorem step_at (s : St) (b : List Nat) : (stepF s b).1.at_ = s.at_ + 512 := by
  obtain ⟨v1, v2, v3, hd, ys, ln, lt, zs, wr⟩ := s
  have he : ∀ (s : St) (v : HdV), (endedF s v).1.at_ = s.at_ := fun s v => by
    unfold endedF
    repeat' split
    all_goals rfl
  unfold stepF
  cases hd with
  | some v =>
    dsimp only
    unfold storedF
    split
    · rfl
    · rw [he]
  | none =>
    dsimp only
    split
    · unfold headerF
      split
      · rfl
      · split
        · rfl
        · rw [he]
    · split <;> rfl
theorem run_at {xs : List Nat} {o : Int} : ∀ n : Nat, (runK xs n (st0 o)).1.at_ = o + 512 * (n : Int)
  | 0 => by show o = _; omega
  | n + 1 => by
    show (stepF (runK xs n (st0 o)).1 _).1.at_ = _
    rw [step_at, run_at n]
    push_cast
    omega
theorem arch_run {ms : List Mem} (hm : ∀ x ∈ ms, x.Ok) : ∃ (N : Nat) (s : St), 2 ≤ N ∧ 512 * (N - 2) = (ms.flatMap Mem.bytes).length ∧ runK (arch ms) N (st0 0) = (s, offs 0 ms) ∧ s.wrong = "" ∧ s.zeros = 2 ∧ ∀ j, j < N → overF (runK (arch ms) j (st0 0)).1 = false := by
  obtain ⟨p1, y1, k1, r1⟩ := run_mems (o := 0) (p := 0) (ys := []) hm
  have r := r1.app run_zero
  rw [List.append_nil] at r
  obtain ⟨h1, h2⟩ := stop_of (rest := []) r (List.length_replicate ..) step_zero rfl
  have hl := r1.len
  rw [← arch_ends] at h1 h2
  rw [show offs 0 ms ++ (none : Option (Int × Mem)).toList = offs 0 ms from List.append_nil _] at h2
  exact ⟨k1 + 1 + 1, _, by omega, by omega, h2, rfl, rfl, h1.go⟩
abbrev s_read : Stmt := topS 83
abbrev N_read : List Str := ["data", "scanner", "found", "offset", "member"]
theorem sc_read : FnScope N_read ["data"] (defScope s_read) := ⟨rfl, rfl, rfl, by decide +kernel, rfl, by decide +kernel, by decide +kernel⟩
/-! ### read of any data that have no trouble -/
theorem tro_fine {s : St} (h : troF s = .fine) : s.wrong = "" ∧ s.zeros = 2 := by
  unfold troF at h
  by_cases hw : s.wrong = ""
  · rw [if_pos hw] at h
    by_cases hz : s.zeros = 2
    · exact ⟨hw, hz⟩
    · rw [if_neg hz] at h
      cases h
  · rw [if_neg hw] at h
    cases h
theorem stop_whole {xs : List Nat} {n : Nat} (h : Stop xs (st0 0) n) : StopC xs xs.length n := by
  rw [← List.take_length (l := xs)] at h
  exact (stopC_of (Nat.le_refl _) h).1
section
variable {P : Program} {w : World} {K : PySem.W.Frag} {mg : Str → Option Value} {base : Heap}
def spReadG (c : Cs) : Sp := fun vs H Q _ => ∃ (xs : List Nat) (n : Nat), vs = [.byt (Bt.byOf xs)] ∧ xs.length ≤ 400000 ∧ (∀ c ∈ xs, c < 256) ∧ StopC xs xs.length n ∧ troF (runK xs n (st0 0)).1 = .fine ∧
  ∀ L ys H', H L = none → Same H H' → H' L = some (.lst (ys.map V.ref)) → Made c H' ys ((runK xs n (st0 0)).2.map fun p => p.2) → Q (.ref L) H'
theorem ok_readG {f C CH : Addr} {fd : FuncData} {k : Nat} {c : Cs} (F : Fun K "read" "read" s_read f fd) (hc : ScC K C) (c_csrc : CalT P w K mg base 3 "check_source" spCSrc) (c_cend : CalT P w K mg base 3 "check_end" (spCEnd C))
    (mk_ScannerD : MakS P w K mg base 2 "Scanner" C [] (fun vs zs H Q => vs.length = 2 ∧ ∀ E, spScI C (vs ++ zs) H Q E)) (m_take : MetA P w K mg base 12 C "take" ["self", "data"] (spTakeG c C CH)) : FnOk P w K mg base CX0 (k + 13) f fd ["data"] (spReadG c) := by
  refine F.ok sc_read (fun vs H Q E h => ?_) (fun cdv A outer s H vs Q E hr h => ?_)
  · obtain ⟨xs, n, rfl, _⟩ := h
    rfl
  · obtain ⟨xs, n, rfl, hz, hb, sc, hfine, q⟩ := h
    have hu := hu_of hr
    have nd := sc_read.nd
    refine ⟨_, (pss_cons (ps_expr (pe_cc c_csrc hr (by omega) (by rfl) (pa_cons (pv 0) (pa_cons pe_int pa_nil))))
      (pss_cons (ps_set (i := 1) nd rfl (Or.inl rfl) (pe_mks mk_ScannerD hr (by omega) (by rfl) (pa_cons pe_int pa_nil) pk_nil))
      (pss_cons (ps_set (i := 2) nd rfl (Or.inl rfl) (pe_mtA m_take hr (by omega) (pv 1) (pa_cons (pv 0) pa_nil)))
      (pss_cons (ps_expr (pe_cc c_cend hr (by omega) (by rfl) (pa_cons (pv 1) pa_nil)))
      (pss_one (ps_ret (pe_lc (own := [("offset", 3), ("member", 4)]) (g := (gTup K 2 (gCons (gName 3) (gCons (gName 4) gNil)))) (tt := tYes) rfl nd (pi_list (pv 2)) (blkOk_by (N := N_read) (sc := defScope s_read) (by decide +kernel)) (fun _ _ _ _ _ => (pg_tupK K (pg_tup rfl (pgs_cons (pg_name (i := 3) nd rfl (Or.inl rfl)) (pgs_cons (pg_name (i := 4) nd rfl (Or.inl rfl)) pgs_nil))))) (fun _ _ _ _ _ => pts_nil) (fun _ _ _ _ _ => (pv 4))))))))), ?_⟩
    walk_at "rd"
    refine ⟨_, 0, rfl, by rw [byOf_size]; omega, Nat.zero_le _, ?_⟩
    walk_at "rd"
    refine ⟨rfl, fun x dx hx hdx ne => ⟨rfl, fun E => ?_⟩⟩
    refine ⟨x, dx, 0, rfl, upd_same, fun H1 fr hx1 => ⟨rfl, ?_⟩⟩
    have s1 := frame_same hx hdx fr
    walk_at "rd"
    try unfold tMeth
    walk_at "rd"
    refine ⟨x, dx, _, rfl, hx1, rfl, ?_⟩
    walk_at "rd"
    refine ⟨x, dx, [], st0 0, xs, rfl, ⟨.non, hx1, rfl⟩, rfl, inv0 _, by rw [List.nil_append]; exact hz, fun c hc => hb c (by rw [List.nil_append] at hc; exact hc), fun D Ts H2 n2 hD f2 stp ⟨hv, g1, _⟩ g4 hf => ?_⟩
    rw [List.nil_append] at stp hf g1
    have en := stop_same sc (stop_whole stp)
    subst en
    obtain ⟨w1, w2⟩ := tro_fine hfine
    have ok := (sc.facts hb).ok
    generalize hs : (runK xs n2 (st0 0)).1 = s0 at g1 w1 w2
    generalize hps : (runK xs n2 (st0 0)).2 = ps at hf q ok
    walk_at "rd"
    refine ⟨x, dx, _, rfl, g1, w1, w2, ?_⟩
    walk_at "rd"
    intro L hL
    have s2 : Same H H2 := fun b o eb => f2 _ _ (ne_of_none eb hx) (s1 _ _ eb)
    have hpl : ps.length ≤ 1000 := by
      have h1 := runK_len (xs := xs) (s := st0 0) n2
      rw [hps] at h1
      have h2 := sc.le
      omega
    refine lc_it (walk_list (xs := Ts.map V.ref)) (fun i H' => Same H2 H' ∧ ∃ bs : List Addr, H' L = some (.lst (bs.map V.ref)) ∧ Paired (fun y (m : Mem) => m.Ins c H2 y) bs ((ps.map fun p => p.2).take i)) ⟨same_new hL, [], upd_same, .nil⟩ (fun i H' _ ⟨e, _⟩ => SqL.of (e _ _ g4)) ?_ ?_
    · rintro i v Hc H' hi ⟨e, bs, hb', hbp⟩ ⟨rfl, hv⟩
      rw [List.getElem?_map] at hv
      obtain ⟨T, hTi, rfl⟩ : ∃ T, Ts[i]? = some T ∧ V.ref T = v := by
        cases e : Ts[i]? with
        | none => rw [e] at hv; cases hv
        | some T => rw [e] at hv; exact ⟨T, rfl, Option.some.inj hv⟩
      obtain ⟨p, hpi, y, ny, hT, hm2⟩ := paired_at hf hTi
      have hmi : (ps.map fun p => p.2)[i]? = some p.2 := by rw [List.getElem?_map, hpi]; rfl
      have hT' := e _ _ hT
      walk_at "rd"
      refine ⟨rfl, ?_⟩
      unfold tYes
      dsimp only
      rw [if_pos rfl]
      walk_at "rd"
      refine ⟨_, hb', Nat.lt_of_le_of_lt (by rw [List.length_map, hbp.length, List.length_take, List.length_map]; omega : _ ≤ 1000) (by decide), fun b o eo => by rw [upd_ne (ne_of_none eo hL)]; exact e _ _ eo, bs ++ [y], by rw [upd_same, List.map_append]; rfl, ?_⟩
      rw [take_snoc hmi]
      exact paired_snoc hbp hm2
    · rintro H3 ⟨e3, bs, hb', hbp⟩
      rw [List.length_map, hf.length, show ps.length = (ps.map fun p => p.2).length from (List.length_map _).symm, List.take_length] at hbp
      have h0 : H L = none := s2.free hL
      refine q L bs H3 h0 (s2.trans e3) hb' (made_of (Paired.mapP hbp fun y m g => g.same e3) fun m hm => ?_)
      obtain ⟨p, hp, rfl⟩ := List.mem_map.mp hm
      exact ok p hp
end
abbrev s_copy_of : Stmt := topS 51
abbrev N_copy_of : List Str := ["member", "mode", "time"]
theorem sc_copy_of : FnScope N_copy_of ["member"] (defScope s_copy_of) := ⟨rfl, rfl, rfl, by decide +kernel, rfl, by decide +kernel, by decide +kernel⟩
/-! ### copies of members; what a tuple is written as -/
structure Kit3 (K : PySem.W.Frag) (c : Cs) : Prop where
  dd : PySem.W.kitOne K (.ref c.D) (.ref c.D) = some true
  yd : PySem.W.kitOne K (.ref c.Y) (.ref c.D) = some false
  ld : PySem.W.kitOne K (.ref c.L) (.ref c.D) = some false
theorem sqT_same {K : PySem.W.Frag} {H H' : Hp} {a : Addr} {xs : List V} (e : Same H H') (h : SqT K H a xs) : SqT K H' a xs := h.imp (fun h => h.imp (e _ _) (fun ⟨o, h⟩ => ⟨o, e _ _ h⟩)) id
section
variable {P : Program} {w : World} {K : PySem.W.Frag} {mg : Str → Option Value} {base : Heap}
theorem FnOk.or {f : Addr} {fd : FuncData} {k : Nat} {ps : List Str} {s1 s2 : Sp} (F1 : FnOk P w K mg base CX0 k f fd ps s1) (F2 : FnOk P w K mg base CX0 k f fd ps s2) : FnOk P w K mg base CX0 k f fd ps (fun vs H Q E => s1 vs H Q E ∨ s2 vs H Q E) :=
  ⟨fun vs H Q E h => h.elim (F1.len vs H Q E) (F2.len vs H Q E), fun A outer s H args us vs Q E hr e0 b r h => h.elim (F1.run A outer s H args us vs Q E hr e0 b r) (F2.run A outer s H args us vs Q E hr e0 b r)⟩
def spCopy (c : Cs) : Sp := fun vs H Q _ => ∃ (x : Addr) (m : Mem), vs = [.ref x] ∧ m.Ins c H x ∧ m.Ok ∧ ∀ y H', Same H H' → H y = none → m.Ins c H' y → Q (.ref y) H'
theorem sp_copy {c : Cs} {x : Addr} {m : Mem} {H : Hp} {Q : VK} {E : XK} (h1 : m.Ins c H x) (h2 : m.Ok) (k : ∀ y H', Same H H' → H y = none → m.Ins c H' y → Q (.ref y) H') : spCopy c ([.ref x] ++ []) H Q E := ⟨x, m, rfl, h1, h2, k⟩
theorem ok_copy {f aM : Addr} {fd : FuncData} {k : Nat} {c : Cs} (F : Fun K "copy_of" "copy_of" s_copy_of f fd) (m1 : mg "isinstance" = none) (M : MF K c aM) (k3 : Kit3 K c) (m_F : mg "File" = some (.ref c.F)) (m_S : mg "Sparse" = some (.ref c.S)) (m_D : mg "Directory" = some (.ref c.D)) (m_Y : mg "Symlink" = some (.ref c.Y))
    (mk_File : MakS P w K mg base 5 "File" c.F ["mode", "time"] (fun vs zs H Q => vs.length = 3 ∧ ∀ E, spFileI c.F (vs ++ zs) H Q E)) (mk_Dir : MakS P w K mg base 5 "Directory" c.D ["mode", "time"] (fun vs zs H Q => vs.length = 2 ∧ ∀ E, spDirI c.D (vs ++ zs) H Q E))
    (mk_Sym : MakS P w K mg base 5 "Symlink" c.Y ["mode", "time"] (fun vs zs H Q => vs.length = 3 ∧ ∀ E, spSymI c.Y (vs ++ zs) H Q E)) (mk_Link : MakS P w K mg base 5 "Link" c.L ["mode", "time"] (fun vs zs H Q => vs.length = 3 ∧ ∀ E, spSymI c.L (vs ++ zs) H Q E))
    (mk_Sparse : MakS P w K mg base 6 "Sparse" c.S ["mode", "time"] (fun vs zs H Q => ∃ b t : Int, zs = [.int b, .int t] ∧ spSpa c.S b t vs H Q)) : FnOk P w K mg base CX0 (k + 8) f fd ["member"] (spCopy c) := by
  refine F.ok sc_copy_of (fun vs H Q E h => ?_) (fun cdv A outer s H vs Q E hr h => ?_)
  · obtain ⟨x, m, rfl, _⟩ := h
    rfl
  · obtain ⟨x, m, rfl, hin, hok, q⟩ := h
    have hu := hu_of hr
    have nd := sc_copy_of.nd
    refine ⟨_, (pss_cons (ps_set (i := 1) nd rfl (Or.inl rfl) (pe_fld (pv 0) rfl))
      (pss_cons (ps_set (i := 2) nd rfl (Or.inl rfl) (pe_fld (pv 0) rfl))
      (pss_cons (ps_if (pt_val (pe_callB (call_isiK1 K) (by rfl) (by assumption) (by decide +kernel) (pa_cons (pv 0) (pa_cons (pe_glob (v := .ref c.F) (by rfl) m_F (by first | exact rfl | exact ⟨_, rfl⟩)) pa_nil))))
        (pss_one (ps_ret (pe_mks mk_File hr (by omega) (by rfl) (pa_cons (pe_fld (pv 0) rfl) (pa_cons (pe_fld (pv 0) rfl) pa_nil)) (pk_cons (pv 1) (pk_cons (pv 2) pk_nil)))))
        pss_nil)
      (pss_cons (ps_if (pt_val (pe_callB (call_isiK1 K) (by rfl) (by assumption) (by decide +kernel) (pa_cons (pv 0) (pa_cons (pe_glob (v := .ref c.S) (by rfl) m_S (by first | exact rfl | exact ⟨_, rfl⟩)) pa_nil))))
        (pss_one (ps_ret (pe_mksS mk_Sparse hr (by omega) (by rfl) (pa_cons (pe_fld (pv 0) rfl) (pa_cons (pe_fld (pv 0) rfl) (pa_starN K (pe_fld (pv 0) rfl) pa_nil))) (pk_cons (pv 1) (pk_cons (pv 2) pk_nil)))))
        pss_nil)
      (pss_cons (ps_if (pt_val (pe_callB (call_isiK1 K) (by rfl) (by assumption) (by decide +kernel) (pa_cons (pv 0) (pa_cons (pe_glob (v := .ref c.D) (by rfl) m_D (by first | exact rfl | exact ⟨_, rfl⟩)) pa_nil))))
        (pss_one (ps_ret (pe_mks mk_Dir hr (by omega) (by rfl) (pa_cons (pe_fld (pv 0) rfl) pa_nil) (pk_cons (pv 1) (pk_cons (pv 2) pk_nil)))))
        pss_nil)
      (pss_cons (ps_if (pt_val (pe_callB (call_isiK1 K) (by rfl) (by assumption) (by decide +kernel) (pa_cons (pv 0) (pa_cons (pe_glob (v := .ref c.Y) (by rfl) m_Y (by first | exact rfl | exact ⟨_, rfl⟩)) pa_nil))))
        (pss_one (ps_ret (pe_mks mk_Sym hr (by omega) (by rfl) (pa_cons (pe_fld (pv 0) rfl) (pa_cons (pe_fld (pv 0) rfl) pa_nil)) (pk_cons (pv 1) (pk_cons (pv 2) pk_nil)))))
        pss_nil)
      (pss_one (ps_ret (pe_mks mk_Link hr (by omega) (by rfl) (pa_cons (pe_fld (pv 0) rfl) (pa_cons (pe_fld (pv 0) rfl) pa_nil)) (pk_cons (pv 1) (pk_cons (pv 2) pk_nil))))))))))), ?_⟩
    cases m with
    | file n b t ns =>
      obtain ⟨d0, hx⟩ := hin
      obtain ⟨st, hl, hall⟩ := hok
      walk_at "rd"
      refine r_fldE (v := .int b) hx M.fF.cl M.fF.n2 rfl ?_
      walk_at "rd"
      refine r_fldE (v := .int t) hx M.fF.cl M.fF.n3 rfl ?_
      walk_at "rd"
      refine r_is1 (M.fF.ty hx) M.kt.ff ?_
      walk_at "rd"
      refine r_fldE (v := .str n) hx M.fF.cl M.fF.n1 rfl ?_
      walk_at "rd"
      refine r_fldE (v := .byt (byteArr ns)) hx M.fF.cl M.tF rfl ?_
      walk_at "rd"
      refine ⟨rfl, fun y dy hy hdy ne => ⟨rfl, fun E => ?_⟩⟩
      refine ⟨y, dy, n, _, b, t, rfl, upd_same, st, by rw [byteArr_size]; exact hl, fun H' fr hx' => ⟨rfl, ?_⟩⟩
      exact q y H' (frame_same hy hdy fr) hy ⟨dy, hx'⟩
    | dir n b t =>
      obtain ⟨d0, hx⟩ := hin
      walk_at "rd"
      refine r_fldE (v := .int b) hx M.fD.cl M.fD.n2 rfl ?_
      walk_at "rd"
      refine r_fldE (v := .int t) hx M.fD.cl M.fD.n3 rfl ?_
      walk_at "rd"
      refine r_is1 (M.fD.ty hx) M.kt.df ?_
      walk_at "rd"
      refine r_is1 (M.fD.ty hx) M.kt.ds ?_
      walk_at "rd"
      refine r_is1 (M.fD.ty hx) k3.dd ?_
      walk_at "rd"
      refine r_fldE (v := .str n) hx M.fD.cl M.fD.n1 rfl ?_
      walk_at "rd"
      refine ⟨rfl, fun y dy hy hdy ne => ⟨rfl, fun E => ?_⟩⟩
      refine ⟨y, dy, n, b, t, rfl, upd_same, hok, fun H' fr hx' => ⟨rfl, ?_⟩⟩
      exact q y H' (frame_same hy hdy fr) hy ⟨dy, hx'⟩
    | sym n b t g =>
      obtain ⟨d0, hx⟩ := hin
      walk_at "rd"
      refine r_fldE (v := .int b) hx M.fY.cl M.fY.n2 rfl ?_
      walk_at "rd"
      refine r_fldE (v := .int t) hx M.fY.cl M.fY.n3 rfl ?_
      walk_at "rd"
      refine r_is1 (M.fY.ty hx) M.kt.yf ?_
      walk_at "rd"
      refine r_is1 (M.fY.ty hx) M.kt.ys ?_
      walk_at "rd"
      refine r_is1 (M.fY.ty hx) k3.yd ?_
      walk_at "rd"
      refine r_is1 (M.fY.ty hx) M.kt.yy ?_
      walk_at "rd"
      refine r_fldE (v := .str n) hx M.fY.cl M.fY.n1 rfl ?_
      walk_at "rd"
      refine r_fldE (v := .str g) hx M.fY.cl M.tY rfl ?_
      walk_at "rd"
      refine ⟨rfl, fun y dy hy hdy ne => ⟨rfl, fun E => ?_⟩⟩
      refine ⟨y, dy, n, g, b, t, rfl, upd_same, hok.1, hok.2, fun H' fr hx' => ⟨rfl, ?_⟩⟩
      exact q y H' (frame_same hy hdy fr) hy ⟨dy, hx'⟩
    | lnk n b t g =>
      obtain ⟨d0, hx⟩ := hin
      walk_at "rd"
      refine r_fldE (v := .int b) hx M.fL.cl M.fL.n2 rfl ?_
      walk_at "rd"
      refine r_fldE (v := .int t) hx M.fL.cl M.fL.n3 rfl ?_
      walk_at "rd"
      refine r_is1 (M.fL.ty hx) M.kt.lf ?_
      walk_at "rd"
      refine r_is1 (M.fL.ty hx) M.kt.ls ?_
      walk_at "rd"
      refine r_is1 (M.fL.ty hx) k3.ld ?_
      walk_at "rd"
      refine r_is1 (M.fL.ty hx) M.kt.ly ?_
      walk_at "rd"
      refine r_fldE (v := .str n) hx M.fL.cl M.fL.n1 rfl ?_
      walk_at "rd"
      refine r_fldE (v := .str g) hx M.fL.cl M.tL rfl ?_
      walk_at "rd"
      refine ⟨rfl, fun y dy hy hdy ne => ⟨rfl, fun E => ?_⟩⟩
      refine ⟨y, dy, n, g, b, t, rfl, upd_same, hok.1, hok.2, fun H' fr hx' => ⟨rfl, ?_⟩⟩
      exact q y H' (frame_same hy hdy fr) hy ⟨dy, hx'⟩
    | sparse n b t z sp =>
      obtain ⟨d0, p, hx, as, hp, hpd⟩ := hin
      obtain ⟨st, z0, z1, hl, hso, hall⟩ := hok
      walk_at "rd"
      refine r_fldE (v := .int b) hx M.fS.cl M.fS.n2 rfl ?_
      walk_at "rd"
      refine r_fldE (v := .int t) hx M.fS.cl M.fS.n3 rfl ?_
      walk_at "rd"
      refine r_is1 (M.fS.ty hx) M.kt.sf ?_
      walk_at "rd"
      refine r_is1 (M.fS.ty hx) M.kt.ss ?_
      walk_at "rd"
      refine r_fldE (v := .str n) hx M.fS.cl M.fS.n1 rfl ?_
      walk_at "rd"
      refine r_fldE (v := .int z) hx M.fS.cl M.tZ rfl ?_
      walk_at "rd"
      unfold StX.tStar
      walk_at "rd"
      refine r_fldE (v := .ref p) hx M.fS.cl M.tS rfl ?_
      refine ⟨p, as.map V.ref, rfl, .inl (SqT.of hp), r_nil ?_⟩
      walk_at "rd"
      refine ⟨rfl, fun y dy hy hdy ne => ⟨b, t, rfl, ?_⟩⟩
      rw [List.append_nil]
      have hpc : pcsOk z (sp.map fun s => (s.1, byteArr s.2)) := by
        unfold pcsOk
        rw [List.map_map, show ((fun s : Int × Array UInt8 => (s.1, (s.2.size : Int))) ∘ fun s : Int × List Int => (s.1, byteArr s.2)) = fun s => (s.1, (s.2.length : Int)) from by funext s; simp [byteArr_size]]
        exact hso
      refine ⟨y, dy, n, z, as, sp.map fun s => (s.1, byteArr s.2), rfl, upd_same, st, ?_, hpc, z0, z1, by rw [List.length_map]; exact hl, fun p' H' hp' fr gp gx => ⟨rfl, ?_⟩⟩
      · refine Paired.mapP hpd fun q s g1 => ?_
        rw [upd_ne (ne_of_none g1 hy), upd_ne (ne_of_none g1 hdy)]
        exact g1
      · have sm := frame_same hy hdy fr
        exact q y H' sm hy ⟨dy, p', gx, as, gp, Paired.mapP hpd fun q s g1 => sm _ _ g1⟩
theorem ok_writtenT {f : Addr} {fd : FuncData} {k : Nat} {c : Cs} {t1 : Tok} (F : Fun K "written" "written" s_written f fd) (m1 : mg "bytes" = none) (m_ES : mg "END_SIZE" = some (.int 1024 t1)) (c_packed : CalT P w K mg base 6 "packed" (spPacked c)) : FnOk P w K mg base CX0 (k + 7) f fd ["members"] (spWritten K true c) := by
  refine F.ok sc_written (fun vs H Q E h => ?_) (fun cdv A outer s H vs Q E hr h => ?_)
  · obtain ⟨p, xs, ms, rfl, _⟩ := h
    rfl
  · obtain ⟨p, xs, ms, rfl, hp, hm, hml, hmb, q⟩ := h
    have hp : SqT K H p (xs.map V.ref) := hp
    have hu := hu_of hr
    have nd := sc_written.nd
    refine ⟨_, (pss_one (ps_ret (pe_op op_addY (pe_bmB PySem.W.FB.plainAttrs_bytes R59.slot_bjoin R59.type_bjoin mt_bjoin pe_byt (pa_cons (pe_lc (own := [("member", 1)]) (g := (gName 1)) (tt := tYes) rfl nd (pi_tup (pv 0)) (blkOk_by (N := N_written) (sc := defScope s_written) (by decide +kernel)) (fun _ _ _ _ _ => (pg_name (i := 1) nd rfl (Or.inl rfl))) (fun _ _ _ _ _ => pts_nil) (fun _ _ _ _ _ => (pe_cc c_packed hr (by omega) (by rfl) (pa_cons (pv 1) pa_nil)))) pa_nil)) (pe_callTy call_bytesN (by rfl) (by assumption) (by decide +kernel) (pa_cons (pe_glob (v := .int 1024) (by rfl) m_ES (by first | exact rfl | exact ⟨_, rfl⟩)) pa_nil))))), ?_⟩
    walk_at "rd"
    refine r_bmB ?_
    refine ⟨_, rfl, ?_⟩
    walk_at "rd"
    intro D hD
    have hl : xs.length = ms.length := Paired.length hm
    refine lc_it (walk_tup (xs := xs.map V.ref)) (fun i H' => Same H H' ∧ H' D = some (.lst (((ms.map fun m => Bt.byOf m.bytes).take i).map V.byt))) ⟨same_new hD, by rw [upd_same]; rfl⟩ (fun i H' _ ⟨e, _⟩ => sqT_same e hp) ?_ ?_
    · rintro i v Hc H' hi ⟨e, hb⟩ ⟨rfl, hv⟩
      rw [List.getElem?_map] at hv
      obtain ⟨x, hx, rfl⟩ : ∃ x, xs[i]? = some x ∧ V.ref x = v := by
        cases e : xs[i]? with
        | none => rw [e] at hv; cases hv
        | some x => rw [e] at hv; exact ⟨x, rfl, Option.some.inj hv⟩
      obtain ⟨m, hmi, hin, hok⟩ := paired_at hm hx
      rw [List.length_map, hl] at hi
      walk_at "rd"
      refine ⟨rfl, ?_⟩
      unfold tYes
      dsimp only
      rw [if_pos rfl]
      walk_at "rd"
      refine sp_packed (Mem.Ins.same e hin) hok (fun H2 e2 => ?_)
      refine ⟨_, e2 _ _ hb, ?_, fun b o eo => ?_, ?_⟩
      · rw [List.length_map, List.length_take, List.length_map]
        exact Nat.lt_of_le_of_lt (by omega : _ ≤ 200) (by decide)
      · rw [upd_ne (ne_of_none eo hD)]
        exact e2 _ _ (e _ _ eo)
      · have hsn : (ms.map fun m => Bt.byOf m.bytes)[i]? = some (Bt.byOf m.bytes) := by rw [List.getElem?_map, hmi]; rfl
        rw [upd_same, take_snoc hsn, List.map_append]
        rfl
    · rintro H1 ⟨e, hb⟩
      refine r_nil ?_
      rw [List.length_map, hl, show ms.length = (ms.map fun m => Bt.byOf m.bytes).length from by rw [List.length_map], List.take_length] at hb
      refine r_bjoin hb (by rw [flat_bytes, List.length_map]; omega) ?_
      rw [flat_bytes]
      walk_at "rd"
      refine r_bytesN (by decide) (by decide) ?_
      rw [show (1024 : Int).toNat = 1024 from rfl, byOf_zero]
      refine r_addY (by rw [byOf_size, List.length_replicate]; rw [List.size_toArray, List.length_map]; omega) ?_
      rw [show ((ms.flatMap Mem.bytes).map Nat.toUInt8).toArray = Bt.byOf (ms.flatMap Mem.bytes) from rfl, byOf_app]
      exact q _ e
end
/-! ### own objects: rules -/
def rLenO (C : Addr) (sp : Sp) : List V → Hp → VK → Prop := fun xs H Q => ∃ a dx fs, xs = [.ref a] ∧ H a = some (.ins C dx fs) ∧ ∀ E, sp [.ref a] H (fun v H' => ∃ n : Nat, v = .int (n : Int) ∧ n < 1000000 ∧ Q (.int (n : Int)) H') E
theorem call_lenO {X : Cx} {j k : Nat} {C : Addr} {sp : Sp} (c : MethT X.prog X.w X.K X.mg X.base k C "__len__" sp) (hr : Room j X.A) (hk : k + 1 ≤ j) : CallR X (.builtin "len") (rLenO C sp) := by
  obtain ⟨f, fd, F, hc, hm, hb⟩ := c.ex
  intro pins s σ H xs us Q I r h
  obtain ⟨a, dx, fs, rfl, ha, q⟩ := h
  obtain ⟨u, rfl, rx⟩ := vals1 r
  have hu : u = Value.ref a := rx
  subst hu
  obtain ⟨mA, O, _⟩ := ins_get I.hok ha
  obtain ⟨od, J, _⟩ := O.look
  obtain ⟨m, fr⟩ := I.fr
  have room : Room k X.A.in1 := (hr.mono hk).in1
  refine PySem.W.len_K fr I.ok.mod.kin J hm.at_ hm.fn ?_
  refine wpAny_call (codeAny_mono (F.run X.A.in1 X.stack s H ⟨[.ref a], []⟩ [.ref a] [.ref a] _ (fun _ _ _ => False) room I.env0.in1 (hb s [.ref a] I.kIn rfl) (.cons rfl .nil) (q _)) ?_)
  intro r s' hq
  cases r with
  | error e => exact False.elim hq
  | ok fl =>
    cases fl with
    | ret v =>
      obtain ⟨y, H', J', rel, n, rfl, hn, q'⟩ := I.after hq
      obtain ⟨t, rfl⟩ := rel
      exact ⟨⟨by omega, by omega⟩, .int n, H', J'.tok _, ⟨_, rfl⟩, q'⟩
    | next => exact False.elim hq
    | brk => exact False.elim hq
    | cont => exact False.elim hq
structure MethS (P : Program) (w : World) (K : PySem.W.Frag) (mg : Str → Option Value) (base : Heap) (k : Nat) (C : Addr) (m : Str) (sp : List V → List V → Hp → VK → Prop) : Prop where
  ex : ∃ f : Addr, FnS P w K mg base k f [] sp ∧ Cls K C ∧ Meth K C m f
def tMethS (C : Addr) (m : Str) (sp : List V → List V → Hp → VK → Prop) (ta : TE) (t : TA) : TE := fun σ H Q => ta σ H fun x H1 => ∃ a dx fs, x = .ref a ∧ H1 a = some (.ins C dx fs) ∧ fs.lookup m = none ∧ t σ H1 fun vs H2 => sp (x :: vs) [] H2 Q
theorem r_methS {C : Addr} {m : Str} {sp : List V → List V → Hp → VK → Prop} {ta : TE} {t : TA} {σ : L2.St} {H : Hp} {Q : VK} (h : ta σ H fun x H1 => ∃ a dx fs, x = .ref a ∧ H1 a = some (.ins C dx fs) ∧ fs.lookup m = none ∧ t σ H1 fun vs H2 => sp (x :: vs) [] H2 Q) : tMethS C m sp ta t σ H Q := h
theorem run_fnS {X : Cx} {k : Nat} {f : Addr} {sp : List V → List V → Hp → VK → Prop} {pins : List (Addr × Obj)} {σ : L2.St} {H : Hp} {s : Shared} {Q : VK} {us : List Value} {vs : List V} (F : FnS X.prog X.w X.K X.mg X.base k f [] sp) (hr : Room k X.A)
    (I : L2.Inv X pins σ H s) (r : Vals vs us) (h : sp vs [] H Q) : wpAny (model X.prog X.w) X.A (call (.ref f) us) (EP X pins σ Q) X.xe s := by
  refine wpAny_call (codeAny_mono (F X.A X.stack s H us [] vs [] Q (fun _ _ _ => False) hr I.env0 r .nil rfl h) fun r s' hq => ?_)
  cases r with
  | error e => exact False.elim hq
  | ok fl =>
    cases fl with
    | ret u => exact I.after hq
    | next => exact False.elim hq
    | brk => exact False.elim hq
    | cont => exact False.elim hq
section
variable {X : Cx} {j k : Nat} {C : Addr} {m f x : Str} {sp : List V → List V → Hp → VK → Prop} {spp : Sp} {o e : Expr} {es : List Expr} {ta : TE} {t : TA} {apos pos p : Pos}
theorem pe_mtS {pl : Sem Bool} (c : MethS X.prog X.w X.K X.mg X.base k C m sp) (hr : Room j X.A) (hk : k ≤ j) (he : PE X o ta) (ha : PA X (e :: es) t)
    (hst : starEach (e :: es) X.env = (false, eval e X.env) :: starEach es X.env := by rfl) (hpl : (backTo pos (starEach es X.env)).any (·.1) = false := by rfl)
    (ht : eval (.Call (.Attribute o m apos) (e :: es) [] pos) X.env = (do
      let ov ← eval o X.env
      standAt apos.atName
      let (f, first) ← holding [ov] (getMethod ov m pl)
      callWith pos f first (backTo pos (starEach (e :: es) X.env)) (backToKw pos (keywordEach [] X.env))) := by rfl) :
    PE X (.Call (.Attribute o m apos) (e :: es) [] pos) (tMethS C m sp ta t) := by
  obtain ⟨g, F, hc, hm⟩ := c.ex
  refine ⟨fun pins s σ H Q I h => ?_⟩
  refine PySem.W.methodCall_KW (pl := pl) (thn (he.run pins s σ H _ I h) fun u s1 ⟨x, H1, I1, rx, a, dx, fs, ex, ea, l, q⟩ => ?_) ht
  subst ex
  obtain rfl : u = Value.ref a := rx
  refine getmeth_ok I1 ea hc hm l ?_
  refine PySem.W.callWith_K (first := [.ref a]) (h₀ := X.base) I.ok.mod.kin hm.kp (thn (ha.run pos pins s1 σ H1 _ I1 q) fun us s2 ⟨vs, H2, I2, r, q2⟩ => ⟨I2.kIn, ?_⟩) hst hpl
  exact run_fnS (us := .ref a :: us) (vs := .ref a :: vs) F (hr.mono hk) I2 (.cons rfl r) q2
theorem pe_mtS0 {pl : Sem Bool} (c : MethS X.prog X.w X.K X.mg X.base k C m sp) (hr : Room j X.A) (hk : k ≤ j) (he : PE X o ta)
    (ht : eval (.Call (.Attribute o m apos) [] [] pos) X.env = (do
      let ov ← eval o X.env
      standAt apos.atName
      let (f, first) ← holding [ov] (getMethod ov m pl)
      callWith pos f first (backTo pos (starEach [] X.env)) (backToKw pos (keywordEach [] X.env))) := by rfl) :
    PE X (.Call (.Attribute o m apos) [] [] pos) (tMethS C m sp ta tNil) := by
  obtain ⟨g, F, hc, hm⟩ := c.ex
  refine ⟨fun pins s σ H Q I h => ?_⟩
  refine PySem.W.methodCall_KW (pl := pl) (thn (he.run pins s σ H _ I h) fun u s1 ⟨x, H1, I1, rx, a, dx, fs, ex, ea, l, q⟩ => ?_) ht
  subst ex
  obtain rfl : u = Value.ref a := rx
  refine getmeth_ok I1 ea hc hm l ?_
  exact PySem.W.callWith_K0 (first := [.ref a]) I1.kIn hm.kp (run_fnS (us := [.ref a]) (vs := [.ref a]) F (hr.mono hk) I1 (.cons rfl .nil) q)
end
structure PropT (P : Program) (w : World) (K : PySem.W.Frag) (mg : Str → Option Value) (base : Heap) (k : Nat) (C : Addr) (f : Str) (sp : Sp) : Prop where
  ex : ∃ (p g : Addr) (fd : FuncData), Cls K C ∧ PropOf K C f p g ∧ FnOk P w K mg base CX0 k g fd ["self"] sp ∧ Binds K fd ["self"] []
theorem pe_propT {X : Cx} {j k : Nat} {C : Addr} {f : Str} {sp : Sp} {e : Expr} {ta : TE} {pos : Pos} (c : PropT X.prog X.w X.K X.mg X.base k C f sp) (hr : Room j X.A) (hk : k + 1 ≤ j) (he : PE X e ta)
    (hab : attributeBase e f X.env (eval e X.env) = eval e X.env := by rfl) : PE X (.Attribute e f pos) (tProp C sp [] E0 ta) := by
  obtain ⟨p, g, fd, hc, hp, F, hb⟩ := c.ex
  exact pe_prop he hc hp F (hr.mono hk) hb .nil pass0 hab
theorem r_prop {C : Addr} {sp : Sp} {dvs : List V} {E : XK} {ta : TE} {σ : L2.St} {H : Hp} {Q : VK} (h : ta σ H fun x H1 => ∃ a dx fs, x = .ref a ∧ H1 a = some (.ins C dx fs) ∧ sp (.ref a :: dvs) H1 Q E) : tProp C sp dvs E ta σ H Q := h
structure Mk0T (P : Program) (w : World) (K : PySem.W.Frag) (mg : Str → Option Value) (base : Heap) (k : Nat) (x : Str) (C : Addr) (sp : Sp) : Prop where
  ex : ∃ (f : Addr) (fd : FuncData), Mk K C f ∧ FnOk P w K mg base CX0 k f fd ["self"] sp ∧ Binds K fd ["self"] [] ∧ mg x = some (.ref C)
theorem pe_mk0 {X : Cx} {j k : Nat} {C : Addr} {x : Str} {sp : Sp} {p pos : Pos} (c : Mk0T X.prog X.w X.K X.mg X.base k x C sp) (hr : Room j X.A) (hk : k + 1 ≤ j) (hg : Gl X x) (hdb : (x == ("__debug__" : Str)) = false := by decide) :
    PE X (.Call (.Name x p) [] [] pos) (tMake C sp [] E0 tNil) := by
  obtain ⟨f, fd, M, F, hb, hm⟩ := c.ex
  exact pe_make0 M F (hr.mono hk) hg hm hb .nil pass0 hdb
theorem r_make {C : Addr} {sp : Sp} {dvs : List V} {E : XK} {t : TA} {σ : L2.St} {H : Hp} {Q : VK} (h : t σ H fun vs H1 => ∀ x dx, H1 x = none → H1 dx = none → dx ≠ x → sp (.ref x :: (vs ++ dvs)) (upd (upd H1 dx (.own x)) x (.ins C dx [])) (fun v H2 => v = .non ∧ Q (.ref x) H2) E) : tMake C sp dvs E t σ H Q := h
/-! ### [bytes, ..] != [bytes, ..], of equal ones -/
/-- a property, as the top leaves it -/
structure PrF (K : PySem.W.Frag) (C : Addr) (f qual : Str) (st : Stmt) (p g : Addr) : Prop where
  pr : PropOf K C f p g
  fg : ∃ (oc : Value) (od an : Option Addr) (kV doc pm cdv ct : Value) (osl : Array (Option Value)), K.lookup g = some ⟨oc, od, .func (PySem.W.fnOf f qual (defArgs st) (defBody st) (defScope st) .none kV doc pm an cdv ct), osl⟩ ∧ PySem.W.codeIn K cdv qual = true
  kg : PySem.W.keepIn K (.ref g) = true
def tMakeV (C : Addr) (sp : Sp) (te : TE) : TE := fun σ H Q => te σ H fun v H1 => v = .ref C ∧ tMake C sp [] E0 tNil σ H1 Q
theorem pe_mkV {X : Cx} {j k : Nat} {C : Addr} {x y : Str} {sp : Sp} {te : TE} {p pos : Pos} (c : Mk0T X.prog X.w X.K X.mg X.base k y C sp) (hr : Room j X.A) (hk : k + 1 ≤ j) (he : PE X (.Name x p) te) :
    PE X (.Call (.Name x p) [] [] pos) (tMakeV C sp te) := by
  obtain ⟨f, fd, M, F, hb, hm⟩ := c.ex
  constructor
  intro pins s σ H Q I h
  refine wpAny_Call_Name_kw (thn (he.run pins s σ H _ I h) ?_)
  rintro u s1 ⟨v, H1, I1, r1, rfl, q1⟩
  obtain rfl : u = Value.ref C := r1
  refine PySem.W.callWith_K0 I1.kIn M.kp ?_
  exact run_make M F (hr.mono hk) hb .nil pass0 I1 .nil q1
/-- a class method, called with one argument -/
structure CMetT (P : Program) (w : World) (K : PySem.W.Frag) (mg : Str → Option Value) (base : Heap) (k : Nat) (C : Addr) (m : Str) (ps : List Str) (sp : Sp) : Prop where
  ex : ∃ (mc : Value) (p g : Addr) (fd : FuncData), ClX.CRead K C mc ∧ ClX.CMet K C mc m p g ∧ FnOk P w K mg base CX0 k g fd ps sp ∧ Binds K fd ps []
theorem fnR_of {P : Program} {w : World} {K : PySem.W.Frag} {mg : Str → Option Value} {base : Heap} {k : Nat} {f : Addr} {fd : FuncData} {ps : List Str} {sp : Sp} (F : FnOk P w K mg base CX0 k f fd ps sp) (hb : Binds K fd ps []) : FnR P w K mg base CX0 k f sp := by
  intro A outer s H us vs Q E hr e0 rv h
  have hl : us.length = ps.length := by rw [← rv.length]; exact F.len _ _ _ _ h
  have b := hb s us (fun a o ho => (e0.bs a o (e0.mod.kin a o ho)).1) (by rw [List.append_nil]; exact hl)
  rw [List.append_nil] at b
  exact F.run A outer s H ⟨us, []⟩ us vs Q E hr e0 b rv h
theorem pe_cmetT {X : Cx} {j k : Nat} {C : Addr} {m : Str} {ps : List Str} {sp : Sp} {o e : Expr} {es : List Expr} {ta : TE} {t : TA} {apos pos : Pos} {pl : Sem Bool} (c : CMetT X.prog X.w X.K X.mg X.base k C m ps sp) (hr : Room j X.A) (hk : k ≤ j) (he : PE X o ta) (ha : PA X (e :: es) t)
    (hst : starEach (e :: es) X.env = (false, eval e X.env) :: starEach es X.env := by rfl) (hpl : (backTo pos (starEach es X.env)).any (·.1) = false := by rfl)
    (ht : eval (.Call (.Attribute o m apos) (e :: es) [] pos) X.env = (do
      let ov ← eval o X.env
      standAt apos.atName
      let (f, first) ← holding [ov] (getMethod ov m pl)
      callWith pos f first (backTo pos (starEach (e :: es) X.env)) (backToKw pos (keywordEach [] X.env))) := by rfl) :
    PE X (.Call (.Attribute o m apos) (e :: es) [] pos) (ClX.tCMeth C sp E0 ta t) := by
  obtain ⟨mc, p, g, fd, r, cm, F, hb⟩ := c.ex
  exact ClX.pe_cmeth he r cm (fnR_of F hb) (hr.mono hk) pass0 ha hst hpl ht
abbrev s_check_members : Stmt := topS 52
abbrev N_check_members : List Str := ["things", "thing"]
theorem sc_check_members : FnScope N_check_members ["things"] (defScope s_check_members) := ⟨rfl, rfl, rfl, by decide +kernel, rfl, by decide +kernel, by decide +kernel⟩
abbrev s_changed_blocks : Stmt := topS 98
abbrev N_changed_blocks : List Str := ["before", "after", "found", "index", "start"]
theorem sc_changed_blocks : FnScope N_changed_blocks ["before", "after"] (defScope s_changed_blocks) := ⟨rfl, rfl, rfl, by decide +kernel, rfl, by decide +kernel, by decide +kernel⟩
abbrev s_Editor___init__ : Stmt := inClass (topS 97) 1
abbrev N_Editor___init__ : List Str := ["self"]
theorem sc_Editor___init__ : FnScope N_Editor___init__ ["self"] (defScope s_Editor___init__) := ⟨rfl, rfl, rfl, by decide +kernel, rfl, by decide +kernel, by decide +kernel⟩
abbrev s_Editor___len__ : Stmt := inClass (topS 97) 2
abbrev N_Editor___len__ : List Str := ["self"]
theorem sc_Editor___len__ : FnScope N_Editor___len__ ["self"] (defScope s_Editor___len__) := ⟨rfl, rfl, rfl, by decide +kernel, rfl, by decide +kernel, by decide +kernel⟩
abbrev s_Editor_archive : Stmt := inClass (topS 97) 4
abbrev N_Editor_archive : List Str := ["self"]
theorem sc_Editor_archive : FnScope N_Editor_archive ["self"] (defScope s_Editor_archive) := ⟨rfl, rfl, rfl, by decide +kernel, rfl, by decide +kernel, by decide +kernel⟩
/-! ### the class Editor: what it is -/
theorem but_nl {H H' : Hp} {p x : Addr} {l : List V} {o : HO} (hp : H p = some (.lst l)) (b : But p H H') (n : ∀ l, o ≠ .lst l) (h : H x = some o) : H' x = some o := by
  refine b x o (fun e => ?_) h
  rw [e, hp] at h
  exact n _ (Option.some.inj h).symm
theorem Mem.Ins.butL {c : Cs} {H H' : Hp} {p x : Addr} {l : List V} {m : Mem} (hp : H p = some (.lst l)) (b : But p H H') (h : m.Ins c H x) : m.Ins c H' x := by
  cases m with
  | file n bb t ns => obtain ⟨dx, h1⟩ := h; exact ⟨dx, but_nl hp b (by intro _ x; cases x) h1⟩
  | sparse n bb t z sp =>
    obtain ⟨dx, q, h1, as, h2, h3⟩ := h
    exact ⟨dx, q, but_nl hp b (by intro _ x; cases x) h1, as, but_nl hp b (by intro _ x; cases x) h2, Paired.mapP h3 fun q s z => but_nl hp b (by intro _ x; cases x) z⟩
  | dir n bb t => obtain ⟨dx, h1⟩ := h; exact ⟨dx, but_nl hp b (by intro _ x; cases x) h1⟩
  | sym n bb t g => obtain ⟨dx, h1⟩ := h; exact ⟨dx, but_nl hp b (by intro _ x; cases x) h1⟩
  | lnk n bb t g => obtain ⟨dx, h1⟩ := h; exact ⟨dx, but_nl hp b (by intro _ x; cases x) h1⟩
theorem Made.butL {c : Cs} {H H' : Hp} {p : Addr} {l : List V} {xs : List Addr} {ms : List Mem} (hp : H p = some (.lst l)) (b : But p H H') (h : Made c H xs ms) : Made c H' xs ms := Paired.mapP h fun x m ⟨a, g⟩ => ⟨a.butL hp b, g⟩
theorem Mem.kit {K : PySem.W.Frag} {c : Cs} {aM : Addr} {H : Hp} {x : Addr} {m : Mem} (M : MF K c aM) (k3 : Kit3 K c) (h : m.Ins c H x) : ∃ C, TyX K H (.ref x) (.ref C) ∧ PySem.W.kitAny K (.ref C) [.ref c.F, .ref c.S, .ref c.D, .ref c.Y, .ref c.L] = some true := by
  cases m with
  | file n b t ns => obtain ⟨dx, hx⟩ := h; exact ⟨_, M.fF.ty hx, kitAny_cons M.kt.ff (fun e => nomatch e) (fun _ => rfl)⟩
  | sparse n b t z sp => obtain ⟨dx, p, hx, _⟩ := h; exact ⟨_, M.fS.ty hx, kitAny_cons M.kt.sf (fun _ => kitAny_cons M.kt.ss (fun e => nomatch e) (fun _ => rfl)) (fun e => nomatch e)⟩
  | dir n b t => obtain ⟨dx, hx⟩ := h; exact ⟨_, M.fD.ty hx, kitAny_cons M.kt.df (fun _ => kitAny_cons M.kt.ds (fun _ => kitAny_cons k3.dd (fun e => nomatch e) (fun _ => rfl)) (fun e => nomatch e)) (fun e => nomatch e)⟩
  | sym n b t g => obtain ⟨dx, hx⟩ := h; exact ⟨_, M.fY.ty hx, kitAny_cons M.kt.yf (fun _ => kitAny_cons M.kt.ys (fun _ => kitAny_cons k3.yd (fun _ => kitAny_cons M.kt.yy (fun e => nomatch e) (fun _ => rfl)) (fun e => nomatch e)) (fun e => nomatch e)) (fun e => nomatch e)⟩
  | lnk n b t g => obtain ⟨dx, hx⟩ := h; exact ⟨_, M.fL.ty hx, kitAny_cons M.kt.lf (fun _ => kitAny_cons M.kt.ls (fun _ => kitAny_cons k3.ld (fun _ => kitAny_cons M.kt.ly (fun _ => kitAny_cons M.kt.ll (fun e => nomatch e) (fun _ => rfl)) (fun e => nomatch e)) (fun e => nomatch e)) (fun e => nomatch e)) (fun e => nomatch e)⟩
def edF (L : Addr) : List (Str × V) := putF "states" (.ref L) []
structure EdC (K : PySem.W.Frag) (E : Addr) : Prop where
  cl : Cls K E
  st : NoAttr K E "states"
def StAt (c : Cs) (H : Hp) (t : Addr) (ms : List Mem) : Prop := ∃ ys : List Addr, H t = some (.tup (ys.map V.ref)) ∧ Made c H ys ms
theorem StAt.same {c : Cs} {H H' : Hp} {t : Addr} {ms : List Mem} (h : StAt c H t ms) (e : Same H H') : StAt c H' t ms := by
  obtain ⟨ys, h1, h2⟩ := h
  exact ⟨ys, e _ _ h1, h2.same e⟩
theorem StAt.butL {c : Cs} {H H' : Hp} {p t : Addr} {l : List V} {ms : List Mem} (hp : H p = some (.lst l)) (b : But p H H') (h : StAt c H t ms) : StAt c H' t ms := by
  obtain ⟨ys, h1, h2⟩ := h
  exact ⟨ys, but_nl hp b (by intro _ x; cases x) h1, h2.butL hp b⟩
/-- an editor: its states, the last one is now -/
structure EdAt (c : Cs) (E : Addr) (H : Hp) (e L : Addr) (past : List (List Mem)) (now : List Mem) : Prop where
  ob : ∃ de, H e = some (.ins E de (edF L))
  ls : ∃ (ts : List Addr) (t : Addr), H L = some (.lst ((ts ++ [t]).map V.ref)) ∧ Paired (StAt c H) ts past ∧ StAt c H t now
theorem EdAt.same {c : Cs} {E : Addr} {H H' : Hp} {e L : Addr} {past : List (List Mem)} {now : List Mem} (h : EdAt c E H e L past now) (s : Same H H') : EdAt c E H' e L past now := by
  obtain ⟨⟨de, h1⟩, ts, t, h2, h3, h4⟩ := h
  exact ⟨⟨de, s _ _ h1⟩, ts, t, s _ _ h2, Paired.mapP h3 fun t ms g => g.same s, h4.same s⟩
/-- another list changes -/
theorem EdAt.butL {c : Cs} {E : Addr} {H H' : Hp} {e L p : Addr} {l : List V} {past : List (List Mem)} {now : List Mem} (h : EdAt c E H e L past now) (hp : H p = some (.lst l)) (n : L ≠ p) (b : But p H H') : EdAt c E H' e L past now := by
  obtain ⟨⟨de, h1⟩, ts, t, h2, h3, h4⟩ := h
  exact ⟨⟨de, but_nl hp b (by intro _ x; cases x) h1⟩, ts, t, b _ _ n h2, Paired.mapP h3 fun t ms g => g.butL hp b, h4.butL hp b⟩
theorem last_ix (ts : List Addr) (t : Addr) : atI ((ts ++ [t]).map V.ref) (-1) = some (.ref t) := by
  rw [at_last (i := ts.length) (by rw [List.length_map, List.length_append, List.length_singleton]), List.map_append, List.getElem?_append_right (by rw [List.length_map]; exact Nat.le_refl _), List.length_map, Nat.sub_self]
  rfl
def chg (xs ys : List Nat) : List Nat := (List.range (ys.length / 512)).filter fun i => decide ((xs.drop (512 * i)).take 512 ≠ (ys.drop (512 * i)).take 512)
theorem pk_any {l : List UInt8} {i j : Nat} : PySem.W.KBy.picked l.toArray (some (i : Int)) (some (j : Int)) = ((l.drop i).take (j - i)).toArray := by
  rw [PySem.W.KBc.picked_eq]
  show (List.take (clipAt l.toArray.size (j : Int) - clipAt l.toArray.size (i : Int)) (List.drop (clipAt l.toArray.size (i : Int)) l)).toArray = _
  rw [clipAt_nat, clipAt_nat, List.size_toArray]
  congr 1
  by_cases h : i ≤ l.length
  · rw [Nat.min_eq_left h]
    by_cases g : j ≤ l.length
    · rw [Nat.min_eq_left g]
    · rw [Nat.min_eq_right (by omega), List.take_of_length_le (by rw [List.length_drop]; omega), List.take_of_length_le (by rw [List.length_drop]; omega)]
  · rw [Nat.min_eq_right (by omega : l.length ≤ i), List.drop_of_length_le (Nat.le_refl _), List.drop_of_length_le (by omega), List.take_nil, List.take_nil]
theorem r_slAny {xs : List Nat} {i j : Nat} {H : Hp} {Q : VK} (hz : xs.length ≤ 1000000) (h : Q (.byt (Bt.byOf ((xs.drop i).take (j - i)))) H) : rSlY (.byt (Bt.byOf xs)) (some (i : Int)) (some (j : Int)) H Q := by
  refine ⟨_, rfl, by rw [byOf_size]; omega, ?_⟩
  unfold Bt.byOf
  rw [pk_any, ← List.map_drop, ← List.map_take]
  exact h
section
variable {P : Program} {w : World} {K : PySem.W.Frag} {mg : Str → Option Value} {base : Heap}
def spCheckM (K : PySem.W.Frag) (tp : Bool) (c : Cs) : Sp := fun vs H Q _ => ∃ (p : Addr) (xs : List Addr) (ms : List Mem), vs = [.ref p] ∧ H p = some (if tp = true then .tup (xs.map V.ref) else .lst (xs.map V.ref)) ∧ Made c H xs ms ∧ ∀ H', Same H H' → Q .non H'
theorem ok_checkm {f aM : Addr} {fd : FuncData} {k : Nat} {c : Cs} (F : Fun K "check_members" "check_members" s_check_members f fd) (m1 : mg "isinstance" = none) (M : MF K c aM) (k3 : Kit3 K c) (m_F : mg "File" = some (.ref c.F)) (m_S : mg "Sparse" = some (.ref c.S)) (m_D : mg "Directory" = some (.ref c.D)) (m_Y : mg "Symlink" = some (.ref c.Y)) (m_L : mg "Link" = some (.ref c.L)) :
    FnOk P w K mg base CX0 (k + 2) f fd ["things"] (spCheckM K true c) := by
  refine F.ok sc_check_members (fun vs H Q E9 h => ?_) (fun cdv A outer s H vs Q E9 hr h => ?_)
  · obtain ⟨p, xs, ms, rfl, _⟩ := h
    rfl
  · obtain ⟨p, xs, ms, rfl, hp, hm, q⟩ := h
    have hp : H p = some (.tup (xs.map V.ref)) := hp
    have hu := hu_of hr
    have nd := sc_check_members.nd
    refine ⟨_, (pss_one (ps_for PassesOwn.never rfl (pi_tup (pv 0)) (pg_name (i := 1) nd rfl (Or.inl rfl))
        (pss_one (ps_if (pt_not (pt_val (pe_callB (call_isiK2 K) (by rfl) (by assumption) (by decide +kernel) (pa_cons (pv 1) (pa_cons (pe_tup (pa_cons (pe_glob (v := .ref c.F) (by rfl) m_F (by first | exact rfl | exact ⟨_, rfl⟩)) (pa_cons (pe_glob (v := .ref c.S) (by rfl) m_S (by first | exact rfl | exact ⟨_, rfl⟩)) (pa_cons (pe_glob (v := .ref c.D) (by rfl) m_D (by first | exact rfl | exact ⟨_, rfl⟩)) (pa_cons (pe_glob (v := .ref c.Y) (by rfl) m_Y (by first | exact rfl | exact ⟨_, rfl⟩)) (pa_cons (pe_glob (v := .ref c.L) (by rfl) m_L (by first | exact rfl | exact ⟨_, rfl⟩)) pa_nil)))))) pa_nil)))))
        (pss_one ps_never)
        pss_nil)))), ?_⟩
    walk_at "rd"
    refine for_it (walk_tup (xs := xs.map V.ref)) (fun i σ H' => ∃ v : Option V, σ = [some (.ref p), v] ∧ Same H H') ?_ (fun i σ H' _ ⟨_, _, e⟩ => SqT.of (e _ _ hp)) ?_ ?_
    · exact ⟨_, rfl, Same.refl _⟩
    · rintro i v σ Hc H' hi ⟨v1, rfl, e⟩ ⟨rfl, hv⟩
      rw [List.getElem?_map] at hv
      obtain ⟨x, hx, rfl⟩ : ∃ x, xs[i]? = some x ∧ V.ref x = v := by
        cases e : xs[i]? with
        | none => rw [e] at hv; cases hv
        | some x => rw [e] at hv; exact ⟨x, rfl, Option.some.inj hv⟩
      obtain ⟨m, hmi, hin, hok⟩ := paired_at hm hx
      walk_at "rd"
      rename_i tp htp
      have e2 : Same H (upd H' tp (.tup [.ref c.F, .ref c.S, .ref c.D, .ref c.Y, .ref c.L])) := e.trans (same_new htp)
      obtain ⟨C, ty, hk⟩ := Mem.kit M k3 (Mem.Ins.same e2 hin)
      refine ⟨.ref x, tp, _, .ref C, _, true, rfl, upd_same, .cons (.own _) (.cons (.own _) (.cons (.own _) (.cons (.own _) (.cons (.own _) .nil)))), ty, hk, ?_⟩
      walk_at "rd"
      exact ⟨_, rfl, e2⟩
    · rintro σ Hc ⟨v1, rfl, e⟩
      walk_at "rd"
      exact q _ e
def spEInit (c : Cs) (E : Addr) : Sp := fun vs H Q _ => ∃ (x dx : Addr), vs = [.ref x] ∧ H x = some (.ins E dx []) ∧ ∀ L H', H L = none → Frame x H H' → EdAt c E H' x L [] [] → Q .non H'
theorem ok_einit {f E : Addr} {fd : FuncData} {k : Nat} {c : Cs} (F : Fun K "__init__" "Editor.__init__" s_Editor___init__ f fd) (hc : EdC K E) : FnOk P w K mg base CX0 (k + 2) f fd ["self"] (spEInit c E) := by
  refine F.ok sc_Editor___init__ (fun vs H Q E9 h => ?_) (fun cdv A outer s H vs Q E9 hr h => ?_)
  · obtain ⟨x, dx, rfl, _⟩ := h
    rfl
  · obtain ⟨x, dx, rfl, hx, q⟩ := h
    have hu := hu_of hr
    have nd := sc_Editor___init__.nd
    have hcl := hc.cl
    have hst := hc.st
    refine ⟨_, (pss_one (ps_fld (pv 0) (pe_lst (pa_cons (pe_tup pa_nil) pa_nil)) rfl)), ?_⟩
    walk_at "rd"
    rename_i t ht L hL
    have nt : x ≠ t := ne_of_none hx ht
    have hx1 : upd H t (.tup []) x = some (.ins _ dx []) := upd_old ht hx
    have nL' : x ≠ L := ne_of_none hx1 hL
    have nLt : L ≠ t := fun e => by rw [e, upd_same] at hL; cases hL
    have hLn : H L = none := by rw [upd_ne nLt] at hL; exact hL
    refine q L _ hLn (fun b o nb e => ?_) ⟨⟨dx, upd_same⟩, [], t, ?_, .nil, [], ?_, .nil⟩
    · rw [upd_ne nb, upd_ne (ne_of_none (upd_old ht e) hL), upd_ne (ne_of_none e ht)]
      exact e
    · rw [upd_ne nL'.symm, upd_same]
      rfl
    · rw [upd_ne nt.symm, upd_ne nLt.symm, upd_same]
      rfl
def spELen (c : Cs) (E : Addr) : Sp := fun vs H Q _ => ∃ (e L : Addr) (past : List (List Mem)) (now : List Mem), vs = [.ref e] ∧ EdAt c E H e L past now ∧ Q (.int (now.length : Nat)) H
theorem ok_elen {f E : Addr} {fd : FuncData} {k : Nat} {c : Cs} (F : Fun K "__len__" "Editor.__len__" s_Editor___len__ f fd) (hc : EdC K E) (m1 : mg "len" = none) : FnOk P w K mg base CX0 (k + 2) f fd ["self"] (spELen c E) := by
  refine F.ok sc_Editor___len__ (fun vs H Q E9 h => ?_) (fun cdv A outer s H vs Q E9 hr h => ?_)
  · obtain ⟨e, L, past, now, rfl, _⟩ := h
    rfl
  · obtain ⟨e, L, past, now, rfl, ⟨⟨de, h1⟩, ts, t, h2, h3, ys, h4, h5⟩, q⟩ := h
    have hu := hu_of hr
    have nd := sc_Editor___len__.nd
    refine ⟨_, (pss_one (ps_ret (pe_callB (call_lenK K) (by rfl) (by assumption) (by decide +kernel) (pa_cons (pe_ix (ix_listK K) (pe_fld (pv 0) rfl) (pe_un un_neg pe_int) (fun _ _ => rfl)) pa_nil)))), ?_⟩
    walk_at "rd"
    refine r_fldE (v := .ref L) h1 hc.cl hc.st rfl ?_
    walk_at "rd"
    refine r_ixL (v := .ref t) (SqL.of h2) (last_ix ts t) ?_
    walk_at "rd"
    rw [List.length_map, show ys.length = now.length from Paired.length h5]
    exact q
def spWrA (K : PySem.W.Frag) (c : Cs) : Sp := fun vs H Q E => spWritten K false c vs H Q E ∨ spWritten K true c vs H Q E
def spEArch (c : Cs) (E : Addr) : Sp := fun vs H Q _ => ∃ (e L : Addr) (past : List (List Mem)) (now : List Mem), vs = [.ref e] ∧ EdAt c E H e L past now ∧ now.length ≤ 200 ∧ (now.flatMap Mem.bytes).length ≤ 90000 ∧ ∀ H', Same H H' → Q (.byt (Bt.byOf (arch now))) H'
theorem ok_earch {f E : Addr} {fd : FuncData} {k : Nat} {c : Cs} (F : Fun K "archive" "Editor.archive" s_Editor_archive f fd) (hc : EdC K E) (c_written : CalT P w K mg base 7 "written" (spWrA K c)) : FnOk P w K mg base CX0 (k + 8) f fd ["self"] (spEArch c E) := by
  refine F.ok sc_Editor_archive (fun vs H Q E9 h => ?_) (fun cdv A outer s H vs Q E9 hr h => ?_)
  · obtain ⟨e, L, past, now, rfl, _⟩ := h
    rfl
  · obtain ⟨e, L, past, now, rfl, ⟨⟨de, h1⟩, ts, t, h2, h3, ys, h4, h5⟩, n1, n2, q⟩ := h
    have hu := hu_of hr
    have nd := sc_Editor_archive.nd
    refine ⟨_, (pss_one (ps_ret (pe_cc c_written hr (by omega) (by rfl) (pa_cons (pe_ix (ix_listK K) (pe_fld (pv 0) rfl) (pe_un un_neg pe_int) (fun _ _ => rfl)) pa_nil)))), ?_⟩
    walk_at "rd"
    refine r_fldE (v := .ref L) h1 hc.cl hc.st rfl ?_
    walk_at "rd"
    refine r_ixL (v := .ref t) (SqL.of h2) (last_ix ts t) ?_
    walk_at "rd"
    refine .inr ⟨t, ys, now, rfl, SqT.of h4, h5, n1, n2, fun H' e' => ?_⟩
    exact q H' e'
def spChg : Sp := fun vs H Q _ => ∃ xs ys : List Nat, vs = [.byt (Bt.byOf xs), .byt (Bt.byOf ys)] ∧ xs.length ≤ 100000 ∧ ys.length ≤ 100000 ∧ (∀ c ∈ xs, c < 256) ∧ (∀ c ∈ ys, c < 256) ∧ ∀ r H', H r = none → Same H H' → LN H' r (chg xs ys) → Q (.ref r) H'
theorem ok_chg {f : Addr} {fd : FuncData} {k : Nat} {t1 : Tok} (F : Fun K "changed_blocks" "changed_blocks" s_changed_blocks f fd) (m1 : mg "range" = none) (m2 : mg "len" = none) (m_BS : mg "BLOCK_SIZE" = some (.int 512 t1)) : FnOk P w K mg base CX0 (k + 2) f fd ["before", "after"] spChg := by
  refine F.ok sc_changed_blocks (fun vs H Q E9 h => ?_) (fun cdv A outer s H vs Q E9 hr h => ?_)
  · obtain ⟨xs, ys, rfl, _⟩ := h
    rfl
  · obtain ⟨xs, ys, rfl, hx, hy, bx, by_, q⟩ := h
    have hu := hu_of hr
    have nd := sc_changed_blocks.nd
    have zx : (Bt.byOf xs).size = xs.length := byOf_size _
    have zy : (Bt.byOf ys).size = ys.length := byOf_size _
    refine ⟨_, (pss_cons (ps_set (i := 2) nd rfl (Or.inl rfl) (pe_lst pa_nil))
      (pss_cons (ps_for PassesOwn.never rfl (pi_range1 (by rfl) (by assumption) (pa_cons (pe_op op_fdivW (pe_callB call_rLenY (by rfl) (by assumption) (by decide +kernel) (pa_cons (pv 1) pa_nil)) (pe_glob (v := .int 512) (by rfl) m_BS (by first | exact rfl | exact ⟨_, rfl⟩))) pa_nil)) (pg_name (i := 3) nd rfl (Or.inl rfl))
        (pss_cons (ps_set (i := 4) nd rfl (Or.inl rfl) (pe_op op_mul (pv 3) (pe_glob (v := .int 512) (by rfl) m_BS (by first | exact rfl | exact ⟨_, rfl⟩))))
      (pss_one (ps_if (pt_cmpR op_ne (pe_slice sl_Y (pv 0) (po_some (pv 4)) (po_some (pe_op op_add (pv 4) (pe_glob (v := .int 512) (by rfl) m_BS (by first | exact rfl | exact ⟨_, rfl⟩))))) (pe_slice sl_Y (pv 1) (po_some (pv 4)) (po_some (pe_op op_add (pv 4) (pe_glob (v := .int 512) (by rfl) m_BS (by first | exact rfl | exact ⟨_, rfl⟩))))) (nomark _))
        (pss_one (ps_expr (pe_bm PySem.F.plainAttrs_list PySem.F.slot_list_append PySem.F.type_list_append mt_append (pv 2) (pa_cons (pv 3) pa_nil))))
        pss_nil))))
      (pss_one (ps_ret (pv 2))))), ?_⟩
    walk_at "rd"
    rename_i r hr'
    rw [zy]
    have hN : ((ys.length : Int) / 512).toNat = ys.length / 512 := by omega
    refine for_it (walk_range (lo := 0) (n := _)) (fun i σ H' => ∃ v3 v4 : Option V, σ = [some (.byt (Bt.byOf xs)), some (.byt (Bt.byOf ys)), some (.ref r), v3, v4] ∧ (∀ b o, H b = some o → H' b = some o) ∧ LN H' r ((List.range i).filter fun i => decide ((xs.drop (512 * i)).take 512 ≠ (ys.drop (512 * i)).take 512))) ?_ (fun _ _ _ _ _ => True.intro) ?_ ?_
    · exact ⟨_, _, rfl, same_new hr', upd_same⟩
    · rintro i x σ Hc H' hi ⟨v3, v4, rfl, e, hL⟩ ⟨rfl, hv⟩
      simp only [Int.zero_add] at hv
      subst hv
      have hi' : i < ys.length / 512 := by omega
      walk_at "rd"
      rw [show (i : Int) * 512 = ((512 * i : Nat) : Int) by push_cast; omega, show ((512 * i : Nat) : Int) + 512 = ((512 * i + 512 : Nat) : Int) by push_cast; rfl]
      refine r_slAny (by omega) ?_
      walk_at "rd"
      rw [show ((512 * i : Nat) : Int) + 512 = ((512 * i + 512 : Nat) : Int) by push_cast; rfl]
      refine r_slAny (by omega) ?_
      walk_at "rd"
      rw [show 512 * i + 512 - 512 * i = 512 by omega]
      have hcl : ((nL ((List.range i).filter fun i => decide ((xs.drop (512 * i)).take 512 ≠ (ys.drop (512 * i)).take 512))).map V.int).length ≤ 200 := by
        rw [nL_len]
        refine Nat.le_trans (List.length_filter_le _ _) ?_
        rw [List.length_range]
        omega
      by_cases g : (xs.drop (512 * i)).take 512 = (ys.drop (512 * i)).take 512
      · rw [g, decide_eq_true rfl]
        walk_at "rd"
        refine ⟨_, _, rfl, e, ?_⟩
        rw [List.range_succ, List.filter_append, List.filter_cons_of_neg (by simp [g]), List.filter_nil, List.append_nil]
        exact hL
      · have hne : V.byt (Bt.byOf ((xs.drop (512 * i)).take 512)) ≠ V.byt (Bt.byOf ((ys.drop (512 * i)).take 512)) := fun h => g (byOf_inj2 (fun c hc => bx c (List.mem_of_mem_drop (List.mem_of_mem_take hc))) (fun c hc => by_ c (List.mem_of_mem_drop (List.mem_of_mem_take hc))) (V.byt.inj h))
        rw [decide_eq_false hne]
        walk_at "rd"
        refine ⟨_, _, rfl, fun b o eo => ?_, ?_⟩
        · rw [upd_ne (ne_of_none eo hr')]
          exact e _ _ eo
        · rw [List.range_succ, List.filter_append, List.filter_cons_of_pos (by simp [g]), List.filter_nil]
          show upd H' r _ r = _
          rw [upd_same, nL_app, List.map_append]
          rfl
    · rintro σ Hc ⟨v3, v4, rfl, e, hL⟩
      walk_at "rd"
      rw [hN] at hL
      exact q r _ hr' e hL
end
abbrev s_Editor_of : Stmt := inClass (topS 97) 3
abbrev N_Editor_of : List Str := ["cls", "data", "members", "editor"]
theorem sc_Editor_of : FnScope N_Editor_of ["cls", "data"] (defScope s_Editor_of) := ⟨rfl, rfl, rfl, by decide +kernel, rfl, by decide +kernel, by decide +kernel⟩
abbrev s_Editor_members : Stmt := inClass (topS 97) 5
abbrev N_Editor_members : List Str := ["self", "member"]
theorem sc_Editor_members : FnScope N_Editor_members ["self"] (defScope s_Editor_members) := ⟨rfl, rfl, rfl, by decide +kernel, rfl, by decide +kernel, by decide +kernel⟩
abbrev s_Editor_offsets : Stmt := inClass (topS 97) 6
abbrev N_Editor_offsets : List Str := ["self", "sizes", "member", "many"]
theorem sc_Editor_offsets : FnScope N_Editor_offsets ["self"] (defScope s_Editor_offsets) := ⟨rfl, rfl, rfl, by decide +kernel, rfl, by decide +kernel, by decide +kernel⟩
abbrev s_Editor_add : Stmt := inClass (topS 97) 7
abbrev N_Editor_add : List Str := ["self", "members", "state", "copies", "member"]
theorem sc_Editor_add : FnScope N_Editor_add ["self", "members"] (defScope s_Editor_add) := ⟨rfl, rfl, rfl, by decide +kernel, rfl, by decide +kernel, by decide +kernel⟩
abbrev s_Editor_edit : Stmt := inClass (topS 97) 12
abbrev N_Editor_edit : List Str := ["self", "state", "before"]
theorem sc_Editor_edit : FnScope N_Editor_edit ["self", "state"] (defScope s_Editor_edit) := ⟨rfl, rfl, rfl, by decide +kernel, rfl, by decide +kernel, by decide +kernel⟩
abbrev s_Editor_exchange : Stmt := inClass (topS 97) 8
abbrev N_Editor_exchange : List Str := ["self", "index", "member", "state"]
theorem sc_Editor_exchange : FnScope N_Editor_exchange ["self", "index", "member"] (defScope s_Editor_exchange) := ⟨rfl, rfl, rfl, by decide +kernel, rfl, by decide +kernel, by decide +kernel⟩
abbrev s_Editor_take_out : Stmt := inClass (topS 97) 9
abbrev N_Editor_take_out : List Str := ["self", "index", "state"]
theorem sc_Editor_take_out : FnScope N_Editor_take_out ["self", "index"] (defScope s_Editor_take_out) := ⟨rfl, rfl, rfl, by decide +kernel, rfl, by decide +kernel, by decide +kernel⟩
abbrev s_Editor_check_index : Stmt := inClass (topS 97) 11
abbrev N_Editor_check_index : List Str := ["self", "thing"]
theorem sc_Editor_check_index : FnScope N_Editor_check_index ["self", "thing"] (defScope s_Editor_check_index) := ⟨rfl, rfl, rfl, by decide +kernel, rfl, by decide +kernel, by decide +kernel⟩
/-! ### the class Editor: edits -/
theorem arch_lt {ms : List Mem} (ho : ∀ m ∈ ms, m.Ok) : ∀ c ∈ arch ms, c < 256 := fun x hx => by
  unfold arch at hx
  rcases List.mem_append.mp hx with hx | hx
  · obtain ⟨m, hm, hxm⟩ := List.mem_flatMap.mp hx
    exact Mem.bytes_lt (ho m hm) x hxm
  · rw [List.eq_of_mem_replicate hx]
    decide
theorem StAt.ok {c : Cs} {H : Hp} {t : Addr} {ms : List Mem} (h : StAt c H t ms) : ∀ m ∈ ms, m.Ok := by
  obtain ⟨ys, _, h2⟩ := h
  exact h2.ok
theorem arch_length (ms : List Mem) : (arch ms).length = (ms.flatMap Mem.bytes).length + 1024 := by unfold arch; rw [List.length_append, List.length_replicate]
/-- not too much -/
def Lim (ms : List Mem) : Prop := ms.length ≤ 200 ∧ (ms.flatMap Mem.bytes).length ≤ 90000
section
variable {P : Program} {w : World} {K : PySem.W.Frag} {mg : Str → Option Value} {base : Heap}
def spEMems (c : Cs) (E : Addr) : Sp := fun vs H Q _ => ∃ (e L : Addr) (past : List (List Mem)) (now : List Mem), vs = [.ref e] ∧ EdAt c E H e L past now ∧ now.length ≤ 200 ∧ ∀ M ys H', H M = none → Same H H' → H' M = some (.lst (ys.map V.ref)) → Made c H' ys now → Q (.ref M) H'
theorem ok_emems {f E : Addr} {fd : FuncData} {k : Nat} {c : Cs} (F : Fun K "members" "Editor.members" s_Editor_members f fd) (hc : EdC K E) (c_copy : CalT P w K mg base 8 "copy_of" (spCopy c)) : FnOk P w K mg base CX0 (k + 9) f fd ["self"] (spEMems c E) := by
  refine F.ok sc_Editor_members (fun vs H Q E9 h => ?_) (fun cdv A outer s H vs Q E9 hr h => ?_)
  · obtain ⟨e, L, past, now, rfl, _⟩ := h
    rfl
  · obtain ⟨e, L, past, now, rfl, ⟨⟨de, h1⟩, ts, t, h2, h3, ys, h4, h5⟩, n1, q⟩ := h
    have hu := hu_of hr
    have nd := sc_Editor_members.nd
    have hyl : ys.length = now.length := Paired.length h5
    refine ⟨_, (pss_one (ps_ret (pe_lc (own := [("member", 1)]) (g := (gName 1)) (tt := tYes) rfl nd (pi_tup (pe_ix (ix_listK K) (pe_fld (pv 0) rfl) (pe_un un_neg pe_int) (fun _ _ => rfl))) (blkOk_by (N := N_Editor_members) (sc := defScope s_Editor_members) (by decide +kernel)) (fun _ _ _ _ _ => (pg_name (i := 1) nd rfl (Or.inl rfl))) (fun _ _ _ _ _ => pts_nil) (fun _ _ _ _ _ => (pe_cc c_copy hr (by omega) (by rfl) (pa_cons (pv 1) pa_nil)))))), ?_⟩
    walk_at "rd"
    refine r_fldE (v := .ref L) h1 hc.cl hc.st rfl ?_
    walk_at "rd"
    refine r_ixL (v := .ref t) (SqL.of h2) (last_ix ts t) ?_
    refine ⟨t, rfl, ⟨_, SqT.of h4⟩, ?_⟩
    intro D hD
    refine lc_it (walk_tup (xs := ys.map V.ref)) (fun i H' => Same H H' ∧ ∃ bs : List Addr, H' D = some (.lst (bs.map V.ref)) ∧ Paired (fun y (m : Mem) => m.Ins c H' y ∧ m.Ok) bs (now.take i)) ⟨same_new hD, [], upd_same, .nil⟩ (fun i H' _ ⟨e, _⟩ => SqT.of (e _ _ h4)) ?_ ?_
    · rintro i v Hc H' hi ⟨e', bs, hb', hbp⟩ ⟨rfl, hv⟩
      rw [List.getElem?_map] at hv
      obtain ⟨x, hx, rfl⟩ : ∃ x, ys[i]? = some x ∧ V.ref x = v := by
        cases e : ys[i]? with
        | none => rw [e] at hv; cases hv
        | some x => rw [e] at hv; exact ⟨x, rfl, Option.some.inj hv⟩
      obtain ⟨m, hmi, hin, hok⟩ := paired_at h5 hx
      walk_at "rd"
      refine ⟨rfl, ?_⟩
      unfold tYes
      dsimp only
      rw [if_pos rfl]
      walk_at "rd"
      refine sp_copy (hin.same e') hok fun y H2 e2 hy hin2 => ?_
      have hb2 := e2 _ _ hb'
      refine ⟨_, hb2, Nat.lt_of_le_of_lt (by rw [List.length_map, hbp.length, List.length_take]; omega : _ ≤ 200) (by decide), fun b o eo => by rw [upd_ne (ne_of_none eo hD)]; exact e2 _ _ (e' _ _ eo), bs ++ [y], by rw [upd_same, List.map_append]; rfl, ?_⟩
      rw [take_snoc hmi]
      exact paired_snoc (Paired.mapP hbp fun z n ⟨g, o⟩ => ⟨Mem.Ins.lstU hb2 (Mem.Ins.same e2 g), o⟩) ⟨Mem.Ins.lstU hb2 hin2, hok⟩
    · rintro H3 ⟨e3, bs, hb', hbp⟩
      rw [List.length_map, hyl, List.take_length] at hbp
      walk_at "rd"
      exact q D bs H3 hD e3 hb' hbp
def spEEdit (c : Cs) (E : Addr) : Sp := fun vs H Q _ => ∃ (e L t : Addr) (past : List (List Mem)) (now new : List Mem), vs = [.ref e, .ref t] ∧ EdAt c E H e L past now ∧ StAt c H t new ∧ Lim now ∧ Lim new ∧ past.length ≤ 1000 ∧
  ∀ r H', H r = none → But L H H' → EdAt c E H' e L (past ++ [now]) new → LN H' r (chg (arch now) (arch new)) → Q (.ref r) H'
theorem ok_eedit {f E : Addr} {fd : FuncData} {k : Nat} {c : Cs} (F : Fun K "edit" "Editor.edit" s_Editor_edit f fd) (hc : EdC K E) (m_archive : PropT P w K mg base 8 E "archive" (spEArch c E)) (c_changed : CalT P w K mg base 2 "changed_blocks" spChg) : FnOk P w K mg base CX0 (k + 10) f fd ["self", "state"] (spEEdit c E) := by
  refine F.ok sc_Editor_edit (fun vs H Q E9 h => ?_) (fun cdv A outer s H vs Q E9 hr h => ?_)
  · obtain ⟨e, L, t, past, now, new, rfl, _⟩ := h
    rfl
  · obtain ⟨e, L, t', past, now, new, rfl, hE, hS, ⟨n1, n2⟩, ⟨n3, n4⟩, n5, q⟩ := h
    have hu := hu_of hr
    have nd := sc_Editor_edit.nd
    obtain ⟨⟨de, h1⟩, ts, t, h2, h3, h4⟩ := id hE
    refine ⟨_, (pss_cons (ps_set (i := 2) nd rfl (Or.inl rfl) (pe_propT m_archive hr (by omega) (pv 0)))
      (pss_cons (ps_expr (pe_bm PySem.F.plainAttrs_list PySem.F.slot_list_append PySem.F.type_list_append mt_append (pe_fld (pv 0) rfl) (pa_cons (pv 1) pa_nil)))
      (pss_one (ps_ret (pe_cc c_changed hr (by omega) (by rfl) (pa_cons (pv 2) (pa_cons (pe_propT m_archive hr (by omega) (pv 0)) pa_nil))))))), ?_⟩
    walk_at "rd"
    refine r_prop ?_
    walk_at "rd"
    refine ⟨e, de, _, rfl, h1, e, L, past, now, rfl, hE, n1, n2, fun H1 e1 => ?_⟩
    have h1' := e1 _ _ h1
    have h2' := e1 _ _ h2
    walk_at "rd"
    refine r_fldE (v := .ref L) h1' hc.cl hc.st rfl ?_
    have hl : ((ts ++ [t]).map V.ref).length ≤ 1001 := by
      rw [List.length_map, List.length_append, List.length_singleton, Paired.length h3]
      omega
    walk_at "rd"
    have hb : But L H (upd H1 L (.lst ((ts ++ [t]).map V.ref ++ [V.ref t']))) := fun b o nb eo => by rw [upd_ne nb]; exact e1 _ _ eo
    have hE2 : EdAt c E (upd H1 L (.lst ((ts ++ [t]).map V.ref ++ [V.ref t']))) e L (past ++ [now]) new := by
      refine ⟨⟨de, but_nl h2 hb (by intro _ x; cases x) h1⟩, ts ++ [t], t', by rw [upd_same, List.map_append (l₁ := ts ++ [t])]; rfl, paired_snoc (Paired.mapP h3 fun t ms g => g.butL h2 hb) (h4.butL h2 hb), hS.butL h2 hb⟩
    obtain ⟨⟨de2, g1⟩, _⟩ := id hE2
    walk_at "rd"
    refine r_prop ?_
    walk_at "rd"
    refine ⟨e, de2, _, rfl, g1, e, L, _, new, rfl, hE2, n3, n4, fun H3 e3 => ?_⟩
    walk_at "rd"
    refine ⟨arch now, arch new, rfl, by rw [arch_length]; omega, by rw [arch_length]; omega, arch_lt h4.ok, arch_lt hS.ok, fun r H4 hr4 e4 g4 => ?_⟩
    have hr0 : H r = none := by
      have e34 : ∀ b o, b ≠ L → H b = some o → H3 b = some o := fun b o nb eo => e3 _ _ (hb b o nb eo)
      cases g : H r with
      | none => rfl
      | some o =>
        by_cases g2 : r = L
        · rw [g2] at hr4
          rw [e3 _ _ upd_same] at hr4
          cases hr4
        · rw [e34 r o g2 g] at hr4
          cases hr4
    exact q r H4 hr0 (fun b o nb eo => e4 _ _ (e3 _ _ (hb b o nb eo))) ((hE2.same e3).same e4) g4
theorem sumSp (ms : List Mem) (i : Nat) : ((ms.map fun m => m.bytes.length).take i).sum = spotN ms i := by
  unfold spotN
  rw [← List.map_take, List.length_flatMap]
/-- the offsets of the members -/
def offN (ms : List Mem) : List Nat := (List.range ms.length).map fun i => spotN ms i
def spEOffs (c : Cs) (E : Addr) : Sp := fun vs H Q _ => ∃ (e L : Addr) (past : List (List Mem)) (now : List Mem), vs = [.ref e] ∧ EdAt c E H e L past now ∧ Lim now ∧ ∀ p H', H p = none → Same H H' → LN H' p (offN now) → Q (.ref p) H'
theorem ok_eoffs {f E : Addr} {fd : FuncData} {k : Nat} {c : Cs} (F : Fun K "offsets" "Editor.offsets" s_Editor_offsets f fd) (hc : EdC K E) (m1 : mg "len" = none) (m2 : mg "range" = none) (m3 : mg "sum" = none) (c_packed : CalT P w K mg base 6 "packed" (spPacked c)) : FnOk P w K mg base CX0 (k + 7) f fd ["self"] (spEOffs c E) := by
  refine F.ok sc_Editor_offsets (fun vs H Q E9 h => ?_) (fun cdv A outer s H vs Q E9 hr h => ?_)
  · obtain ⟨e, L, past, now, rfl, _⟩ := h
    rfl
  · obtain ⟨e, L, past, now, rfl, ⟨⟨de, h1⟩, ts, t, h2, h3, ys, h4, h5⟩, ⟨n1, n2⟩, q⟩ := h
    have hu := hu_of hr
    have nd := sc_Editor_offsets.nd
    have hyl : ys.length = now.length := Paired.length h5
    refine ⟨_, (pss_cons (ps_set (i := 1) nd rfl (Or.inr rfl) (pe_lc (own := [("member", 2)]) (g := (gName 2)) (tt := tYes) rfl nd (pi_tup (pe_ix (ix_listK K) (pe_fld (pv 0) rfl) (pe_un un_neg pe_int) (fun _ _ => rfl))) (blkOk_by (N := N_Editor_offsets) (sc := defScope s_Editor_offsets) (by decide +kernel)) (fun _ _ _ _ _ => (pg_name (i := 2) nd rfl (Or.inl rfl))) (fun _ _ _ _ _ => pts_nil) (fun _ _ _ _ _ => (pe_callB call_rLenY (by rfl) (by assumption) (by decide +kernel) (pa_cons (pe_cc c_packed hr (by omega) (by rfl) (pa_cons (pv 2) pa_nil)) pa_nil)))))
      (pss_one (ps_ret (pe_lc (own := [("many", 3)]) (g := (gName 3)) (tt := tYes) rfl nd (pi_range1 (by rfl) (by assumption) (pa_cons (pe_callB (call_lenK K) (by rfl) (by assumption) (by decide +kernel) (pa_cons (pv 1) pa_nil)) pa_nil)) (blkOk_by (N := N_Editor_offsets) (sc := defScope s_Editor_offsets) (by decide +kernel)) (fun _ _ _ _ _ => (pg_name (i := 3) nd rfl (Or.inl rfl))) (fun _ _ _ _ _ => pts_nil) (fun _ _ _ _ _ => (pe_callB (call_sumK K) (by rfl) (by assumption) (by decide +kernel) (pa_cons (pe_slice (sl_listK K) (pv 1) po_none (po_some (pv 3))) pa_nil))))))), ?_⟩
    walk_at "rd"
    refine r_fldE (v := .ref L) h1 hc.cl hc.st rfl ?_
    walk_at "rd"
    refine r_ixL (v := .ref t) (SqL.of h2) (last_ix ts t) ?_
    refine ⟨t, rfl, ⟨_, SqT.of h4⟩, ?_⟩
    intro D hD
    refine lc_it (walk_tup (xs := ys.map V.ref)) (fun i H' => Same H H' ∧ LN H' D ((now.take i).map fun m => m.bytes.length)) ⟨same_new hD, upd_same⟩ (fun i H' _ ⟨e, _⟩ => SqT.of (e _ _ h4)) ?_ ?_
    · rintro i v Hc H' hi ⟨e', hb'⟩ ⟨rfl, hv⟩
      rw [List.getElem?_map] at hv
      obtain ⟨x, hx, rfl⟩ : ∃ x, ys[i]? = some x ∧ V.ref x = v := by
        cases e : ys[i]? with
        | none => rw [e] at hv; cases hv
        | some x => rw [e] at hv; exact ⟨x, rfl, Option.some.inj hv⟩
      obtain ⟨m, hmi, hin, hok⟩ := paired_at h5 hx
      have hmb := Mem.bytes_len hok
      have hsz : (Bt.byOf m.bytes).size = m.bytes.length := byOf_size _
      walk_at "rd"
      refine ⟨rfl, ?_⟩
      unfold tYes
      dsimp only
      rw [if_pos rfl]
      walk_at "rd"
      refine sp_packed (hin.same e') hok fun H2 e2 => ?_
      walk_at "rd"
      rw [hsz]
      have hb2 : H2 D = some (.lst ((nL ((now.take i).map fun m => m.bytes.length)).map V.int)) := e2 _ _ hb'
      refine ⟨_, hb2, Nat.lt_of_le_of_lt (by rw [nL_len, List.length_map, List.length_take]; omega : _ ≤ 200) (by decide), fun b o eo => by rw [upd_ne (ne_of_none eo hD)]; exact e2 _ _ (e' _ _ eo), ?_⟩
      show upd H2 D _ D = _
      rw [upd_same, take_snoc hmi, List.map_append, nL_app, List.map_append]
      rfl
    · rintro H3 ⟨e3, hb'⟩
      rw [List.length_map, hyl, List.take_length] at hb'
      have hlst : H3 D = some (.lst ((nL (now.map fun m => m.bytes.length)).map V.int)) := hb'
      walk_at "rd"
      rw [nL_len, List.length_map]
      refine ⟨_, rfl, by omega, by omega, ?_⟩
      intro G hG
      refine lc_it (walk_range (lo := 0) (n := _)) (fun i H' => Same H3 H' ∧ LN H' G ((List.range i).map fun i => spotN now i)) ⟨same_new hG, upd_same⟩ (fun _ _ _ _ => True.intro) ?_ ?_
      · rintro i v Hc H' hi ⟨e', hb2⟩ ⟨rfl, hv⟩
        simp only [Int.zero_add] at hv
        subst hv
        have hl2 : H' D = some (.lst ((nL (now.map fun m => m.bytes.length)).map V.int)) := e' _ _ hlst
        walk_at "rd"
        refine ⟨rfl, ?_⟩
        unfold tYes
        dsimp only
        rw [if_pos rfl]
        walk_at "rd"
        rename_i p1 hp1
        have g1 := sl_to (xs := now.map fun m => m.bytes.length) (n := i) (upd_same (H := H') (a := p1))
        have e1 := same_new (o := HO.lst (cutV ((nL (now.map fun m => m.bytes.length)).map V.int) none (some (i : Int)))) hp1
        refine sumN g1 ?_
        rw [sumSp]
        have hb3 := e1 _ _ hb2
        have hi2 : i ≤ 200 := by omega
        refine ⟨_, hb3, Nat.lt_of_le_of_lt (by rw [nL_len, List.length_map, List.length_range]; omega : _ ≤ 200) (by decide), fun b o eo => by rw [upd_ne (ne_of_none eo hG)]; exact e1 _ _ (e' _ _ eo), ?_⟩
        show upd _ G _ G = _
        rw [upd_same, List.range_succ, List.map_append, nL_app, List.map_append]
        rfl
      · rintro H4 ⟨e4, hb2⟩
        rw [show ((now.length : Nat) : Int).toNat = now.length by omega] at hb2
        walk_at "rd"
        exact q G H4 (e3.free hG) (e3.trans e4) hb2
end
/-! ### constants read off a class -/
theorem pe_cvalN {X : Cx} (K : PySem.W.Frag) {e : Expr} {f : Str} {pos : Pos} {ta : TE} (he : PE X e ta) (hb : attributeBase e f X.env (eval e X.env) = eval e X.env := by rfl) (h : X.K = K := by rfl) : PE X (.Attribute e f pos) (ClX.tCVal K ta f) := h ▸ ClX.pe_cval he hb
theorem r_cval {K : PySem.W.Frag} {ta : TE} {f : Str} {σ : L2.St} {H : Hp} {Q : VK} (h : ta σ H fun x H1 => ∃ C mc v u, x = .ref C ∧ ClX.CRead K C mc ∧ ClX.CVal K C mc f v u ∧ Q v H1) : ClX.tCVal K ta f σ H Q := h
structure LimF (K : PySem.W.Frag) (C : Addr) : Prop where
  ex : ∃ mc u, ClX.CRead K C mc ∧ ClX.CVal K C mc "LIMIT" (.int 100) u
/-! ### the class Editor: what is added, taken out, exchanged and undone -/
section
variable {P : Program} {w : World} {K : PySem.W.Frag} {mg : Str → Option Value} {base : Heap}
theorem ok_checkmL {f aM : Addr} {fd : FuncData} {k : Nat} {c : Cs} (F : Fun K "check_members" "check_members" s_check_members f fd) (m1 : mg "isinstance" = none) (M : MF K c aM) (k3 : Kit3 K c) (m_F : mg "File" = some (.ref c.F)) (m_S : mg "Sparse" = some (.ref c.S)) (m_D : mg "Directory" = some (.ref c.D)) (m_Y : mg "Symlink" = some (.ref c.Y)) (m_L : mg "Link" = some (.ref c.L)) :
    FnOk P w K mg base CX0 (k + 2) f fd ["things"] (spCheckM K false c) := by
  refine F.ok sc_check_members (fun vs H Q E9 h => ?_) (fun cdv A outer s H vs Q E9 hr h => ?_)
  · obtain ⟨p, xs, ms, rfl, _⟩ := h
    rfl
  · obtain ⟨p, xs, ms, rfl, hp, hm, q⟩ := h
    have hp : H p = some (.lst (xs.map V.ref)) := hp
    have hu := hu_of hr
    have nd := sc_check_members.nd
    refine ⟨_, (pss_one (ps_for PassesOwn.never rfl (pi_list (pv 0)) (pg_name (i := 1) nd rfl (Or.inl rfl))
        (pss_one (ps_if (pt_not (pt_val (pe_callB (call_isiK2 K) (by rfl) (by assumption) (by decide +kernel) (pa_cons (pv 1) (pa_cons (pe_tup (pa_cons (pe_glob (v := .ref c.F) (by rfl) m_F (by first | exact rfl | exact ⟨_, rfl⟩)) (pa_cons (pe_glob (v := .ref c.S) (by rfl) m_S (by first | exact rfl | exact ⟨_, rfl⟩)) (pa_cons (pe_glob (v := .ref c.D) (by rfl) m_D (by first | exact rfl | exact ⟨_, rfl⟩)) (pa_cons (pe_glob (v := .ref c.Y) (by rfl) m_Y (by first | exact rfl | exact ⟨_, rfl⟩)) (pa_cons (pe_glob (v := .ref c.L) (by rfl) m_L (by first | exact rfl | exact ⟨_, rfl⟩)) pa_nil)))))) pa_nil)))))
        (pss_one ps_never)
        pss_nil)))), ?_⟩
    walk_at "rd"
    refine for_it (walk_list (xs := xs.map V.ref)) (fun i σ H' => ∃ v : Option V, σ = [some (.ref p), v] ∧ Same H H') ?_ (fun i σ H' _ ⟨_, _, e⟩ => SqL.of (e _ _ hp)) ?_ ?_
    · exact ⟨_, rfl, Same.refl _⟩
    · rintro i v σ Hc H' hi ⟨v1, rfl, e⟩ ⟨rfl, hv⟩
      rw [List.getElem?_map] at hv
      obtain ⟨x, hx, rfl⟩ : ∃ x, xs[i]? = some x ∧ V.ref x = v := by
        cases e : xs[i]? with
        | none => rw [e] at hv; cases hv
        | some x => rw [e] at hv; exact ⟨x, rfl, Option.some.inj hv⟩
      obtain ⟨m, hmi, hin, hok⟩ := paired_at hm hx
      walk_at "rd"
      rename_i tp htp
      have e2 : Same H (upd H' tp (.tup [.ref c.F, .ref c.S, .ref c.D, .ref c.Y, .ref c.L])) := e.trans (same_new htp)
      obtain ⟨C, ty, hk⟩ := Mem.kit M k3 (Mem.Ins.same e2 hin)
      refine ⟨.ref x, tp, _, .ref C, _, true, rfl, upd_same, .cons (.own _) (.cons (.own _) (.cons (.own _) (.cons (.own _) (.cons (.own _) .nil)))), ty, hk, ?_⟩
      walk_at "rd"
      exact ⟨_, rfl, e2⟩
    · rintro σ Hc ⟨v1, rfl, e⟩
      walk_at "rd"
      exact q _ e
def spCMA (K : PySem.W.Frag) (c : Cs) : Sp := fun vs H Q E => spCheckM K true c vs H Q E ∨ spCheckM K false c vs H Q E
def spEAdd0 (c : Cs) (Ed : Addr) : Sp := fun vs H Q _ => ∃ (e L g : Addr) (past : List (List Mem)) (now : List Mem) (ys : List Addr) (ms : List Mem), vs = [.ref e, .ref g] ∧ EdAt c Ed H e L past now ∧ H g = some (.tup (ys.map V.ref)) ∧ Made c H ys ms ∧ now.length + ms.length ≤ 100 ∧ Lim now ∧ Lim (now ++ ms) ∧ past.length ≤ 1000 ∧
  ∀ r H', H r = none → But L H H' → EdAt c Ed H' e L (past ++ [now]) (now ++ ms) → LN H' r (chg (arch now) (arch (now ++ ms))) → Q (.ref r) H'
theorem walk_eadd {f Ed : Addr} {k : Nat} {c : Cs} {u0 : Value} {cdv : Value} {A : Around} {outer : List Env} {s : Shared} {H : Hp} {vs : List V} {Q : VK} {E9 : XK} (hc : EdC K Ed) (hL : Con K Ed "LIMIT" (.int 100) u0) (m1 : mg "len" = none)
    (c_checkm : CalT P w K mg base 2 "check_members" (spCMA K c)) (c_copy : CalT P w K mg base 8 "copy_of" (spCopy c)) (m_edit : MetA P w K mg base 10 Ed "edit" ["self", "state"] (spEEdit c Ed)) (hr : Room (k + 10) (A.deeper (envOfC "Editor.add" (defScope s_Editor_add) s.heap.objs.size f cdv))) (h : spEAdd0 c Ed vs H Q E9) :
    ∃ t, PSs (cxOf CX0 P w K mg base N_Editor_add "Editor.add" (defScope s_Editor_add) f cdv A outer s H E9).nox (defBody s_Editor_add) t ∧ t { nx := fun _ H' => Q .non H', rt := Q } (L2.start N_Editor_add vs) H := by
  obtain ⟨e, L, g, past, now, ys, ms, rfl, hE, hg, hm, hl, ⟨n1, n2⟩, ⟨n3, n4⟩, n5, q⟩ := h
  have hu := hu_of hr
  have nd := sc_Editor_add.nd
  have yl : ys.length = ms.length := Paired.length hm
  refine ⟨_, (pss_cons (ps_expr (pe_cc c_checkm hr (by omega) (by rfl) (pa_cons (pv 1) pa_nil)))
      (pss_cons (ps_set (i := 2) nd rfl (Or.inl rfl) (pe_ix (ix_listK K) (pe_fld (pv 0) rfl) (pe_un un_neg pe_int) (fun _ _ => rfl)))
      (pss_cons (ps_if (pt_cmpR op_gt (pe_op op_add (pe_callB (call_lenK K) (by rfl) (by assumption) (by decide +kernel) (pa_cons (pv 2) pa_nil)) (pe_callB (call_lenK K) (by rfl) (by assumption) (by decide +kernel) (pa_cons (pv 1) pa_nil))) (pe_con (pv 0) rfl) (nomark _))
        (pss_one ps_never)
        pss_nil)
      (pss_cons (ps_setLc (i := 3) (own := [("member", 4)]) (g := (gName 4)) (tt := tYes) rfl nd rfl rfl (sw_true rfl rfl rfl (by decide +kernel)) (pi_tup (pv 1)) (blkOk_by (N := N_Editor_add) (sc := defScope s_Editor_add) (by decide +kernel)) (fun _ _ _ _ _ => (pg_name (i := 4) nd rfl (Or.inl rfl))) (fun _ _ _ _ _ => pts_nil) (fun _ _ _ _ _ => (pe_cc c_copy hr (by omega) (by rfl) (pa_cons (pv 4) pa_nil))))
      (pss_one (ps_ret (pe_mtA m_edit hr (by omega) (pv 0) (pa_cons (pe_tup (pa_starN K (pv 2) (pa_starN K (pv 3) pa_nil))) pa_nil)))))))), ?_⟩
  walk_at "rd"
  refine .inl ⟨g, ys, ms, rfl, hg, hm, fun H1 e1 => ?_⟩
  have hE1 := hE.same e1
  have hg1 := e1 _ _ hg
  have hm1 := hm.same e1
  obtain ⟨⟨de, h1⟩, ts, t, h2, h3, zs, h4, h5⟩ := id hE1
  have zl : zs.length = now.length := Paired.length h5
  walk_at "rd"
  refine r_fldE (v := .ref L) h1 hc.cl hc.st rfl ?_
  walk_at "rd"
  refine r_ixL (v := .ref t) (SqL.of h2) (last_ix ts t) ?_
  walk_at "rd"
  refine r_con ?_
  walk_at "rd"
  refine ⟨e, Ed, de, _, .int 100, u0, rfl, h1, hc.cl, hL, rfl, ?_⟩
  rw [List.length_map, List.length_map, zl, yl]
  walk_at "rd"
  rw [if_neg (by rw [decide_eq_true_eq]; omega)]
  walk_at "rd"
  intro D hD
  refine lc_it (walk_tup (xs := ys.map V.ref)) (fun i H' => Same H1 H' ∧ ∃ bs : List Addr, H' D = some (.lst (bs.map V.ref)) ∧ Paired (fun y (m : Mem) => m.Ins c H' y ∧ m.Ok) bs (ms.take i)) ⟨same_new hD, [], upd_same, .nil⟩ (fun i H' _ ⟨e, _⟩ => SqT.of (e _ _ hg1)) ?_ ?_
  · rintro i v Hc H' hi ⟨e', bs, hb', hbp⟩ ⟨rfl, hv⟩
    rw [List.getElem?_map] at hv
    obtain ⟨x, hx, rfl⟩ : ∃ x, ys[i]? = some x ∧ V.ref x = v := by
      cases e : ys[i]? with
      | none => rw [e] at hv; cases hv
      | some x => rw [e] at hv; exact ⟨x, rfl, Option.some.inj hv⟩
    obtain ⟨m, hmi, hin, hok⟩ := paired_at hm1 hx
    walk_at "rd"
    refine ⟨rfl, ?_⟩
    unfold tYes
    dsimp only
    rw [if_pos rfl]
    walk_at "rd"
    refine sp_copy (hin.same e') hok fun y H2 e2 hy hin2 => ?_
    walk_at "rd"
    have hb2 := e2 _ _ hb'
    refine ⟨_, hb2, Nat.lt_of_le_of_lt (by rw [List.length_map, hbp.length, List.length_take]; omega : _ ≤ 200) (by decide), fun b o eo => by rw [upd_ne (ne_of_none eo hD)]; exact e2 _ _ (e' _ _ eo), bs ++ [y], by rw [upd_same, List.map_append]; rfl, ?_⟩
    rw [take_snoc hmi]
    exact paired_snoc (Paired.mapP hbp fun z n ⟨g, o⟩ => ⟨Mem.Ins.lstU hb2 (Mem.Ins.same e2 g), o⟩) ⟨Mem.Ins.lstU hb2 hin2, hok⟩
  · rintro H3 ⟨e3, bs, hb', hbp⟩
    rw [List.length_map, yl, List.take_length] at hbp
    have E3 := e1.trans e3
    have hE3 := hE1.same e3
    have h1' := e3 _ _ h1
    have h4' := e3 _ _ h4
    have h5' : Made c H3 zs now := h5.same e3
    walk_at "rd"
    unfold tMeth
    walk_at "rd"
    refine ⟨e, de, _, rfl, h1', rfl, ?_⟩
    walk_at "rd"
    unfold StX.tStar
    walk_at "rd"
    refine ⟨t, zs.map V.ref, rfl, .inl (SqT.of h4'), ?_⟩
    walk_at "rd"
    refine ⟨D, bs.map V.ref, rfl, .inr (SqL.of hb'), ?_⟩
    refine r_nil ?_
    rw [List.append_nil]
    dsimp only
    rw [← List.map_append]
    refine ⟨Nat.le_trans (by rw [List.length_map, List.length_append, zl, hbp.length]; omega : _ ≤ 200) (by decide), fun T hT => ?_⟩
    have e4 := same_new (o := HO.tup ((zs ++ bs).map V.ref)) hT
    walk_at "rd"
    have pair_app2 : ∀ {xs ys : List Addr} {as bs : List Mem} {R : Addr → Mem → Prop}, Paired R xs as → Paired R ys bs → Paired R (xs ++ ys) (as ++ bs) := fun {xs ys as bs R} a b => by
      induction a with
      | nil => exact b
      | cons h _ ih => exact .cons h ih
    have hS : StAt c (upd H3 T (.tup ((zs ++ bs).map V.ref))) T (now ++ ms) := ⟨zs ++ bs, upd_same, pair_app2 (h5'.same e4) (Made.same e4 hbp)⟩
    refine ⟨e, L, T, past, now, now ++ ms, rfl, hE3.same e4, hS, ⟨n1, n2⟩, ⟨n3, n4⟩, n5, fun r H5 hr5 hb5 hE5 hN5 => ?_⟩
    have E4 := E3.trans e4
    exact q r H5 (E4.free hr5) (fun b o nb eo => hb5 _ _ nb (E4 _ _ eo)) hE5 hN5
def spEAdd (Ed : Addr) (c : Cs) (vs zs : List V) (H : Hp) (Q : VK) : Prop := zs = [] ∧ ∃ (e L : Addr) (past : List (List Mem)) (now : List Mem) (ys : List Addr) (ms : List Mem), vs = .ref e :: ys.map V.ref ∧ EdAt c Ed H e L past now ∧ Made c H ys ms ∧ now.length + ms.length ≤ 100 ∧ Lim now ∧ Lim (now ++ ms) ∧ past.length ≤ 1000 ∧
  ∀ r H', H r = none → But L H H' → EdAt c Ed H' e L (past ++ [now]) (now ++ ms) → LN H' r (chg (arch now) (arch (now ++ ms))) → Q (.ref r) H'
theorem ok_eadd {f Ed : Addr} {fd : FuncData} {k : Nat} {c : Cs} {u0 : Value} (F : Fun K "add" "Editor.add" s_Editor_add f fd) (hc : EdC K Ed) (hL : Con K Ed "LIMIT" (.int 100) u0) (m1 : mg "len" = none)
    (c_checkm : CalT P w K mg base 2 "check_members" (spCMA K c)) (c_copy : CalT P w K mg base 8 "copy_of" (spCopy c)) (m_edit : MetA P w K mg base 10 Ed "edit" ["self", "state"] (spEEdit c Ed)) : FnS P w K mg base (k + 11) f [] (spEAdd Ed c) := by
  obtain ⟨oc, od, kV, doc, pm, an, cdv, ct, osl, rfl, lk, hcd⟩ := F.ex
  intro A outer s H us ws vs zs Q E hr e0 rv rz hw ⟨ez, e, L, past, now, ys, ms, ev, hE, hm, hl, l1, l2, n5, q⟩
  subst ez
  obtain rfl : ws = [] := by
    cases rz
    rfl
  subst ev
  obtain ⟨ux, ur, rfl, r1, r4⟩ : ∃ ux ur, us = ux :: ur ∧ RelV (.ref e) ux ∧ Vals (ys.map V.ref) ur := by
    cases rv with
    | cons r1 rv => exact ⟨_, _, rfl, r1, rv⟩
  have yl : ys.length = ms.length := Paired.length hm
  have hsz : (ys.map V.ref).length ≤ sizeLine := by rw [List.length_map, yl]; exact Nat.le_trans (by omega : _ ≤ 100) (by decide)
  have hus : ur.length ≤ sizeLine := by rw [← r4.length]; exact hsz
  have fresh : H s.heap.objs.size = none := e0.hok.fresh (Nat.le_refl _)
  refine StX.run_bnd lk hcd sc_Editor_add hr e0 (G := fun xs H2 => ∃ g, H g = none ∧ xs = [.ref e, .ref g] ∧ H2 = upd H g (.tup (ys.map V.ref))) ?_ ?_
  · intro A' Ex Q' hq
    have laid : ObjOk P w (upd H s.heap.objs.size (.tup (ys.map V.ref))) (s.heap.push { cls := .type "tuple", data := .seq ur.toArray }) s.heap.objs.size (.tup (ys.map V.ref)) :=
      ⟨hsz, ur, r4, _, Heap.get?_push_size _ rfl, rfl, _, rfl⟩
    have go : wpAny (model P w) A' (newTuple ur >>= fun tp => pure ([("self", ux), ("members", tp)] : List (Str × Value))) Q' Ex s :=
      wpAny_bind (wpAny_newTuple (wpAny_pure (hq _ (upd H s.heap.objs.size (.tup (ys.map V.ref))) [.ref e, .ref s.heap.objs.size] [ux, .ref s.heap.objs.size] (StX.env0_laid e0 laid) (StX.un_laid fresh) rfl (fun e s' z => z)
        (.cons r1 (.cons rfl .nil)) rfl ⟨_, fresh, rfl, rfl⟩)) hus)
    cases ur with
    | nil => exact go
    | cons a b => exact go
  · rintro s2 H2 xs ⟨g, hg, rfl, rfl⟩ hr'
    obtain ⟨t', d, wq⟩ := walk_eadd (k := k) (E9 := E) (Q := Q) (outer := outer) (s := s2) (A := A) (f := f) (cdv := cdv) hc hL m1 c_checkm c_copy m_edit hr' (vs := [.ref e, .ref g]) (H := upd H g (.tup (ys.map V.ref)))
      ⟨e, L, g, past, now, ys, ms, rfl, hE.same (same_new hg), upd_same, Made.same (same_new hg) hm, hl, l1, l2, n5, fun r H' hr hb hE' hN => q r H' (none_old hr fun o eo => ⟨o, upd_old hg eo⟩) (But.new hg hb) hE' hN⟩
    exact ⟨t', d.nox, wq⟩
end
/-! ### the class Editor: taken out, exchanged, undone, read -/
theorem paired_take2 {α β : Type} {R : α → β → Prop} : ∀ (i : Nat) {xs : List α} {ys : List β}, Paired R xs ys → Paired R (xs.take i) (ys.take i)
  | 0, _, _, _ => .nil
  | _ + 1, _, _, .nil => .nil
  | i + 1, _, _, .cons h t => .cons h (paired_take2 i t)
theorem paired_drop2 {α β : Type} {R : α → β → Prop} : ∀ (i : Nat) {xs : List α} {ys : List β}, Paired R xs ys → Paired R (xs.drop i) (ys.drop i)
  | 0, _, _, h => h
  | _ + 1, _, _, .nil => .nil
  | i + 1, _, _, .cons _ t => paired_drop2 i t
theorem paired_app2 {α β : Type} {R : α → β → Prop} : ∀ {xs : List α} {ys : List β} {xs' : List α} {ys' : List β}, Paired R xs ys → Paired R xs' ys' → Paired R (xs ++ xs') (ys ++ ys')
  | _, _, _, _, .nil, h => h
  | _, _, _, _, .cons h t, g => .cons h (paired_app2 t g)
theorem not_whole_to {n i : Nat} (h : i < n) : ¬ (HT.sIx n 0 none = 0 ∧ HT.sIx n n (some (i : Int)) = n) := fun ⟨_, g⟩ => by
  unfold HT.sIx at g
  dsimp only at g
  rw [if_neg (by omega)] at g
  omega
theorem not_whole_from {n i : Nat} (h : 0 < n) : ¬ (HT.sIx n 0 (some ((i + 1 : Nat) : Int)) = 0 ∧ HT.sIx n n none = n) := fun ⟨g, _⟩ => by
  unfold HT.sIx at g
  dsimp only at g
  rw [if_neg (by omega)] at g
  omega
section
variable {P : Program} {w : World} {K : PySem.W.Frag} {mg : Str → Option Value} {base : Heap}
def spEChk (c : Cs) (Ed : Addr) : Sp := fun vs H Q _ => ∃ (e L : Addr) (past : List (List Mem)) (now : List Mem) (i : Nat), vs = [.ref e, .int (i : Int)] ∧ EdAt c Ed H e L past now ∧ i < now.length ∧ now.length ≤ 200 ∧ Q .non H
theorem ok_echk {f Ed : Addr} {fd : FuncData} {k : Nat} {c : Cs} (F : Fun K "check_index" "Editor.check_index" s_Editor_check_index f fd) (m1 : mg "len" = none) (m_len : MethT P w K mg base 2 Ed "__len__" (spELen c Ed)) (c_within : CalT P w K mg base 2 "is_integer_within" spWithin) : FnOk P w K mg base CX0 (k + 4) f fd ["self", "thing"] (spEChk c Ed) := by
  refine F.ok sc_Editor_check_index (fun vs H Q E9 h => ?_) (fun cdv A outer s H vs Q E9 hr h => ?_)
  · obtain ⟨e, L, past, now, i, rfl, _⟩ := h
    rfl
  · obtain ⟨e, L, past, now, i, rfl, hE, hi, hn, q⟩ := h
    have hu := hu_of hr
    have nd := sc_Editor_check_index.nd
    obtain ⟨⟨de, h1⟩, _⟩ := id hE
    refine ⟨_, (pss_one (ps_if (pt_not (pt_val (pe_cc c_within hr (by omega) (by rfl) (pa_cons (pv 1) (pa_cons pe_int (pa_cons (pe_op op_sub (pe_callB (call_lenO m_len hr (by omega)) (by rfl) (by assumption) (by decide +kernel) (pa_cons (pv 0) pa_nil)) pe_int) pa_nil))))))
        (pss_one ps_never)
        pss_nil)), ?_⟩
    walk_at "rd"
    refine ⟨e, de, _, rfl, h1, fun E8 => ⟨e, L, past, now, rfl, hE, now.length, rfl, by omega, ?_⟩⟩
    walk_at "rd"
    refine sp_within ?_
    rw [decide_eq_true (by omega : (0 : Int) ≤ (i : Int)), decide_eq_true (by omega : (i : Int) ≤ ((now.length : Nat) : Int) - 1)]
    walk_at "rd"
    exact q
def spETake (c : Cs) (Ed : Addr) : Sp := fun vs H Q _ => ∃ (e L : Addr) (past : List (List Mem)) (now : List Mem) (i : Nat), vs = [.ref e, .int (i : Int)] ∧ EdAt c Ed H e L past now ∧ i < now.length ∧ Lim now ∧ Lim (now.take i ++ now.drop (i + 1)) ∧ past.length ≤ 1000 ∧
  ∀ r H', H r = none → But L H H' → EdAt c Ed H' e L (past ++ [now]) (now.take i ++ now.drop (i + 1)) → LN H' r (chg (arch now) (arch (now.take i ++ now.drop (i + 1)))) → Q (.ref r) H'
theorem ok_etake {f Ed : Addr} {fd : FuncData} {k : Nat} {c : Cs} (F : Fun K "take_out" "Editor.take_out" s_Editor_take_out f fd) (hc : EdC K Ed) (m_chk : MetA P w K mg base 4 Ed "check_index" ["self", "thing"] (spEChk c Ed)) (m_edit : MetA P w K mg base 10 Ed "edit" ["self", "state"] (spEEdit c Ed)) : FnOk P w K mg base CX0 (k + 11) f fd ["self", "index"] (spETake c Ed) := by
  refine F.ok sc_Editor_take_out (fun vs H Q E9 h => ?_) (fun cdv A outer s H vs Q E9 hr h => ?_)
  · obtain ⟨e, L, past, now, i, rfl, _⟩ := h
    rfl
  · obtain ⟨e, L, past, now, i, rfl, hE, hi, ⟨n1, n2⟩, l2, n5, q⟩ := h
    have hu := hu_of hr
    have nd := sc_Editor_take_out.nd
    obtain ⟨⟨de, h1⟩, ts, t, h2, h3, zs, h4, h5⟩ := id hE
    have zl : zs.length = now.length := Paired.length h5
    refine ⟨_, (pss_cons (ps_expr (pe_mtA m_chk hr (by omega) (pv 0) (pa_cons (pv 1) pa_nil)))
      (pss_cons (ps_set (i := 2) nd rfl (Or.inl rfl) (pe_ix (ix_listK K) (pe_fld (pv 0) rfl) (pe_un un_neg pe_int) (fun _ _ => rfl)))
      (pss_one (ps_ret (pe_mtA m_edit hr (by omega) (pv 0) (pa_cons (pe_tup (pa_starN K (pe_slice sl_tup (pv 2) po_none (po_some (pv 1))) (pa_starN K (pe_slice sl_tup (pv 2) (po_some (pe_op op_add (pv 1) pe_int)) po_none) pa_nil))) pa_nil)))))), ?_⟩
    walk_at "rd"
    unfold tMeth
    walk_at "rd"
    refine ⟨e, de, _, rfl, h1, rfl, ?_⟩
    walk_at "rd"
    refine ⟨e, L, past, now, i, rfl, hE, hi, n1, ?_⟩
    walk_at "rd"
    refine r_fldE (v := .ref L) h1 hc.cl hc.st rfl ?_
    walk_at "rd"
    refine r_ixL (v := .ref t) (SqL.of h2) (last_ix ts t) ?_
    walk_at "rd"
    refine ⟨e, de, _, rfl, h1, rfl, ?_⟩
    walk_at "rd"
    unfold StX.tStar
    walk_at "rd"
    refine ⟨t, zs.map V.ref, rfl, SqT.of h4, not_whole_to (by rw [List.length_map, zl]; exact hi), fun T1 hT1 => ?_⟩
    have e1 := same_new (o := HO.tup (cutV (zs.map V.ref) none (some (i : Int)))) hT1
    have g1 : upd H T1 (HO.tup (cutV (zs.map V.ref) none (some (i : Int)))) T1 = some (.tup ((zs.take i).map V.ref)) := by rw [upd_same, cutV_to, List.map_take]
    refine ⟨T1, (zs.take i).map V.ref, rfl, .inl (SqT.of g1), ?_⟩
    walk_at "rd"
    rw [show (i : Int) + 1 = ((i + 1 : Nat) : Int) by push_cast; rfl]
    refine ⟨t, zs.map V.ref, rfl, SqT.of (e1 _ _ h4), not_whole_from (by rw [List.length_map, zl]; omega), fun T2 hT2 => ?_⟩
    have e2 := same_new (o := HO.tup (cutV (zs.map V.ref) (some ((i + 1 : Nat) : Int)) none)) hT2
    have g2 : upd (upd H T1 (HO.tup (cutV (zs.map V.ref) none (some (i : Int))))) T2 (HO.tup (cutV (zs.map V.ref) (some ((i + 1 : Nat) : Int)) none)) T2 = some (.tup ((zs.drop (i + 1)).map V.ref)) := by rw [upd_same, cutV_from, List.map_drop]
    refine ⟨T2, (zs.drop (i + 1)).map V.ref, rfl, .inl (SqT.of g2), ?_⟩
    refine r_nil ?_
    rw [List.append_nil]
    dsimp only
    rw [← List.map_append]
    refine ⟨Nat.le_trans (by rw [List.length_map, List.length_append, List.length_take, List.length_drop, zl]; omega : _ ≤ 200) (by decide), fun T hT => ?_⟩
    have e3 := same_new (o := HO.tup ((zs.take i ++ zs.drop (i + 1)).map V.ref)) hT
    have E := (e1.trans e2).trans e3
    walk_at "rd"
    refine ⟨e, L, T, past, now, _, rfl, hE.same E, ⟨_, upd_same, Made.same E (paired_app2 (paired_take2 i h5) (paired_drop2 (i + 1) h5))⟩, ⟨n1, n2⟩, l2, n5, fun r H5 hr5 hb5 hE5 hN5 => ?_⟩
    exact q r H5 (E.free hr5) (fun b o nb eo => hb5 _ _ nb (E _ _ eo)) hE5 hN5
def spEExch (c : Cs) (Ed : Addr) : Sp := fun vs H Q _ => ∃ (e L x : Addr) (past : List (List Mem)) (now : List Mem) (i : Nat) (m : Mem), vs = [.ref e, .int (i : Int), .ref x] ∧ EdAt c Ed H e L past now ∧ m.Ins c H x ∧ m.Ok ∧ i < now.length ∧ Lim now ∧ Lim (now.take i ++ m :: now.drop (i + 1)) ∧ past.length ≤ 1000 ∧
  ∀ r H', H r = none → But L H H' → EdAt c Ed H' e L (past ++ [now]) (now.take i ++ m :: now.drop (i + 1)) → LN H' r (chg (arch now) (arch (now.take i ++ m :: now.drop (i + 1)))) → Q (.ref r) H'
theorem ok_eexch {f Ed : Addr} {fd : FuncData} {k : Nat} {c : Cs} (F : Fun K "exchange" "Editor.exchange" s_Editor_exchange f fd) (hc : EdC K Ed) (m_chk : MetA P w K mg base 4 Ed "check_index" ["self", "thing"] (spEChk c Ed)) (c_checkm : CalT P w K mg base 2 "check_members" (spCMA K c)) (c_copy : CalT P w K mg base 8 "copy_of" (spCopy c)) (m_edit : MetA P w K mg base 10 Ed "edit" ["self", "state"] (spEEdit c Ed)) : FnOk P w K mg base CX0 (k + 11) f fd ["self", "index", "member"] (spEExch c Ed) := by
  refine F.ok sc_Editor_exchange (fun vs H Q E9 h => ?_) (fun cdv A outer s H vs Q E9 hr h => ?_)
  · obtain ⟨e, L, x, past, now, i, m, rfl, _⟩ := h
    rfl
  · obtain ⟨e, L, x, past, now, i, m, rfl, hE, hin, hok, hi, ⟨n1, n2⟩, l2, n5, q⟩ := h
    have hu := hu_of hr
    have nd := sc_Editor_exchange.nd
    obtain ⟨⟨de, h1⟩, _⟩ := id hE
    refine ⟨_, (pss_cons (ps_expr (pe_mtA m_chk hr (by omega) (pv 0) (pa_cons (pv 1) pa_nil)))
      (pss_cons (ps_expr (pe_cc c_checkm hr (by omega) (by rfl) (pa_cons (pe_lst (pa_cons (pv 2) pa_nil)) pa_nil)))
      (pss_cons (ps_set (i := 3) nd rfl (Or.inl rfl) (pe_ix (ix_listK K) (pe_fld (pv 0) rfl) (pe_un un_neg pe_int) (fun _ _ => rfl)))
      (pss_one (ps_ret (pe_mtA m_edit hr (by omega) (pv 0) (pa_cons (pe_tup (pa_starN K (pe_slice sl_tup (pv 3) po_none (po_some (pv 1))) (pa_cons (pe_cc c_copy hr (by omega) (by rfl) (pa_cons (pv 2) pa_nil)) (pa_starN K (pe_slice sl_tup (pv 3) (po_some (pe_op op_add (pv 1) pe_int)) po_none) pa_nil)))) pa_nil))))))), ?_⟩
    walk_at "rd"
    unfold tMeth
    walk_at "rd"
    refine ⟨e, de, _, rfl, h1, rfl, ?_⟩
    walk_at "rd"
    refine ⟨e, L, past, now, i, rfl, hE, hi, n1, ?_⟩
    walk_at "rd"
    rename_i p0 hp0
    have e0 := same_new (o := HO.lst [V.ref x]) hp0
    refine .inr ⟨p0, [x], [m], rfl, upd_same, .cons ⟨hin.same e0, hok⟩ .nil, fun H0 e00 => ?_⟩
    have E0' := e0.trans e00
    have hE0 := hE.same E0'
    have hin0 := hin.same E0'
    obtain ⟨⟨de0, h1⟩, ts, t, h2, h3, zs, h4, h5⟩ := id hE0
    have zl : zs.length = now.length := Paired.length h5
    walk_at "rd"
    refine r_fldE (v := .ref L) h1 hc.cl hc.st rfl ?_
    walk_at "rd"
    refine r_ixL (v := .ref t) (SqL.of h2) (last_ix ts t) ?_
    walk_at "rd"
    refine ⟨e, de0, _, rfl, h1, rfl, ?_⟩
    walk_at "rd"
    unfold StX.tStar
    walk_at "rd"
    refine ⟨t, zs.map V.ref, rfl, SqT.of h4, not_whole_to (by rw [List.length_map, zl]; exact hi), fun T1 hT1 => ?_⟩
    have e1 := same_new (o := HO.tup (cutV (zs.map V.ref) none (some (i : Int)))) hT1
    have g1 : upd H0 T1 (HO.tup (cutV (zs.map V.ref) none (some (i : Int)))) T1 = some (.tup ((zs.take i).map V.ref)) := by rw [upd_same, cutV_to, List.map_take]
    refine ⟨T1, (zs.take i).map V.ref, rfl, .inl (SqT.of g1), ?_⟩
    walk_at "rd"
    refine sp_copy (hin0.same e1) hok fun y H1 e2 hy hin2 => ?_
    walk_at "rd"
    rw [show (i : Int) + 1 = ((i + 1 : Nat) : Int) by push_cast; rfl]
    have E2 := e1.trans e2
    refine ⟨t, zs.map V.ref, rfl, SqT.of (E2 _ _ h4), not_whole_from (by rw [List.length_map, zl]; omega), fun T2 hT2 => ?_⟩
    have e3 := same_new (o := HO.tup (cutV (zs.map V.ref) (some ((i + 1 : Nat) : Int)) none)) hT2
    have g2 : upd H1 T2 (HO.tup (cutV (zs.map V.ref) (some ((i + 1 : Nat) : Int)) none)) T2 = some (.tup ((zs.drop (i + 1)).map V.ref)) := by rw [upd_same, cutV_from, List.map_drop]
    refine ⟨T2, (zs.drop (i + 1)).map V.ref, rfl, .inl (SqT.of g2), ?_⟩
    refine r_nil ?_
    rw [List.append_nil]
    dsimp only
    rw [← List.map_cons, ← List.map_append]
    refine ⟨Nat.le_trans (by rw [List.length_map, List.length_append, List.length_take, List.length_cons, List.length_drop, zl]; omega : _ ≤ 201) (by decide), fun T hT => ?_⟩
    have e4 := same_new (o := HO.tup ((zs.take i ++ y :: zs.drop (i + 1)).map V.ref)) hT
    have E := E2.trans (e3.trans e4)
    walk_at "rd"
    have hM : Made c (upd (upd H1 T2 (HO.tup (cutV (zs.map V.ref) (some ((i + 1 : Nat) : Int)) none))) T (HO.tup ((zs.take i ++ y :: zs.drop (i + 1)).map V.ref))) (zs.take i ++ y :: zs.drop (i + 1)) (now.take i ++ m :: now.drop (i + 1)) :=
      paired_app2 (Made.same E (paired_take2 i h5)) (.cons ⟨hin2.same (e3.trans e4), hok⟩ (Made.same E (paired_drop2 (i + 1) h5)))
    refine ⟨e, L, T, past, now, _, rfl, hE0.same E, ⟨_, upd_same, hM⟩, ⟨n1, n2⟩, l2, n5, fun r H5 hr5 hb5 hE5 hN5 => ?_⟩
    have EE := E0'.trans E
    exact q r H5 (EE.free hr5) (fun b o nb eo => hb5 _ _ nb (EE _ _ eo)) hE5 hN5
def spEOf (c : Cs) (Ed : Addr) : Sp := fun vs H Q _ => ∃ (xs : List Nat) (n : Nat), vs = [.ref Ed, .byt (Bt.byOf xs)] ∧ xs.length ≤ 400000 ∧ (∀ c ∈ xs, c < 256) ∧ StopC xs xs.length n ∧ troF (runK xs n (st0 0)).1 = .fine ∧ (runK xs n (st0 0)).2.length ≤ 100 ∧
  ∀ e L H', H e = none → H L = none → Same H H' → EdAt c Ed H' e L [] ((runK xs n (st0 0)).2.map fun p => p.2) → Q (.ref e) H'
theorem ok_eof {f Ed : Addr} {fd : FuncData} {k : Nat} {c : Cs} (F : Fun K "of" "Editor.of" s_Editor_of f fd) (hc : EdC K Ed) (hL : LimF K Ed) (m1 : mg "len" = none) (m2 : mg "tuple" = none) (c_read : CalT P w K mg base 13 "read" (spReadG c)) (mk0_Editor : Mk0T P w K mg base 2 "Editor" Ed (spEInit c Ed)) : FnOk P w K mg base CX0 (k + 14) f fd ["cls", "data"] (spEOf c Ed) := by
  refine F.ok sc_Editor_of (fun vs H Q E9 h => ?_) (fun cdv A outer s H vs Q E9 hr h => ?_)
  · obtain ⟨xs, n, rfl, _⟩ := h
    rfl
  · obtain ⟨xs, n, rfl, hz, hb, st, fi, hl, q⟩ := h
    have hu := hu_of hr
    have nd := sc_Editor_of.nd
    obtain ⟨mc, u9, hL1, hL2⟩ := hL.ex
    have hcl := hc.cl
    have hst := hc.st
    refine ⟨_, (pss_cons (ps_set (i := 2) nd rfl (Or.inl rfl) (pe_cc c_read hr (by omega) (by rfl) (pa_cons (pv 1) pa_nil)))
      (pss_cons (ps_if (pt_cmpR op_gt (pe_callB (call_lenK K) (by rfl) (by assumption) (by decide +kernel) (pa_cons (pv 2) pa_nil)) (pe_cvalN K (pv 0)) (nomark _))
        (pss_one ps_never)
        pss_nil)
      (pss_cons (ps_set (i := 3) nd rfl (Or.inl rfl) (pe_mkV mk0_Editor hr (by omega) (pv 0)))
      (pss_cons (ps_fld (pv 3) (pe_lst (pa_cons (pe_tupleOf (by rfl) (by assumption) (pv 2)) pa_nil)) rfl)
      (pss_one (ps_ret (pv 3))))))), ?_⟩
    walk_at "rd"
    refine ⟨xs, n, rfl, hz, hb, st, fi, fun M ys H1 hM e1 gM hm => ?_⟩
    have yl : ys.length = (runK xs n (st0 0)).2.length := by rw [Paired.length hm, List.length_map]
    walk_at "rd"
    refine r_cval ?_
    walk_at "rd"
    refine ⟨Ed, mc, .int 100, u9, rfl, hL1, hL2, ?_⟩
    rw [List.length_map, yl]
    walk_at "rd"
    rw [if_neg (by rw [decide_eq_true_eq]; omega)]
    walk_at "rd"
    unfold tMakeV
    walk_at "rd"
    refine ⟨rfl, ?_⟩
    refine r_make ?_
    intro x dx hx hdx ne
    refine ⟨x, dx, rfl, upd_same, fun L0 H2 hL0 fr hE0 => ⟨rfl, ?_⟩⟩
    have e2 : Same H1 H2 := fun b o eo => fr _ _ (ne_of_none eo hx) (by
      rw [upd_ne (ne_of_none eo hx), upd_ne (ne_of_none eo hdx)]
      exact eo)
    obtain ⟨⟨de, g1⟩, _⟩ := hE0
    have gM2 := e2 _ _ gM
    walk_at "rd"
    unfold tThen
    walk_at "rd"
    refine .inl ⟨M, ys.map V.ref, rfl, SqL.of gM2, fun T hT => ?_⟩
    have e3 := same_new (o := HO.tup (ys.map V.ref)) hT
    refine r_nil ?_
    refine ⟨Nat.le_of_ble_eq_true rfl, fun L hLn => ?_⟩
    have e4 := same_new (o := HO.lst [V.ref T]) hLn
    have g4 := e4 _ _ (e3 _ _ g1)
    walk_at "rd"
    have E2 := (e1.trans e2).trans e3
    have hxn : H x = none := e1.free hx
    have hLx : L ≠ x := fun e => by rw [e, e3 _ _ g1] at hLn; cases hLn
    have eF : ∀ b o, H b = some o → upd (upd (upd H2 T (.tup (ys.map V.ref))) L (.lst [V.ref T])) x (HO.ins Ed de (putF "states" (.ref L) (edF L0))) b = some o := fun b o eo => by
      rw [upd_ne (ne_of_none eo hxn)]
      exact e4 _ _ (E2 _ _ eo)
    have hTL : T ≠ L := fun e => by rw [← e, upd_same] at hLn; cases hLn
    have hTx : T ≠ x := fun e => by rw [e, g1] at hT; cases hT
    have hn : ∀ {o : HO} {b : Addr}, H1 b = some o → upd (upd (upd H2 T (.tup (ys.map V.ref))) L (.lst [V.ref T])) x (HO.ins Ed de (putF "states" (.ref L) (edF L0))) b = some o := fun {o b} eo => by
      rw [upd_ne (ne_of_none eo hx)]
      exact e4 _ _ (e3 _ _ (e2 _ _ eo))
    walk_at "rd"
    refine q x L _ hxn (E2.free hLn) eF ⟨⟨de, upd_same⟩, [], T, ?_, .nil, ys, ?_, Made.same (fun b o eo => hn eo) hm⟩
    · rw [upd_ne hLx, upd_same]
      rfl
    · rw [upd_ne hTx, upd_ne hTL, upd_same]
end
/-! ### (nothing) -/
/-! ### frames; an editor by many edits -/
theorem dflat_ints {H : Hp} {p q : Addr} {xs : List Nat} (h1 : LN H p xs) (h2 : LN H q xs) : DList DFlat (.ref p) (.ref q) H := ⟨p, q, _, _, rfl, rfl, h1, h2, rfl, fun i x y hx hy => by
  rw [hx] at hy
  cases hy
  rw [List.getElem?_map] at hx
  cases e : (nL xs)[i]? with
  | none => rw [e] at hx; cases hx
  | some z =>
    rw [e] at hx
    cases hx
    exact ⟨rfl, rfl, by simp [eqV]⟩⟩
/-- what is no list stays -/
def NL (H H' : Hp) : Prop := ∀ b o, (∀ l, o ≠ .lst l) → H b = some o → H' b = some o
theorem NL.ins {c : Cs} {H H' : Hp} (e : NL H H') {x : Addr} {m : Mem} (h : m.Ins c H x) : m.Ins c H' x := by
  cases m with
  | file n bb t ns => obtain ⟨dx, h1⟩ := h; exact ⟨dx, e _ _ (by intro _ x; cases x) h1⟩
  | sparse n bb t z sp =>
    obtain ⟨dx, q, h1, as, h2, h3⟩ := h
    exact ⟨dx, q, e _ _ (by intro _ x; cases x) h1, as, e _ _ (by intro _ x; cases x) h2, Paired.mapP h3 fun q s z => e _ _ (by intro _ x; cases x) z⟩
  | dir n bb t => obtain ⟨dx, h1⟩ := h; exact ⟨dx, e _ _ (by intro _ x; cases x) h1⟩
  | sym n bb t g => obtain ⟨dx, h1⟩ := h; exact ⟨dx, e _ _ (by intro _ x; cases x) h1⟩
  | lnk n bb t g => obtain ⟨dx, h1⟩ := h; exact ⟨dx, e _ _ (by intro _ x; cases x) h1⟩
theorem NL.made {c : Cs} {H H' : Hp} (e : NL H H') {xs : List Addr} {ms : List Mem} (h : Made c H xs ms) : Made c H' xs ms := Paired.mapP h fun x m ⟨a, g⟩ => ⟨e.ins a, g⟩
/-- two lists may change -/
def But2 (a b : Addr) (H H' : Hp) : Prop := ∀ x o, x ≠ a → x ≠ b → H x = some o → H' x = some o
theorem But2.refl (a b : Addr) (H : Hp) : But2 a b H H := fun _ _ _ _ e => e
theorem But2.trans {a b : Addr} {H H' H2 : Hp} (h : But2 a b H H') (g : But2 a b H' H2) : But2 a b H H2 := fun x o n m e => g x o n m (h x o n m e)
theorem But2.l {a b : Addr} {H H' : Hp} (h : But a H H') : But2 a b H H' := fun x o n _ e => h x o n e
theorem But2.r {a b : Addr} {H H' : Hp} (h : But b H H') : But2 a b H H' := fun x o _ m e => h x o m e
theorem But2.same {a b : Addr} {H H' : Hp} (h : Same H H') : But2 a b H H' := fun x o _ _ e => h x o e
theorem But2.nl {a b : Addr} {H H' : Hp} {la lb : List V} (ha : H a = some (.lst la)) (hb : H b = some (.lst lb)) (h : But2 a b H H') : NL H H' := fun x o n e => h x o (fun g => by rw [g, ha] at e; exact n _ (Option.some.inj e).symm) (fun g => by rw [g, hb] at e; exact n _ (Option.some.inj e).symm) e
theorem src_lst {H : Hp} {a : Addr} (h : Src H a) : ∃ l, H a = some (.lst l) := by
  obtain ⟨x, y, z, g, _⟩ := h
  exact ⟨_, g⟩
theorem EdAt.lst {c : Cs} {Ed : Addr} {H : Hp} {e L : Addr} {past : List (List Mem)} {now : List Mem} (h : EdAt c Ed H e L past now) : ∃ l, H L = some (.lst l) := by
  obtain ⟨_, ts, t, g, _⟩ := h
  exact ⟨_, g⟩
/-- the editor's states are no source: every one is a reference -/
theorem EdAt.ne {c : Cs} {Ed : Addr} {H : Hp} {e L a : Addr} {past : List (List Mem)} {now : List Mem} (h : EdAt c Ed H e L past now) (hs : Src H a) : L ≠ a := by
  obtain ⟨_, ts, t, g, _⟩ := h
  exact src_refs hs g
def qD : Mem := .dir "q" 493 0
/-- an editor, the source and the members that are made -/
structure LS (c : Cs) (Ed : Addr) (H : Hp) (a e L M : Addr) (ys : List Addr) (ms : List Mem) (past : List (List Mem)) (now : List Mem) : Prop where
  ed : EdAt c Ed H e L past now
  src : Src H a
  nL' : L ≠ a
  mm : H M = some (.lst (ys.map V.ref))
  md : Made c H ys ms
  nM : M ≠ a
  nML : M ≠ L
section
variable {c : Cs} {Ed : Addr} {H H' : Hp} {a e L M : Addr} {ys : List Addr} {ms now : List Mem} {past : List (List Mem)}
theorem LS.same (h : LS c Ed H a e L M ys ms past now) (s : Same H H') : LS c Ed H' a e L M ys ms past now := ⟨h.ed.same s, h.src.same s, h.nL', s _ _ h.mm, h.md.same s, h.nM, h.nML⟩
theorem LS.step {past' : List (List Mem)} {now' : List Mem} (h : LS c Ed H a e L M ys ms past now) (b : But L H H') (g : EdAt c Ed H' e L past' now') : LS c Ed H' a e L M ys ms past' now' := by
  obtain ⟨l, hl⟩ := h.ed.lst
  obtain ⟨x, y, z, g9, r9⟩ := h.src
  exact ⟨g, ⟨x, y, z, b _ _ h.nL'.symm g9, r9⟩, h.nL', b _ _ h.nML h.mm, h.md.butL hl b, h.nM, h.nML⟩
end
abbrev s__law_few : Stmt := topS 113
abbrev N__law_few : List Str := ["_law_source_here", "_law_names_here", "_law_most", "_law_found", "_law_turn"]
theorem sc__law_few : FnScope N__law_few ["_law_source_here", "_law_names_here", "_law_most"] (defScope s__law_few) := ⟨rfl, rfl, rfl, by decide +kernel, rfl, by decide +kernel, by decide +kernel⟩
abbrev s__law_add : Stmt := topS 114
abbrev N__law_add : List Str := ["_law_editor", "_law_members"]
theorem sc__law_add : FnScope N__law_add ["_law_editor", "_law_members"] (defScope s__law_add) := ⟨rfl, rfl, rfl, by decide +kernel, rfl, by decide +kernel, by decide +kernel⟩
/-! ### lists of drawn tuples; members added -/
def TNew (H H' : Hp) (as : List Addr) (ms : List Mem) : Prop := Paired (fun q m => Mem.TuN H H' q m ∧ m.Ok ∧ m.Two) as ms
theorem TNew.to {H H' H2 : Hp} {as : List Addr} {ms : List Mem} (h : TNew H H' as ms) (y : ∀ b o, H b = none → H' b = some o → H2 b = some o) : TNew H H2 as ms := Paired.mapP h fun q m ⟨h1, h2⟩ => ⟨h1.to y, h2⟩
theorem TNew.from {H0 H H' : Hp} {as : List Addr} {ms : List Mem} (h : TNew H H' as ms) (y : ∀ b, H b = none → H0 b = none) : TNew H0 H' as ms := Paired.mapP h fun q m ⟨h1, h2⟩ => ⟨h1.from y, h2⟩
section
variable {P : Program} {w : World} {K : PySem.W.Frag} {mg : Str → Option Value} {base : Heap}
def spFew : Sp := fun vs H Q _ => ∃ (a N : Addr) (u n : Nat) (zs : List Str), vs = [.ref a, .ref N, .int (n : Int)] ∧ SrcB u H a ∧ u ≤ 700000 ∧ H N = some (.lst (zs.map V.str)) ∧ zs.length = 6 ∧ (∀ z ∈ zs, nameB z = true) ∧ n ≤ 10 ∧
  ∀ p as ms H', H p = none → H' p = some (.lst (as.map V.ref)) → TNew H H' as ms → ms.length ≤ n → SrcB (u + 7000) H' a → But a H H' → Q (.ref p) H'
theorem ok_few {f : Addr} {fd : FuncData} {k : Nat} (F : Fun K "_law_few" "_law_few" s__law_few f fd) (m1 : mg "range" = none) (m2 : mg "len" = none) (c_draw : CalT P w K mg base 2 "_law_draw" spDraw) (c_spec : CalT P w K mg base 4 "_law_spec" spSpec) :
    FnOk P w K mg base CX0 (k + 5) f fd ["_law_source_here", "_law_names_here", "_law_most"] spFew := by
  refine F.ok sc__law_few (fun vs H Q E h => ?_) (fun cdv A outer s H vs Q E hr h => ?_)
  · obtain ⟨a, N, u, n, zs, rfl, _⟩ := h
    rfl
  · obtain ⟨a, N, u, n, zs, rfl, hs, hu9, hN, hl, hall, hn, q⟩ := h
    have hu := hu_of hr
    have nd := sc__law_few.nd
    have nN := src_strs hs.src hN
    refine ⟨_, (pss_cons (ps_set (i := 3) nd rfl (Or.inl rfl) (pe_lst pa_nil))
      (pss_cons (ps_for PassesOwn.never rfl (pi_range1 (by rfl) (by assumption) (pa_cons (pe_cc c_draw hr (by omega) (by rfl) (pa_cons (pv 0) (pa_cons (pe_op op_add (pv 2) pe_int) pa_nil))) pa_nil)) (pg_name (i := 4) nd rfl (Or.inl rfl))
        (pss_one (ps_expr (pe_bm PySem.F.plainAttrs_list PySem.F.slot_list_append PySem.F.type_list_append mt_append (pv 3) (pa_cons (pe_cc c_spec hr (by omega) (by rfl) (pa_cons (pv 0) (pa_cons (pe_ix (ix_listK K) (pv 1) (pe_cc c_draw hr (by omega) (by rfl) (pa_cons (pv 0) (pa_cons (pe_callB (call_lenK K) (by rfl) (by assumption) (by decide +kernel) (pa_cons (pv 1) pa_nil)) pa_nil))) (fun _ _ => rfl)) (pa_cons (pv 1) pa_nil)))) pa_nil)))))
      (pss_one (ps_ret (pv 3))))), ?_⟩
    walk_at "rd"
    rename_i L hL
    have nL := hs.src.ne hL
    have nNL : N ≠ L := ne_of_none hN hL
    refine sp_draw (hs.new hL) (by omega) (by omega) (by omega) (fun d H1 d0 d1 hs1 hb1 => ?_)
    have gL1 := hb1 _ _ nL upd_same
    have gN1 := hb1 _ _ nN (upd_old hL hN)
    have b1 : But a H H1 := hb1.new hL
    have hdL : upd H L (.lst []) L = some (.lst []) := upd_same
    walk_at "rd"
    refine for_it (walk_range (lo := 0) (n := d.toNat)) (fun i σ H' => ∃ (v : Option V) (as : List Addr) (ms : List Mem), σ = [some (.ref a), some (.ref N), some (.int (n : Int)), some (.ref L), v] ∧ SrcB (u + 1 + 605 * i) H' a ∧ But a H H' ∧ H' L = some (.lst (as.map V.ref)) ∧ TNew (upd H L (.lst [])) H' as ms ∧ ms.length = i) ?_ (fun _ _ _ _ _ => True.intro) ?_ ?_
    · exact ⟨_, [], [], rfl, hs1, b1, gL1, .nil, rfl⟩
    · rintro i x σ Hc H' hi ⟨v, as, ms, rfl, hs', hb', hD', hn', hl'⟩ ⟨rfl, hx⟩
      have hi10 : i ≤ 10 := by omega
      have gN' := hb' _ _ nN hN
      walk_at "rd"
      refine sp_draw hs' (by omega) (by rw [List.length_map, hl]; decide) (by rw [List.length_map, hl]; decide) (fun e H2 e0 e1 hs2 hb2 => ?_)
      obtain ⟨v, hv, hat⟩ := pick_at (xs := zs.map V.str) e0 e1
      obtain ⟨g, hg, rfl⟩ := List.mem_map.mp hv
      have gN2 := hb2 _ _ nN gN'
      have gL2 := hb2 _ _ nL hD'
      refine r_ixL (SqL.of gN2) hat ?_
      walk_at "rd"
      refine ⟨a, N, _, g, zs, rfl, hs2, by omega, hall g hg, gN2, hl, hall, fun p m H3 hp hm hok hs3 hb3 => ?_⟩
      have gL3 := hb3 _ _ nL gL2
      have hal : as.length = ms.length := Paired.length hn'
      walk_at "rd"
      refine r_append gL3 (Nat.lt_of_le_of_lt (by rw [List.length_map]; omega : _ ≤ 100) (by decide)) ?_
      have hback : ∀ b, H2 b = none → upd H L (.lst []) b = none := fun b hb => by
        have nb : b ≠ L := (ne_of_none gL2 hb).symm
        rw [upd_ne nb]
        exact But.back hs.src hs2.src (hb'.trans hb2) hb
      have hna : ∀ b, upd H L (.lst []) b = none → b ≠ a ∧ b ≠ L := fun b hb => by
        have nb : b ≠ L := (ne_of_none hdL hb).symm
        rw [upd_ne nb] at hb
        exact ⟨hs.src.ne hb, nb⟩
      refine ⟨some x, as ++ [p], ms ++ [m], rfl, ?_, fun b o nb eo => ?_, by rw [upd_same, List.map_append]; rfl, ?_, by rw [List.length_append, hl']; rfl⟩
      · obtain ⟨l, m', c, g, r⟩ := hs3.mono (show u + 1 + 605 * i + 1 + 604 ≤ u + 1 + 605 * (i + 1) by omega)
        exact ⟨l, m', c, upd_diff nL.symm g, r⟩
      · rw [upd_ne (ne_of_none eo hL)]
        exact hb3 _ _ nb (hb2 _ _ nb (hb' _ _ nb eo))
      · refine paired_snoc (TNew.to hn' fun b o nb eo => ?_) ⟨(Mem.TuN.from hm hback).to fun b o nb eo => ?_, hok⟩
        · rw [upd_ne (hna b nb).2]
          exact hb3 _ _ (hna b nb).1 (hb2 _ _ (hna b nb).1 eo)
        · rw [upd_ne (hna b nb).2]
          exact eo
    · rintro σ Hc ⟨v, as, ms, rfl, hs', hb', hD', hn', hl'⟩
      walk_at "rd"
      exact q L as ms _ hL hD' (TNew.from hn' fun b hb => by
        have nb : b ≠ L := (ne_of_none hdL hb).symm
        rw [upd_ne nb] at hb
        exact hb) (by omega) (hs'.mono (by omega)) hb'
def spAddM (c : Cs) (Ed : Addr) : Sp := fun vs H Q _ => ∃ (e L R : Addr) (past : List (List Mem)) (now : List Mem) (zs : List Addr) (M : List Mem), vs = [.ref e, .ref R] ∧ EdAt c Ed H e L past now ∧ H R = some (.lst (zs.map V.ref)) ∧ Made c H zs M ∧ M.length ≤ 3 ∧ now.length ≤ 50 ∧ Lim now ∧ Lim (now ++ M) ∧ past.length ≤ 1000 ∧
  ∀ r H', H r = none → But L H H' → EdAt c Ed H' e L (past ++ [now]) (now ++ M) → LN H' r (chg (arch now) (arch (now ++ M))) → Q (.ref r) H'
theorem ok_addM {f Ed : Addr} {fd : FuncData} {k : Nat} {c : Cs} (F : Fun K "_law_add" "_law_add" s__law_add f fd) (m1 : mg "len" = none) (m_eadd : MethS P w K mg base 11 Ed "add" (spEAdd Ed c)) : FnOk P w K mg base CX0 (k + 12) f fd ["_law_editor", "_law_members"] (spAddM c Ed) := by
  refine F.ok sc__law_add (fun vs H Q E9 h => ?_) (fun cdv A outer s H vs Q E9 hr h => ?_)
  · obtain ⟨e, L, R, past, now, zs, M, rfl, _⟩ := h
    rfl
  · obtain ⟨e, L, R, past, now, zs, M, rfl, hE, hR, hm, h3, hn, li1, li2, hp, q⟩ := h
    have hu := hu_of hr
    have nd := sc__law_add.nd
    have zl : zs.length = M.length := Paired.length hm
    obtain ⟨⟨de, g1⟩, ts, t, _, _, hst⟩ := id hE
    have wish : ∀ Q' : VK, (∀ r H', H r = none → But L H H' → EdAt c Ed H' e L (past ++ [now]) (now ++ M) → LN H' r (chg (arch now) (arch (now ++ M))) → Q' (.ref r) H') → spEAdd Ed c (.ref e :: zs.map V.ref) [] H Q' := fun Q' k' =>
      ⟨rfl, e, L, past, now, zs, M, rfl, hE, hm, by omega, li1, li2, hp, k'⟩
    refine ⟨_, (pss_cons (ps_if (pt_cmpR op_eq (pe_callB (call_lenK K) (by rfl) (by assumption) (by decide +kernel) (pa_cons (pv 1) pa_nil)) pe_int (nomark _))
        (pss_one (ps_ret (pe_mtS0 m_eadd hr (by omega) (pv 0))))
        pss_nil)
      (pss_cons (ps_if (pt_cmpR op_eq (pe_callB (call_lenK K) (by rfl) (by assumption) (by decide +kernel) (pa_cons (pv 1) pa_nil)) pe_int (nomark _))
        (pss_one (ps_ret (pe_mtS m_eadd hr (by omega) (pv 0) (pa_cons (pe_ix (ix_listK K) (pv 1) pe_int (fun _ _ => rfl)) pa_nil))))
        pss_nil)
      (pss_one (ps_ret (pe_ifExp (pt_cmpR op_eq (pe_callB (call_lenK K) (by rfl) (by assumption) (by decide +kernel) (pa_cons (pv 1) pa_nil)) pe_int (nomark _)) (pe_mtS m_eadd hr (by omega) (pv 0) (pa_cons (pe_ix (ix_listK K) (pv 1) pe_int (fun _ _ => rfl)) (pa_cons (pe_ix (ix_listK K) (pv 1) pe_int (fun _ _ => rfl)) pa_nil))) (pe_mtS m_eadd hr (by omega) (pv 0) (pa_cons (pe_ix (ix_listK K) (pv 1) pe_int (fun _ _ => rfl)) (pa_cons (pe_ix (ix_listK K) (pv 1) pe_int (fun _ _ => rfl)) (pa_cons (pe_ix (ix_listK K) (pv 1) pe_int (fun _ _ => rfl)) pa_nil))))))))), ?_⟩
    match zs, zl, hR, wish with
    | [], zl, hR, wish =>
      walk_at "rd"
      refine r_iteD (fun _ => ?_) (fun h => absurd rfl h)
      walk_at "rd"
      refine r_methS ?_
      walk_at "rd"
      refine ⟨e, de, _, rfl, g1, rfl, ?_⟩
      walk_at "rd"
      exact wish _ q
    | [z1], zl, hR, wish =>
      walk_at "rd"
      refine r_iteD (fun _ => ?_) (fun h => absurd rfl h)
      walk_at "rd"
      refine r_methS ?_
      walk_at "rd"
      refine ⟨e, de, _, rfl, g1, rfl, ?_⟩
      walk_at "rd"
      exact wish _ q
    | [z1, z2], zl, hR, wish =>
      walk_at "rd"
      refine r_iteD (fun _ => ?_) (fun h => absurd rfl h)
      walk_at "rd"
      refine r_methS ?_
      walk_at "rd"
      refine ⟨e, de, _, rfl, g1, rfl, ?_⟩
      walk_at "rd"
      exact wish _ q
    | [z1, z2, z3], zl, hR, wish =>
      walk_at "rd"
      refine r_methS ?_
      walk_at "rd"
      refine ⟨e, de, _, rfl, g1, rfl, ?_⟩
      walk_at "rd"
      exact wish _ q
    | z1 :: z2 :: z3 :: z4 :: zr, zl, _, _ => exact absurd zl (by show ¬ zr.length + 4 = _; omega)
end
abbrev s__law_edit : Stmt := topS 115
abbrev N__law_edit : List Str := ["_law_source_here", "_law_editor", "_law_members", "_law_names_here", "_law_road", "_law_more", "_law_index", "_law_member", "_law_spec_here"]
theorem sc__law_edit : FnScope N__law_edit ["_law_source_here", "_law_editor", "_law_members", "_law_names_here"] (defScope s__law_edit) := ⟨rfl, rfl, rfl, by decide +kernel, rfl, by decide +kernel, by decide +kernel⟩
/-! ### a drawn edit -/
theorem two_small {m : Mem} (h : m.Ok) (h2 : m.Two) : m.bytes.length ≤ 4300 := by
  have lK := longP_len chKl chK (Mem.Ok.tgt h).2
  have lL := longP_len chLl chL (Mem.Ok.nm h).2
  have lH := Mem.hd_len h
  have lp := pad_lt m.stored.length
  have ls : m.stored.length ≤ 600 := by
    cases m with
    | file n b t ns =>
      show (ns.map Int.toNat).length ≤ 600
      rw [List.length_map]
      exact h2
    | sparse n b t z sp =>
      obtain ⟨st, z0, z1, l50, hso, hall⟩ := h
      obtain ⟨k1, k2⟩ := h2
      have hsm := spn_small z0 z1 l50 hso
      have hnl : (numsOf z (spn sp)).length ≤ 6 := by
        match sp, k1 with
        | [], _ => exact (by decide : 2 ≤ 6)
        | [a], _ => exact (by decide : 4 ≤ 6)
        | [a, b], _ => exact Nat.le_refl 6
        | a :: b :: c :: r, k1 => exact absurd k1 (by show ¬ r.length + 3 ≤ 2; omega)
      have h5 := lines_len (numsOf z (spn sp)) hsm
      have hp := pad_lt (linesOf (numsOf z (spn sp))).length
      have hc : (cat sp).length ≤ 6 := by
        match sp, k1, k2 with
        | [], _, _ => exact Nat.zero_le _
        | [a], _, k2 =>
          have := k2 a List.mem_cons_self
          simp only [cat, List.flatMap_cons, List.flatMap_nil, List.append_nil, List.length_map]
          omega
        | [a, b], _, k2 =>
          have g1 := k2 a List.mem_cons_self
          have g2 := k2 b (List.mem_cons_of_mem _ List.mem_cons_self)
          simp only [cat, List.flatMap_cons, List.flatMap_nil, List.append_nil, List.length_append, List.length_map]
          omega
        | a :: b :: c :: r, k1, _ => exact absurd k1 (by show ¬ r.length + 3 ≤ 2; omega)
      show (filled (linesOf (numsOf z (spn sp))) ++ cat sp).length ≤ 600
      rw [List.length_append, filled_len]
      omega
    | dir n b t => exact Nat.zero_le _
    | sym n b t g => exact Nat.zero_le _
    | lnk n b t g => exact Nat.zero_le _
  unfold Mem.bytes
  rw [List.length_append, List.length_append, List.length_append, filled_len]
  omega
def Small (ms : List Mem) : Prop := ∀ m ∈ ms, m.Ok ∧ m.bytes.length ≤ 4300
theorem small_flat : ∀ {ms : List Mem}, Small ms → (ms.flatMap Mem.bytes).length ≤ 4300 * ms.length
  | [], _ => Nat.le_refl 0
  | m :: ms, h => by
    rw [List.flatMap_cons, List.length_append, List.length_cons]
    have h1 := (h m List.mem_cons_self).2
    have h2 := small_flat fun m hm => h m (List.mem_cons_of_mem _ hm)
    omega
theorem Small.lim {ms : List Mem} (h : Small ms) (hl : ms.length ≤ 20) : Lim ms := ⟨by omega, by have := small_flat h; omega⟩
theorem Small.app {a b : List Mem} (h : Small a) (g : Small b) : Small (a ++ b) := fun m hm => (List.mem_append.mp hm).elim (h m) (g m)
theorem Small.sub {a b : List Mem} (h : Small a) (g : ∀ m ∈ b, m ∈ a) : Small b := fun m hm => h m (g m hm)
def eMore (K : PySem.W.Frag) (c : Cs) : TE := tLc (iList K (tCall spFew [] E0 (tCons (tVar 0) (tCons (tVar 3) (tCons (tC (V.int 3)) tNil))))) (gName 8) tYes (tCall (spMadeT c) [] E0 (tCons (tVar 8) tNil)) (List.map (fun x => x.snd) [(Str.ofString "_law_spec_here", 8)])
section
variable {P : Program} {w : World} {K : PySem.W.Frag} {mg : Str → Option Value} {base : Heap}
/-- the editor's list, the members, the names, the source: four lists -/
structure EM (c : Cs) (Ed : Addr) (H : Hp) (a e L M N : Addr) (u : Nat) (ys : List Addr) (now : List Mem) (zs : List Str) (past : List (List Mem)) : Prop where
  src : SrcB u H a
  ed : EdAt c Ed H e L past now
  m : H M = some (.lst (ys.map V.ref))
  mm : Made c H ys now
  n : H N = some (.lst (zs.map V.str))
  nl : zs.length = 6
  nok : ∀ z ∈ zs, nameB z = true
  small : Small now
  la : L ≠ a
  lm : L ≠ M
  ln : L ≠ N
theorem EM.step {c : Cs} {Ed : Addr} {H H' : Hp} {a e L M N : Addr} {u u' : Nat} {ys : List Addr} {now : List Mem} {zs : List Str} {past : List (List Mem)} (em : EM c Ed H a e L M N u ys now zs past) (s : SrcB u' H' a) (b : But a H H') : EM c Ed H' a e L M N u' ys now zs past := by
  obtain ⟨la, hla⟩ := src_lst em.src.src
  exact ⟨s, em.ed.butL hla em.la b, b _ _ (src_refs em.src.src em.m) em.m, em.mm.butL hla b, b _ _ (src_strs em.src.src em.n) em.n, em.nl, em.nok, em.small, em.la, em.lm, em.ln⟩
theorem EM.same {c : Cs} {Ed : Addr} {H H' : Hp} {a e L M N : Addr} {u : Nat} {ys : List Addr} {now : List Mem} {zs : List Str} {past : List (List Mem)} (em : EM c Ed H a e L M N u ys now zs past) (s : Same H H') : EM c Ed H' a e L M N u ys now zs past := em.step (em.src.same s) (Same.but s)
/-- more members, made of drawn tuples -/
theorem ok_more {c : Cs} {H : Hp} {a N : Addr} {u : Nat} {zs : List Str} {v1 v2 v4 v5 v6 v7 v8 : Option V} {Q : VK} (hs : SrcB u H a) (hu : u ≤ 700000) (hN : H N = some (.lst (zs.map V.str))) (hl : zs.length = 6) (hall : ∀ z ∈ zs, nameB z = true)
    (k : ∀ R bs ms H', H R = none → H' R = some (.lst (bs.map V.ref)) → Made c H' bs ms → Small ms → ms.length ≤ 3 → SrcB (u + 7000) H' a → But a H H' → Q (.ref R) H') :
    eMore K c [some (.ref a), v1, v2, some (.ref N), v4, v5, v6, v7, v8] H Q := by
  unfold eMore
  walk_at "rd"
  refine ⟨a, N, u, 3, zs, rfl, hs, hu, hN, hl, hall, by decide, fun p as ms H2 hp gp tn hl2 hs2 hb2 => ?_⟩
  have hal : as.length = ms.length := Paired.length tn
  have sm : Small ms := by
    intro m hm
    have : ∀ {as : List Addr} {ms : List Mem}, TNew H H2 as ms → ∀ m ∈ ms, m.Ok ∧ m.Two := by
      intro as ms h
      induction h with
      | nil => exact fun _ h => nomatch h
      | cons h _ ih => exact fun m hm => (List.mem_cons.mp hm).elim (fun e => e ▸ h.2) (ih m)
    obtain ⟨g1, g2⟩ := this tn m hm
    exact ⟨g1, two_small g1 g2⟩
  walk_at "rd"
  intro D hD
  refine lc_it (walk_list (xs := as.map V.ref)) (fun i H' => Same H2 H' ∧ ∃ bs : List Addr, H' D = some (.lst (bs.map V.ref)) ∧ Paired (fun y (m : Mem) => m.Ins c H' y) bs (ms.take i)) ⟨same_new hD, [], upd_same, .nil⟩ (fun i H' _ ⟨e, _⟩ => SqL.of (e _ _ gp)) ?_ ?_
  · rintro i v Hc H' hi ⟨e, bs, hb', hbp⟩ ⟨rfl, hv⟩
    rw [List.getElem?_map] at hv
    obtain ⟨x, hx, rfl⟩ : ∃ x, as[i]? = some x ∧ V.ref x = v := by
      cases e : as[i]? with
      | none => rw [e] at hv; cases hv
      | some x => rw [e] at hv; exact ⟨x, rfl, Option.some.inj hv⟩
    obtain ⟨m, hmi, hat, hok, htwo⟩ := paired_at tn hx
    walk_at "rd"
    refine ⟨rfl, ?_⟩
    unfold tYes
    dsimp only
    rw [if_pos rfl]
    walk_at "rd"
    refine sp_madeT (Mem.Tu.same e hat.at) hok htwo fun y H3 e3 hy hin => ?_
    walk_at "rd"
    have hb3 := e3 _ _ hb'
    refine ⟨_, hb3, Nat.lt_of_le_of_lt (by rw [List.length_map, hbp.length, List.length_take]; omega : _ ≤ 10) (by decide), fun b o eo => by rw [upd_ne (ne_of_none eo hD)]; exact e3 _ _ (e _ _ eo), bs ++ [y], by rw [upd_same, List.map_append]; rfl, ?_⟩
    rw [take_snoc hmi]
    exact paired_snoc (Paired.mapP hbp fun z n g => Mem.Ins.lstU hb3 (Mem.Ins.same e3 g)) (Mem.Ins.lstU hb3 hin)
  · rintro H3 ⟨e3, bs, hb', hbp⟩
    rw [List.length_map, hal, List.take_length] at hbp
    walk_at "rd"
    exact k D bs ms H3 (But.back hs.src hs2.src hb2 hD) hb' (made_of hbp fun m hm => (sm m hm).1) sm hl2 (hs2.same e3) (hb2.trans (Same.but e3))
def spEdit (c : Cs) (Ed : Addr) : Sp := fun vs H Q _ => ∃ (a e L M N : Addr) (u : Nat) (ys : List Addr) (now : List Mem) (zs : List Str) (past : List (List Mem)), vs = [.ref a, .ref e, .ref M, .ref N] ∧ EM c Ed H a e L M N u ys now zs past ∧ u ≤ 600000 ∧ now.length ≤ 12 ∧ past.length ≤ 900 ∧
  ∀ T r M' ys' now' H', H T = none → H' T = some (.tup [.ref r, .ref M']) → H r = none → H M' = none → r ≠ M' → LN H' r (chg (arch now) (arch now')) → EM c Ed H' a e L M' N (u + 9000) ys' now' zs (past ++ [now]) → now'.length ≤ now.length + 3 → But2 a L H H' → Q (.ref T) H'
theorem ok_edit {f Ed : Addr} {fd : FuncData} {k : Nat} {c : Cs} (F : Fun K "_law_edit" "_law_edit" s__law_edit f fd) (m1 : mg "len" = none) (c_draw : CalT P w K mg base 2 "_law_draw" spDraw) (c_few : CalT P w K mg base 5 "_law_few" spFew) (c_spec : CalT P w K mg base 4 "_law_spec" spSpec) (c_made : CalT P w K mg base 8 "_law_made" (spMadeT c)) (c_add : CalT P w K mg base 12 "_law_add" (spAddM c Ed))
    (m_take_out : MetA P w K mg base 11 Ed "take_out" ["self", "index"] (spETake c Ed)) (m_exch : MetA P w K mg base 11 Ed "exchange" ["self", "index", "member"] (spEExch c Ed)) : FnOk P w K mg base CX0 (k + 13) f fd ["_law_source_here", "_law_editor", "_law_members", "_law_names_here"] (spEdit c Ed) := by
  refine F.ok sc__law_edit (fun vs H Q E9 h => ?_) (fun cdv A outer s H vs Q E9 hr h => ?_)
  · obtain ⟨a, e, L, M, N, u, ys, now, zs, past, rfl, _⟩ := h
    rfl
  · obtain ⟨a, e, L, M, N, u, ys, now, zs, past, rfl, em, hu9, hn, hp, q⟩ := h
    have hu := hu_of hr
    have nd := sc__law_edit.nd
    refine ⟨_, (pss_cons (ps_par (i := 4) (j := 5) rfl nd rfl rfl (by decide) rfl rfl (pa_cons (pe_cc c_draw hr (by omega) (by rfl) (pa_cons (pv 0) (pa_cons pe_int pa_nil))) (pa_cons (pe_lc (own := [("_law_spec_here", 8)]) (g := (gName 8)) (tt := tYes) rfl nd (pi_list (pe_cc c_few hr (by omega) (by rfl) (pa_cons (pv 0) (pa_cons (pv 3) (pa_cons pe_int pa_nil))))) (blkOk_by (N := N__law_edit) (sc := defScope s__law_edit) (by decide +kernel)) (fun _ _ _ _ _ => (pg_name (i := 8) nd rfl (Or.inl rfl))) (fun _ _ _ _ _ => pts_nil) (fun _ _ _ _ _ => (pe_cc c_made hr (by omega) (by rfl) (pa_cons (pv 8) pa_nil)))) pa_nil)) (by rfl))
      (pss_cons (ps_if (PW.pt (pw_or (pt_cmpR (op_eqE (Nat.lt_of_succ_lt hu)) (pv 2) (pe_lst pa_nil) (nomark _)) (pw_or1 (pt_cmpR op_eq (pv 4) pe_int (nomark _)))))
        (pss_one (ps_ret (pe_tup (pa_cons (pe_cc c_add hr (by omega) (by rfl) (pa_cons (pv 1) (pa_cons (pv 5) pa_nil))) (pa_cons (pe_op op_cat (pv 2) (pv 5)) pa_nil)))))
        pss_nil)
      (pss_cons (ps_set (i := 6) nd rfl (Or.inl rfl) (pe_cc c_draw hr (by omega) (by rfl) (pa_cons (pv 0) (pa_cons (pe_callB (call_lenK K) (by rfl) (by assumption) (by decide +kernel) (pa_cons (pv 2) pa_nil)) pa_nil))))
      (pss_cons (ps_if (pt_cmpR op_eq (pv 4) pe_int (nomark _))
        (pss_one (ps_ret (pe_tup (pa_cons (pe_mtA m_take_out hr (by omega) (pv 1) (pa_cons (pv 6) pa_nil)) (pa_cons (pe_op op_cat (pe_slice (sl_listK K) (pv 2) po_none (po_some (pv 6))) (pe_slice (sl_listK K) (pv 2) (po_some (pe_op op_add (pv 6) pe_int)) po_none)) pa_nil)))))
        pss_nil)
      (pss_cons (ps_set (i := 7) nd rfl (Or.inl rfl) (pe_cc c_made hr (by omega) (by rfl) (pa_cons (pe_cc c_spec hr (by omega) (by rfl) (pa_cons (pv 0) (pa_cons (pe_ix (ix_listK K) (pv 3) (pe_cc c_draw hr (by omega) (by rfl) (pa_cons (pv 0) (pa_cons (pe_callB (call_lenK K) (by rfl) (by assumption) (by decide +kernel) (pa_cons (pv 3) pa_nil)) pa_nil))) (fun _ _ => rfl)) (pa_cons (pv 3) pa_nil)))) pa_nil)))
      (pss_one (ps_ret (pe_tup (pa_cons (pe_mtA m_exch hr (by omega) (pv 1) (pa_cons (pv 6) (pa_cons (pv 7) pa_nil))) (pa_cons (pe_op op_cat (pe_op op_cat (pe_slice (sl_listK K) (pv 2) po_none (po_some (pv 6))) (pe_lst (pa_cons (pv 7) pa_nil))) (pe_slice (sl_listK K) (pv 2) (po_some (pe_op op_add (pv 6) pe_int)) po_none)) pa_nil)))))))))), ?_⟩
    walk_at "rd"
    refine sp_draw em.src (by omega) (by decide) (by decide) fun road H1 r0 r1 hs1 hb1 => ?_
    have em1 := em.step hs1 hb1
    refine r_cons (show eMore K c _ _ _ from ok_more hs1 (by omega) em1.n em1.nl em1.nok fun R bs ms H2 hR gR hmd sm hl3 hs2 hb2 => ?_)
    have em2 := em1.step hs2 hb2
    have yl : ys.length = now.length := Paired.length em.mm
    walk_at "rd"
    rename_i pe hpe
    have e3 := same_new (o := HO.lst []) hpe
    have em3 := em2.same e3
    have gR3 := e3 _ _ gR
    refine ⟨M, pe, _, rfl, rfl, em3.m, upd_same, ?_⟩
    have b03 : But a H (upd H2 pe (.lst [])) := (hb1.trans hb2).trans (Same.but e3)
    have fin : ∀ (H3 : Hp) (u' : Nat), EM c Ed H3 a e L M N u' ys now zs past → u' ≤ u + 9000 → But a H H3 → ∀ (now' : List Mem) (ys' : List Addr) (H4 H5 : Hp) (r M' T : Addr), H3 r = none → But L H3 H4 → EdAt c Ed H4 e L (past ++ [now]) now' → LN H4 r (chg (arch now) (arch now')) → Made c H4 ys' now' → Small now' → now'.length ≤ now.length + 3 → Same H4 H5 → H4 M' = none → H5 M' = some (.lst (ys'.map V.ref)) → H5 T = none → Q (.ref T) (upd H5 T (.tup [.ref r, .ref M'])) := by
      intro H3 u' em' hu' b3 now' ys' H4 H5 r M' T hr bL hE hN hm hsm hl e45 hM' gM' hT
      have e6 := same_new (o := HO.tup [V.ref r, V.ref M']) hT
      have e46 := e45.trans e6
      have bk : ∀ x, H4 x = none → H x = none := fun x hx => But.back em.src.src em'.src.src b3 (by
        cases g : H3 x with
        | none => rfl
        | some o =>
          have nx : x ≠ L := fun e' => by
            obtain ⟨_, ts, t, g9, _⟩ := id hE
            rw [e', g9] at hx
            cases hx
          rw [bL _ _ nx g] at hx
          cases hx)
      obtain ⟨lL, hlL⟩ := hE.lst
      have hs4 : SrcB (u + 9000) H4 a := by
        obtain ⟨l, m, cc, g, r9⟩ := em'.src.mono hu'
        exact ⟨l, m, cc, bL _ _ em.la.symm g, r9⟩
      refine q T r M' ys' now' _ (bk _ (e45.free hT)) upd_same (But.back em.src.src em'.src.src b3 hr) (bk _ hM') (ne_of_none (show H4 r = some _ from hN) hM') (hN.same e46) ⟨hs4.same e46, hE.same e46, e6 _ _ gM', hm.same e46, e46 _ _ (bL _ _ em.ln.symm em'.n), em.nl, em.nok, hsm, em.la, ne_of_none hlL hM', em.ln⟩ hl ?_
      exact ((But2.l b3).trans (But2.r bL)).trans (But2.same e46)
    have nRL : R ≠ L := by
      obtain ⟨lL, hlL⟩ := em1.ed.lst
      exact (ne_of_none hlL hR).symm
    have addB : ∀ D : Ends, D.rt = Q → tRet (tTup (tCons (tCall (spAddM c Ed) [] E0 (tCons (tVar 1) (tCons (tVar 5) tNil))) (tCons (tOp rCat (tVar 2) (tVar 5)) tNil))) D [some (.ref a), some (.ref e), some (.ref M), some (.ref N), some (.int road), some (.ref R), none, none, none] (upd H2 pe (.lst [])) := by
      intro D hD
      walk_at "rd"
      refine ⟨e, L, R, past, now, bs, ms, rfl, em3.ed, gR3, hmd.same e3, hl3, by omega, em.small.lim (by omega), (em.small.app sm).lim (by rw [List.length_append]; omega), by omega, fun r H4 hr hbL hE hN => ?_⟩
      have gM4 := hbL _ _ em.lm.symm em3.m
      have gR4 := hbL _ _ nRL gR3
      obtain ⟨lL, hlL⟩ := em3.ed.lst
      have zl : bs.length = ms.length := Paired.length hmd
      walk_at "rd"
      refine r_cat gM4 gR4 (Nat.le_trans (by rw [List.length_map, List.length_map]; omega : _ ≤ 100) (by decide)) fun M' hM' => ?_
      walk_at "rd"
      rename_i T hT
      rw [hD]
      exact fin _ _ em3 (by omega) b03 (now ++ ms) (ys ++ bs) H4 _ r M' T hr hbL hE hN (paired_app2 (em3.mm.butL hlL hbL) ((hmd.same e3).butL hlL hbL)) (em.small.app sm) (by rw [List.length_append]; omega) (same_new hM') hM' (by rw [upd_same, List.map_append]) hT
    rcases ys with _ | ⟨y0, ys0⟩
    · refine ⟨true, rfl, ?_⟩
      rw [if_pos rfl]
      exact addB _ rfl
    · refine ⟨false, rfl, ?_⟩
      rw [if_neg (by decide)]
      walk_at "rd"
      refine r_iteD (fun _ => addB _ rfl) (fun _ => ?_)
      walk_at "rd"
      have hle : ((y0 :: ys0).map V.ref).length = now.length := by rw [List.length_map, yl]
      have hpos : 1 ≤ now.length := by rw [← yl]; exact Nat.succ_le_succ (Nat.zero_le _)
      refine r_rLenQ (.inl (SqL.of em3.m)) ?_
      rw [hle]
      walk_at "rd"
      refine sp_draw em3.src (by omega) (by omega) (by omega) fun d H4 d0 d1 hs4 hb4 => ?_
      obtain ⟨i, rfl⟩ := Int.eq_ofNat_of_zero_le d0
      have em4 := em3.step hs4 hb4
      have b04 := b03.trans hb4
      have hi : i < now.length := by omega
      have hE4 := em4.ed
      obtain ⟨⟨de, g1⟩, _⟩ := id hE4
      walk_at "rd"
      refine r_iteD (fun _ => ?_) (fun _ => ?_)
      · walk_at "rd"
        refine r_meth ?_
        walk_at "rd"
        refine ⟨e, de, _, rfl, g1, rfl, ?_⟩
        walk_at "rd"
        refine ⟨e, L, past, now, i, rfl, hE4, hi, em.small.lim (by omega), (em.small.sub (a := now) (b := now.take i ++ now.drop (i + 1)) fun m hm => (List.mem_append.mp hm).elim List.mem_of_mem_take List.mem_of_mem_drop).lim (by rw [List.length_append, List.length_take, List.length_drop]; omega), by omega, fun r H5 hr hbL hE5 hN5 => ?_⟩
        have gM5 := hbL _ _ em.lm.symm em4.m
        walk_at "rd"
        rename_i p1 hp1 p2 hp2
        have f1 := same_new (o := HO.lst (cutV ((y0 :: ys0).map V.ref) none (some (i : Int)))) hp1
        have f2 := same_new (o := HO.lst (cutV ((y0 :: ys0).map V.ref) (some ((i : Int) + 1)) none)) hp2
        have k1 : upd (upd H5 p1 (.lst (cutV ((y0 :: ys0).map V.ref) none (some (i : Int))))) p2 (.lst (cutV ((y0 :: ys0).map V.ref) (some ((i : Int) + 1)) none)) p1 = some (.lst (((y0 :: ys0).take i).map V.ref)) := by
          rw [f2 _ _ upd_same, cutV_to, List.map_take]
        have k2 : upd (upd H5 p1 (.lst (cutV ((y0 :: ys0).map V.ref) none (some (i : Int))))) p2 (.lst (cutV ((y0 :: ys0).map V.ref) (some ((i : Int) + 1)) none)) p2 = some (.lst (((y0 :: ys0).drop (i + 1)).map V.ref)) := by
          rw [upd_same, show (i : Int) + 1 = ((i + 1 : Nat) : Int) by push_cast; rfl, cutV_from, List.map_drop]
        refine r_cat k1 k2 (Nat.le_trans (by rw [List.length_map, List.length_map, List.length_take, List.length_drop]; omega : _ ≤ 100) (by decide)) fun M' hM' => ?_
        walk_at "rd"
        rename_i T hT
        obtain ⟨lL, hlL⟩ := hE4.lst
        have hm5 := em4.mm.butL hlL hbL
        exact fin _ _ em4 (by omega) b04 (now.take i ++ now.drop (i + 1)) ((y0 :: ys0).take i ++ (y0 :: ys0).drop (i + 1)) H5 _ r M' T hr hbL hE5 hN5 (paired_app2 (paired_take2 i hm5) (paired_drop2 (i + 1) hm5)) (em.small.sub fun m hm => (List.mem_append.mp hm).elim List.mem_of_mem_take List.mem_of_mem_drop) (by rw [List.length_append, List.length_take, List.length_drop]; omega) ((f1.trans f2).trans (same_new hM')) ((f1.trans f2).free hM') (by rw [upd_same, List.map_append]) hT
      · walk_at "rd"
        refine r_rLenQ (.inl (SqL.of em4.n)) ?_
        rw [show (zs.map V.str).length = 6 by rw [List.length_map, em.nl]]
        walk_at "rd"
        refine sp_draw em4.src (by omega) (by decide) (by decide) fun d H5 d0 d1 hs5 hb5 => ?_
        have em5 := em4.step hs5 hb5
        obtain ⟨v, hv, hat⟩ := pick_at (xs := zs.map V.str) d0 (by rw [List.length_map, em.nl]; exact d1)
        obtain ⟨g, hg, rfl⟩ := List.mem_map.mp hv
        refine r_ixL (SqL.of em5.n) hat ?_
        walk_at "rd"
        refine ⟨a, N, _, g, zs, rfl, hs5, by omega, em.nok g hg, em5.n, em.nl, em.nok, fun p m H6 hp htu hok hs6 hb6 => ?_⟩
        have em6 := em5.step hs6 hb6
        walk_at "rd"
        refine sp_madeT htu.at hok.1 hok.2 fun x H7 e7 hx hin => ?_
        have em7 := em6.same e7
        have b07 := ((b04.trans hb5).trans hb6).trans (Same.but e7)
        have hE7 := em7.ed
        obtain ⟨⟨de7, g7⟩, _⟩ := id hE7
        have hsm : Small (now.take i ++ m :: now.drop (i + 1)) := fun y hy => by
          rcases List.mem_append.mp hy with hy | hy
          · exact em.small y (List.mem_of_mem_take hy)
          · rcases List.mem_cons.mp hy with rfl | hy
            · exact ⟨hok.1, two_small hok.1 hok.2⟩
            · exact em.small y (List.mem_of_mem_drop hy)
        have hll : (now.take i ++ m :: now.drop (i + 1)).length ≤ now.length + 3 := by rw [List.length_append, List.length_cons, List.length_take, List.length_drop]; omega
        walk_at "rd"
        refine r_meth ?_
        walk_at "rd"
        refine ⟨e, de7, _, rfl, g7, rfl, ?_⟩
        walk_at "rd"
        refine ⟨e, L, x, past, now, i, m, rfl, hE7, hin, hok.1, hi, em.small.lim (by omega), hsm.lim (by omega), by omega, fun r H8 hr hbL hE8 hN8 => ?_⟩
        have gM8 := hbL _ _ em.lm.symm em7.m
        walk_at "rd"
        rename_i p1 hp1 p2 hp2
        have f1 := same_new (o := HO.lst (cutV ((y0 :: ys0).map V.ref) none (some (i : Int)))) hp1
        have f2 := same_new (o := HO.lst [V.ref x]) hp2
        have k1 : upd (upd H8 p1 (.lst (cutV ((y0 :: ys0).map V.ref) none (some (i : Int))))) p2 (.lst [V.ref x]) p1 = some (.lst (((y0 :: ys0).take i).map V.ref)) := by
          rw [f2 _ _ upd_same, cutV_to, List.map_take]
        refine r_cat k1 upd_same (Nat.le_trans (by rw [List.length_map, List.length_take, List.length_singleton]; omega : _ ≤ 100) (by decide)) fun p3 hp3 => ?_
        have f3 := same_new (o := HO.lst (((y0 :: ys0).take i).map V.ref ++ [V.ref x])) hp3
        have f123 := (f1.trans f2).trans f3
        have gM9 := f123 _ _ gM8
        walk_at "rd"
        rename_i p4 hp4
        have f4 := same_new (o := HO.lst (cutV ((y0 :: ys0).map V.ref) (some ((i : Int) + 1)) none)) hp4
        refine r_cat (f4 _ _ upd_same) (zs := ((y0 :: ys0).drop (i + 1)).map V.ref) (by rw [upd_same, show (i : Int) + 1 = ((i + 1 : Nat) : Int) by push_cast; rfl, cutV_from, List.map_drop]) (Nat.le_trans (by rw [List.length_append, List.length_map, List.length_map, List.length_take, List.length_drop, List.length_singleton]; omega : _ ≤ 100) (by decide)) fun M' hM' => ?_
        walk_at "rd"
        rename_i T hT
        obtain ⟨lL, hlL⟩ := hE7.lst
        have hm8 := em7.mm.butL hlL hbL
        have hx8 := hin.butL hlL hbL
        have hmd8 : Made c H8 ((y0 :: ys0).take i ++ x :: (y0 :: ys0).drop (i + 1)) (now.take i ++ m :: now.drop (i + 1)) := paired_app2 (paired_take2 i hm8) (.cons ⟨hx8, hok.1⟩ (paired_drop2 (i + 1) hm8))
        have f5 := same_new (o := HO.lst ((((y0 :: ys0).take i).map V.ref ++ [V.ref x]) ++ ((y0 :: ys0).drop (i + 1)).map V.ref)) hM'
        exact fin _ _ em7 (by omega) b07 _ ((y0 :: ys0).take i ++ x :: (y0 :: ys0).drop (i + 1)) H8 _ r M' T hr hbL hE8 hN8 hmd8 hsm hll ((f123.trans f4).trans f5) ((f123.trans f4).free hM') (by rw [upd_same, List.map_append, List.map_cons, List.append_assoc]; rfl) hT
end
abbrev s__law_blocks : Stmt := topS 111
abbrev N__law_blocks : List Str := ["_law_archive_here", "_law_k"]
theorem sc__law_blocks : FnScope N__law_blocks ["_law_archive_here"] (defScope s__law_blocks) := ⟨rfl, rfl, rfl, by decide +kernel, rfl, by decide +kernel, by decide +kernel⟩
abbrev s__law_written : Stmt := topS 112
abbrev N__law_written : List Str := ["_law_before", "_law_after", "_law_elder", "_law_newer", "_law_k"]
theorem sc__law_written : FnScope N__law_written ["_law_before", "_law_after"] (defScope s__law_written) := ⟨rfl, rfl, rfl, by decide +kernel, rfl, by decide +kernel, by decide +kernel⟩
/-! ### the blocks of an archive -/
def blksN (xs : List Nat) : List (List Nat) := (List.range (xs.length / 512)).map fun i => (xs.drop (512 * i)).take 512
section
variable {P : Program} {w : World} {K : PySem.W.Frag} {mg : Str → Option Value} {base : Heap}
theorem rg_512 : ∀ m ∈ List.range 200, (512 : Int) ≠ 0 ∧ (512 : Int).natAbs < 1073741824 ∧ Builtin.Range.small 0 ((512 * m : Nat) : Int) 512 = true ∧ Builtin.Range.rangeSize 0 ((512 * m : Nat) : Int) 512 = (m : Nat) := by decide +kernel
def spBlks : Sp := fun vs H Q _ => ∃ xs : List Nat, vs = [.byt (Bt.byOf xs)] ∧ xs.length % 512 = 0 ∧ xs.length ≤ 100000 ∧ (∀ x ∈ xs, x < 256) ∧ ∀ p H', H p = none → Same H H' → H' p = some (.lst ((blksN xs).map fun b => V.byt (Bt.byOf b))) → Q (.ref p) H'
theorem ok_blks {f : Addr} {fd : FuncData} {k : Nat} (F : Fun K "_law_blocks" "_law_blocks" s__law_blocks f fd) (m1 : mg "range" = none) (m2 : mg "len" = none) : FnOk P w K mg base CX0 (k + 2) f fd ["_law_archive_here"] spBlks := by
  refine F.ok sc__law_blocks (fun vs H Q E9 h => ?_) (fun cdv A outer s H vs Q E9 hr h => ?_)
  · obtain ⟨xs, rfl, _⟩ := h
    rfl
  · obtain ⟨xs, rfl, h0, h1, hb, q⟩ := h
    have hu := hu_of hr
    have nd := sc__law_blocks.nd
    have sz : (Bt.byOf xs).size = xs.length := byOf_size _
    refine ⟨_, (pss_one (ps_ret (pe_lc (own := [("_law_k", 1)]) (g := (gName 1)) (tt := tYes) rfl nd (pi_range3 (by rfl) (by assumption) (pa_cons pe_int (pa_cons (pe_callB call_rLenY (by rfl) (by assumption) (by decide +kernel) (pa_cons (pv 0) pa_nil)) (pa_cons pe_int pa_nil)))) (blkOk_by (N := N__law_blocks) (sc := defScope s__law_blocks) (by decide +kernel)) (fun _ _ _ _ _ => (pg_name (i := 1) nd rfl (Or.inl rfl))) (fun _ _ _ _ _ => pts_nil) (fun _ _ _ _ _ => (pe_slice sl_Y (pv 0) (po_some (pv 1)) (po_some (pe_op op_add (pv 1) pe_int))))))), ?_⟩
    walk_at "rd"
    unfold iRng3
    walk_at "rd"
    refine ⟨0, _, 512, xs.length / 512, rfl, ?_, ?_⟩
    · rw [sz]
      have := rg_512 (xs.length / 512) (List.mem_range.mpr (by omega))
      rw [show 512 * (xs.length / 512) = xs.length by omega] at this
      exact this
    intro D hD
    refine lc_it walk_rangeC (fun i H' => Same H H' ∧ H' D = some (.lst ((((List.range i).map fun i => (xs.drop (512 * i)).take 512)).map fun b => V.byt (Bt.byOf b)))) ?_ (fun _ _ _ _ => True.intro) ?_ ?_
    · exact ⟨same_new hD, upd_same⟩
    · rintro i x Hc H' hi ⟨e', hb'⟩ ⟨rfl, rfl⟩
      walk_at "rd"
      refine ⟨rfl, ?_⟩
      unfold tYes
      dsimp only
      rw [if_pos rfl]
      walk_at "rd"
      have hi' : i < xs.length / 512 := hi
      rw [show (0 : Int) + (i : Int) * 512 = ((512 * i : Nat) : Int) by push_cast; omega, show ((512 * i : Nat) : Int) + 512 = ((512 * i + 512 : Nat) : Int) by push_cast; rfl]
      refine r_slAny (by omega) ?_
      rw [show 512 * i + 512 - 512 * i = 512 by omega]
      refine ⟨_, hb', Nat.lt_of_le_of_lt (by rw [List.length_map, List.length_map, List.length_range]; omega : _ ≤ 200) (by decide), fun b o eo => by rw [upd_ne (ne_of_none eo hD)]; exact e' _ _ eo, ?_⟩
      rw [upd_same, List.range_succ, List.map_append, List.map_append]
      rfl
    · rintro H3 ⟨e3, hb'⟩
      walk_at "rd"
      exact q D H3 hD e3 hb'
def spLWr : Sp := fun vs H Q _ => ∃ xs ys : List Nat, vs = [.byt (Bt.byOf xs), .byt (Bt.byOf ys)] ∧ xs.length % 512 = 0 ∧ xs.length ≤ 100000 ∧ ys.length % 512 = 0 ∧ ys.length ≤ 100000 ∧ (∀ x ∈ xs, x < 256) ∧ (∀ x ∈ ys, x < 256) ∧ ∀ p H', H p = none → Same H H' → LN H' p (chg xs ys) → Q (.ref p) H'
theorem ok_lwr {f : Addr} {fd : FuncData} {k : Nat} (F : Fun K "_law_written" "_law_written" s__law_written f fd) (m1 : mg "range" = none) (m2 : mg "len" = none) (c_blocks : CalT P w K mg base 2 "_law_blocks" spBlks) : FnOk P w K mg base CX0 (k + 3) f fd ["_law_before", "_law_after"] spLWr := by
  refine F.ok sc__law_written (fun vs H Q E9 h => ?_) (fun cdv A outer s H vs Q E9 hr h => ?_)
  · obtain ⟨xs, ys, rfl, _⟩ := h
    rfl
  · obtain ⟨xs, ys, rfl, x0, x1, y0, y1, bx, by_, q⟩ := h
    have hu := hu_of hr
    have nd := sc__law_written.nd
    refine ⟨_, (pss_cons (ps_asg (pe_tup (pa_cons (pe_cc c_blocks hr (by omega) (by rfl) (pa_cons (pv 0) pa_nil)) (pa_cons (pe_cc c_blocks hr (by omega) (by rfl) (pa_cons (pv 1) pa_nil)) pa_nil))) (pg_tupK K (pg_tup rfl (pgs_cons (pg_name (i := 2) nd rfl (Or.inr rfl)) (pgs_cons (pg_name (i := 3) nd rfl (Or.inr rfl)) pgs_nil)))))
      (pss_one (ps_ret (pe_lc (own := [("_law_k", 4)]) (g := (gName 4)) rfl nd (pi_range1 (by rfl) (by assumption) (pa_cons (pe_callB (call_lenK K) (by rfl) (by assumption) (by decide +kernel) (pa_cons (pv 3) pa_nil)) pa_nil)) (blkOk_by (N := N__law_written) (sc := defScope s__law_written) (by decide +kernel)) (fun _ _ _ _ _ => (pg_name (i := 4) nd rfl (Or.inl rfl))) (fun _ _ _ _ _ => pts_one (PW.pt (pw_or (pt_cmpR op_ge (pv 4) (pe_callB (call_lenK K) (by rfl) (by assumption) (by decide +kernel) (pa_cons (pv 2) pa_nil)) (nomark _)) (pw_or1 (pt_cmpR op_ne (pe_ix (ix_listK K) (pv 2) (pv 4) (fun _ _ => rfl)) (pe_ix (ix_listK K) (pv 3) (pv 4) (fun _ _ => rfl)) (nomark _)))))) (fun _ _ _ _ _ => (pv 4)))))), ?_⟩
    walk_at "rd"
    refine ⟨xs, rfl, x0, x1, bx, fun p H1 hp e1 gp => ?_⟩
    walk_at "rd"
    refine ⟨ys, rfl, y0, y1, by_, fun r H2 hr9 e2 gr => ?_⟩
    have gp2 := e2 _ _ gp
    walk_at "rd"
    rename_i t0 ht0
    have e3 := same_new (o := HO.tup [V.ref p, V.ref r]) ht0
    have bl : ∀ zs : List Nat, ((blksN zs).map fun b => V.byt (Bt.byOf b)).length = zs.length / 512 := fun zs => by
      unfold blksN
      rw [List.length_map, List.length_map, List.length_range]
    have bat : ∀ (zs : List Nat) (i : Nat), i < zs.length / 512 → atI ((blksN zs).map fun b => V.byt (Bt.byOf b)) (i : Int) = some (V.byt (Bt.byOf ((zs.drop (512 * i)).take 512))) := fun zs i hi => by
      refine atI_nat ?_
      unfold blksN
      rw [List.getElem?_map, List.getElem?_map, List.getElem?_range hi]
      rfl
    rw [bl]
    refine ⟨_, rfl, by omega, by omega, ?_⟩
    have gp3 := e3 _ _ gp2
    have gr3 := e3 _ _ gr
    intro D hD
    refine lc_it (walk_range (lo := 0) (n := _)) (fun i H' => Same (upd H2 t0 (.tup [V.ref p, V.ref r])) H' ∧ LN H' D ((List.range i).filter fun i => decide ((xs.drop (512 * i)).take 512 ≠ (ys.drop (512 * i)).take 512))) ?_ (fun _ _ _ _ => True.intro) ?_ ?_
    · exact ⟨same_new hD, upd_same⟩
    · rintro i x Hc H' hi ⟨e', hb'⟩ ⟨rfl, hv⟩
      simp only [Int.zero_add] at hv
      subst hv
      have hi' : i < ys.length / 512 := by omega
      have gp4 := e' _ _ gp3
      have gr4 := e' _ _ gr3
      have hl4 : H' D = some (.lst ((nL ((List.range i).filter fun i => decide ((xs.drop (512 * i)).take 512 ≠ (ys.drop (512 * i)).take 512))).map V.int)) := hb'
      have hcl : ((nL ((List.range i).filter fun i => decide ((xs.drop (512 * i)).take 512 ≠ (ys.drop (512 * i)).take 512))).map V.int).length ≤ 200 := by
        simp only [nL, List.length_map]
        refine Nat.le_trans (List.length_filter_le _ _) ?_
        rw [List.length_range]
        omega
      have put : (xs.drop (512 * i)).take 512 ≠ (ys.drop (512 * i)).take 512 → ∃ acc, H' D = some (.lst acc) ∧ acc.length < sizeLine ∧ (Same (upd H2 t0 (.tup [V.ref p, V.ref r])) (upd H' D (.lst (acc ++ [V.int (i : Int)]))) ∧ LN (upd H' D (.lst (acc ++ [V.int (i : Int)]))) D ((List.range (i + 1)).filter fun i => decide ((xs.drop (512 * i)).take 512 ≠ (ys.drop (512 * i)).take 512))) := fun g => by
        refine ⟨_, hl4, Nat.lt_of_le_of_lt hcl (by decide), fun b o eo => by rw [upd_ne (ne_of_none eo hD)]; exact e' _ _ eo, ?_⟩
        rw [List.range_succ, List.filter_append, List.filter_cons_of_pos (by simp [g]), List.filter_nil]
        show upd H' D _ D = _
        rw [upd_same, nL_app, List.map_append]
        rfl
      walk_at "rd"
      refine ⟨rfl, ?_⟩
      walk_at "rd"
      rw [bl]
      refine r_iteD (fun h => ?_) (fun h => ?_)
      · rw [if_pos rfl]
        walk_at "rd"
        refine put fun g => ?_
        have g2 := congrArg List.length g
        rw [List.length_take, List.length_drop, List.length_take, List.length_drop] at g2
        omega
      · walk_at "rd"
        refine r_ixL (SqL.of gp4) (bat xs i (by omega)) ?_
        walk_at "rd"
        refine r_ixL (SqL.of gr4) (bat ys i hi') ?_
        walk_at "rd"
        by_cases g : (xs.drop (512 * i)).take 512 = (ys.drop (512 * i)).take 512
        · rw [g, decide_eq_true rfl]
          walk_at "rd"
          refine ⟨e', ?_⟩
          rw [List.range_succ, List.filter_append, List.filter_cons_of_neg (by simp [g]), List.filter_nil, List.append_nil]
          exact hb'
        · have hne : V.byt (Bt.byOf ((xs.drop (512 * i)).take 512)) ≠ V.byt (Bt.byOf ((ys.drop (512 * i)).take 512)) := fun h => g (byOf_inj2 (fun c hc => bx c (List.mem_of_mem_drop (List.mem_of_mem_take hc))) (fun c hc => by_ c (List.mem_of_mem_drop (List.mem_of_mem_take hc))) (V.byt.inj h))
          rw [decide_eq_false hne]
          walk_at "rd"
          exact put g
    · rintro H3 ⟨e4, hb'⟩
      walk_at "rd"
      refine q D H3 ((e2.trans e3).free hD |> e1.free) (e1.trans ((e2.trans e3).trans e4)) ?_
      exact hb'
end
abbrev s_blocks_of : Stmt := topS 92
abbrev N_blocks_of : List Str := ["member"]
theorem sc_blocks_of : FnScope N_blocks_of ["member"] (defScope s_blocks_of) := ⟨rfl, rfl, rfl, by decide +kernel, rfl, by decide +kernel, by decide +kernel⟩
abbrev s__law_right : Stmt := topS 117
abbrev N__law_right : List Str := ["_law_editor", "_law_members", "_law_due", "_law_end", "_law_member"]
theorem sc__law_right : FnScope N__law_right ["_law_editor", "_law_members"] (defScope s__law_right) := ⟨rfl, rfl, rfl, by decide +kernel, rfl, by decide +kernel, by decide +kernel⟩
/-! ### blocks_of; what an editor shows -/
theorem op_neIntsK {X : Cx} (K : PySem.W.Frag) (hr : Room 1 X.A) (h3 : X.K = K := by rfl) : OpR X (compareOp .NotEq) (rNeG (DList DFlat)) := op_neGL mon_flat eqG_flat hr
theorem spotN_snoc {ms : List Mem} {i : Nat} {m : Mem} (h : ms[i]? = some m) : spotN ms (i + 1) = spotN ms i + m.bytes.length := by
  unfold spotN
  rw [take_snoc h, List.flatMap_append, List.length_append, List.flatMap_singleton]
section
variable {P : Program} {w : World} {K : PySem.W.Frag} {mg : Str → Option Value} {base : Heap}
theorem ok_blocks {f : Addr} {fd : FuncData} {k : Nat} {c : Cs} {t1 : Tok} (F : Fun K "blocks_of" "blocks_of" s_blocks_of f fd) (m1 : mg "len" = none) (m_BS : mg "BLOCK_SIZE" = some (.int 512 t1)) (c_packed : CalT P w K mg base 6 "packed" (spPacked c)) : FnOk P w K mg base CX0 (k + 7) f fd ["member"] (spBlocks c) := by
  refine F.ok sc_blocks_of (fun vs H Q E h => ?_) (fun cdv A outer s H vs Q E hr h => ?_)
  · obtain ⟨x, m, rfl, _⟩ := h
    rfl
  · obtain ⟨x, m, rfl, hi, ho, q⟩ := h
    have hu := hu_of hr
    have nd := sc_blocks_of.nd
    refine ⟨_, (pss_one (ps_ret (pe_op op_fdivW (pe_callB call_rLenY (by rfl) (by assumption) (by decide +kernel) (pa_cons (pe_cc c_packed hr (by omega) (by rfl) (pa_cons (pv 0) pa_nil)) pa_nil)) (pe_glob (v := .int 512) (by rfl) m_BS (by first | exact rfl | exact ⟨_, rfl⟩))))), ?_⟩
    walk_at "rd"
    refine sp_packed hi ho (fun H1 e1 => ?_)
    have hl := Mem.bytes_len ho
    have hsz : (Bt.byOf m.bytes).size = m.bytes.length := byOf_size _
    walk_at "rd"
    rw [hsz, show ((m.bytes.length : Int) / 512) = ((m.bytes.length / 512 : Nat) : Int) from rfl]
    exact q _ e1
def spRight (c : Cs) (Ed : Addr) : Sp := fun vs H Q _ => ∃ (e L M : Addr) (past : List (List Mem)) (now : List Mem) (ys : List Addr), vs = [.ref e, .ref M] ∧ EdAt c Ed H e L past now ∧ H M = some (.lst (ys.map V.ref)) ∧ Made c H ys now ∧ now.length ≤ 50 ∧ Lim now ∧ ∀ H', Same H H' → Q (.bl true) H'
theorem ok_right {f Ed : Addr} {fd : FuncData} {k : Nat} {c : Cs} (F : Fun K "_law_right" "_law_right" s__law_right f fd) (m1 : mg "len" = none) (c_blocksof : CalT P w K mg base 7 "blocks_of" (spBlocks c)) (c_written : CalT P w K mg base 7 "written" (spWrA K c))
    (m_archive : PropT P w K mg base 8 Ed "archive" (spEArch c Ed)) (m_members : PropT P w K mg base 9 Ed "members" (spEMems c Ed)) (m_offsets : PropT P w K mg base 7 Ed "offsets" (spEOffs c Ed)) (m_elen : MethT P w K mg base 2 Ed "__len__" (spELen c Ed)) (eqm : EqMs P w K mg base c) : FnOk P w K mg base CX0 (k + 11) f fd ["_law_editor", "_law_members"] (spRight c Ed) := by
  refine F.ok sc__law_right (fun vs H Q E9 h => ?_) (fun cdv A outer s H vs Q E9 hr h => ?_)
  · obtain ⟨e, L, M, past, now, ys, rfl, _⟩ := h
    rfl
  · obtain ⟨e, L, M, past, now, ys, rfl, hE, hM, hm, hl, li, q⟩ := h
    have hu := hu_of hr
    have nd := sc__law_right.nd
    have yl : ys.length = now.length := Paired.length hm
    refine ⟨_, (pss_cons (ps_par (i := 2) (j := 3) rfl nd rfl rfl (by decide) rfl rfl (pa_cons (pe_lst pa_nil) (pa_cons pe_int pa_nil)) (by rfl))
      (pss_cons (ps_for PassesOwn.never rfl (pi_list (pv 1)) (pg_name (i := 4) nd rfl (Or.inl rfl))
        (pss_cons (ps_expr (pe_bm PySem.F.plainAttrs_list PySem.F.slot_list_append PySem.F.type_list_append mt_append (pv 2) (pa_cons (pv 3) pa_nil)))
      (pss_one (ps_set (i := 3) nd rfl (Or.inl rfl) (pe_op op_add (pv 3) (pe_op op_mul pe_int (pe_cc c_blocksof hr (by omega) (by rfl) (pa_cons (pv 4) pa_nil))))))))
      (pss_cons (ps_if (PW.pt (pw_or (pt_cmpR op_ne (pe_propT m_archive hr (by omega) (pv 0)) (pe_cc c_written hr (by omega) (by rfl) (pa_cons (pv 1) pa_nil)) (nomark _)) (pw_or (pt_cmpR (op_neMemK K eqm (hr.mono (by omega))) (pe_propT m_members hr (by omega) (pv 0)) (pv 1) (nomark _)) (pw_or1 (pt_cmpR (op_neIntsK K (hr.mono (by omega))) (pe_propT m_offsets hr (by omega) (pv 0)) (pv 2) (nomark _))))))
        (pss_one (ps_ret pe_bl))
        pss_nil)
      (pss_cons (ps_expr (pe_bm PySem.F.plainAttrs_list PySem.F.slot_list_append PySem.F.type_list_append mt_append (pe_propT m_members hr (by omega) (pv 0)) (pa_cons pe_non pa_nil)))
      (pss_cons (ps_expr (pe_bm0 PySem.F.plainAttrs_list PySem.F.slot_list_clear PySem.F.type_list_clear mt_clear (pe_propT m_offsets hr (by omega) (pv 0))))
      (pss_one (ps_ret (pe_and (pe_cmpR op_eq (pe_callB (call_lenO m_elen hr (by omega)) (by rfl) (by assumption) (by decide +kernel) (pa_cons (pv 0) pa_nil)) (pe_callB (call_lenK K) (by rfl) (by assumption) (by decide +kernel) (pa_cons (pv 1) pa_nil)) (nomark _)) (pe_one (pe_cmpR op_eq (pe_callB call_rLenY (by rfl) (by assumption) (by decide +kernel) (pa_cons (pe_propT m_archive hr (by omega) (pv 0)) pa_nil)) (pe_op op_add (pv 3) pe_int) (nomark _))))))))))), ?_⟩
    walk_at "rd"
    rename_i D hD
    refine for_it (walk_list (xs := ys.map V.ref)) (fun i σ H' => ∃ v4 : Option V, σ = [some (.ref e), some (.ref M), some (.ref D), some (.int (spotN now i : Int)), v4] ∧ Same H H' ∧ LN H' D ((List.range i).map fun j => spotN now j)) ?_ (fun i σ H' _ ⟨_, _, e, _⟩ => SqL.of (e _ _ hM)) ?_ ?_
    · exact ⟨_, rfl, same_new hD, upd_same⟩
    · rintro i v σ Hc H' hi ⟨v4, rfl, e', hb'⟩ ⟨rfl, hv⟩
      rw [List.getElem?_map] at hv
      obtain ⟨x, hx, rfl⟩ : ∃ x, ys[i]? = some x ∧ V.ref x = v := by
        cases e : ys[i]? with
        | none => rw [e] at hv; cases hv
        | some x => rw [e] at hv; exact ⟨x, rfl, Option.some.inj hv⟩
      obtain ⟨m, hmi, hin, hok⟩ := paired_at hm hx
      have hi2 : i < now.length := by rw [← yl]; exact (List.getElem?_eq_some_iff.mp hx).1
      have hb2 : H' D = some (.lst ((nL ((List.range i).map fun j => spotN now j)).map V.int)) := hb'
      have hcl : ((nL ((List.range i).map fun j => spotN now j)).map V.int).length ≤ 200 := by
        rw [nL_len, List.length_map, List.length_range]
        omega
      have hm5 := Mem.bytes_512 hok
      have hml := Mem.bytes_len hok
      walk_at "rd"
      have e1 : Same H (upd H' D (.lst ((nL ((List.range i).map fun j => spotN now j)).map V.int ++ [V.int (spotN now i : Int)]))) := fun b o eo => by rw [upd_ne (ne_of_none eo hD)]; exact e' _ _ eo
      refine ⟨x, m, rfl, hin.same e1, hok, fun H2 e2 => ?_⟩
      walk_at "rd"
      refine ⟨_, by rw [spotN_snoc hmi, show ((spotN now i : Nat) : Int) + 512 * ((m.bytes.length / 512 : Nat) : Int) = ((spotN now i + m.bytes.length : Nat) : Int) by omega]; rfl, e1.trans e2, ?_⟩
      refine LN.same ?_ e2
      show upd H' D _ D = _
      rw [upd_same, List.range_succ, List.map_append, nL_app, List.map_append]
      rfl
    · rintro σ Hc ⟨v4, rfl, e1, hD1⟩
      rw [List.length_map, yl] at hD1 ⊢
      have hE1 := hE.same e1
      obtain ⟨⟨de, g1⟩, _⟩ := id hE1
      walk_at "rd"
      refine r_prop ?_
      walk_at "rd"
      refine ⟨e, de, _, rfl, g1, e, L, past, now, rfl, hE1, li.1, li.2, fun H2 e2 => ?_⟩
      walk_at "rd"
      refine .inl ⟨M, ys, now, rfl, SqL.of (e2 _ _ (e1 _ _ hM)), (hm.same e1).same e2, li.1, li.2, fun H3 e3 => ?_⟩
      have E3 := (e1.trans e2).trans e3
      walk_at "rd"
      rw [decide_eq_true rfl]
      walk_at "rd"
      refine r_prop ?_
      walk_at "rd"
      refine ⟨e, de, _, rfl, e3 _ _ (e2 _ _ g1), e, L, past, now, rfl, hE.same E3, li.1, fun M2 ys2 H4 hM2 e4 gM2 hm2 => ?_⟩
      have E4 := E3.trans e4
      walk_at "rd"
      refine r_neMem gM2 (E4 _ _ hM) (Paired.mapP hm2 fun y m g => g.1) (hm.same E4) fun H5 e5 => ?_
      have E5 := E4.trans e5
      walk_at "rd"
      refine r_prop ?_
      walk_at "rd"
      refine ⟨e, de, _, rfl, e5 _ _ (e4 _ _ (e3 _ _ (e2 _ _ g1))), e, L, past, now, rfl, hE.same E5, li, fun p H6 hp e6 gp => ?_⟩
      have E6 := E5.trans e6
      have hD6 : LN H6 D (offN now) := (((((LN.same hD1 e2).same e3).same e4).same e5).same e6)
      walk_at "rd"
      refine ⟨dflat_ints gp hD6, fun H7 e7 => ?_⟩
      have E7 := E6.trans e7
      walk_at "rd"
      refine r_prop ?_
      walk_at "rd"
      refine ⟨e, de, _, rfl, e7 _ _ (e6 _ _ (e5 _ _ (e4 _ _ (e3 _ _ (e2 _ _ g1))))), e, L, past, now, rfl, hE.same E7, li.1, fun M8 ys8 H8 hM8 e8 gM8 hm8 => ?_⟩
      have hyl8 : (ys8.map V.ref).length ≤ 200 := by rw [List.length_map, Paired.length hm8]; omega
      walk_at "rd"
      have e9 : Same H7 (upd H8 M8 (.lst (ys8.map V.ref ++ [V.non]))) := fun b o eo => by rw [upd_ne (ne_of_none eo hM8)]; exact e8 _ _ eo
      have E9 := E7.trans e9
      walk_at "rd"
      refine r_prop ?_
      walk_at "rd"
      refine ⟨e, de, _, rfl, e9 _ _ (e7 _ _ (e6 _ _ (e5 _ _ (e4 _ _ (e3 _ _ (e2 _ _ g1)))))), e, L, past, now, rfl, hE.same E9, li, fun p2 H10 hp2 e10 gp2 => ?_⟩
      have gp3 : H10 p2 = some (.lst ((nL (offN now)).map V.int)) := gp2
      refine ⟨.inl ⟨rfl, _, SqL.of gp3⟩, p2, _, rfl, rfl, gp3, ?_⟩
      have e11 : Same (upd H8 M8 (.lst (ys8.map V.ref ++ [V.non]))) (upd H10 p2 (.lst [])) := fun b o eo => by rw [upd_ne (ne_of_none eo hp2)]; exact e10 _ _ eo
      have E11 := E9.trans e11
      have g11 := e11 _ _ (e9 _ _ (e7 _ _ (e6 _ _ (e5 _ _ (e4 _ _ (e3 _ _ (e2 _ _ g1)))))))
      have lar := arch_length now
      have sz : (Bt.byOf (arch now)).size = (arch now).length := byOf_size _
      walk_at "rd"
      refine ⟨e, de, _, rfl, g11, fun E => ⟨e, L, past, now, rfl, hE.same E11, now.length, rfl, by omega, ?_⟩⟩
      walk_at "rd"
      refine r_rLenQ (.inl (SqL.of (E11 _ _ hM))) ?_
      walk_at "rd"
      rw [List.length_map, yl, dec_intV, decide_eq_true rfl]
      walk_at "rd"
      refine r_prop ?_
      walk_at "rd"
      refine ⟨e, de, _, rfl, g11, e, L, past, now, rfl, hE.same E11, li.1, li.2, fun H12 e12 => ?_⟩
      walk_at "rd"
      refine r_rLenY (by rw [sz, lar]; exact Nat.le_trans (by have := li.2; omega : _ ≤ 100000) (by decide)) ?_
      walk_at "rd"
      rw [sz, lar, dec_intV, decide_eq_true (by unfold spotN; rw [List.take_length]; push_cast; rfl)]
      exact q _ (E11.trans e12)
end
/-! ### an editor of drawn members -/
theorem arch_stop {ms : List Mem} (ho : ∀ m ∈ ms, m.Ok) : ∃ (N : Nat) (s : St), StopC (arch ms) (arch ms).length N ∧ Stop (arch ms) (st0 0) N ∧ runK (arch ms) N (st0 0) = (s, offs 0 ms) ∧ troF s = .fine := by
  obtain ⟨N, s, h1, h2, h3, h4, h5, h6⟩ := arch_run ho
  have hl := arch_length ms
  have hov : overF (runK (arch ms) N (st0 0)).1 = true := by
    rw [h3]
    unfold overF
    rw [h5]
    simp
  refine ⟨N, s, ⟨Nat.le_refl _, by omega, h6, .inl hov⟩, ⟨by omega, h6, .inl hov⟩, h3, ?_⟩
  unfold troF
  rw [if_pos h4, if_pos h5]
theorem arch_512 {ms : List Mem} (ho : ∀ m ∈ ms, m.Ok) : (arch ms).length % 512 = 0 := by
  have h : ∀ ms : List Mem, (∀ m ∈ ms, m.Ok) → (ms.flatMap Mem.bytes).length % 512 = 0 := by
    intro ms h
    induction ms with
    | nil => rfl
    | cons m r ih =>
      rw [List.flatMap_cons, List.length_append]
      have h1 := Mem.bytes_512 (h m List.mem_cons_self)
      have h2 := ih fun x hx => h x (List.mem_cons_of_mem _ hx)
      omega
  have h1 := h ms ho
  rw [arch_length]
  omega
theorem eqvA_int : ∀ as bs : List Int, PyData.eqvAll (as.map PyData.int) (bs.map PyData.int) = decide (as = bs)
  | [], [] => by simp [PyData.eqvAll]
  | [], b :: bs => by simp [PyData.eqvAll]
  | a :: as, [] => by simp [PyData.eqvAll]
  | a :: as, b :: bs => by by_cases h : a = b <;> simp [PyData.eqvAll, PyData.eqv, eqvA_int as bs, h]
theorem r_eqNd {K : PySem.W.Frag} {H : Hp} {Q : VK} {a b : Addr} {xs ys : List Nat} (ha : LN H a xs) (hb : LN H b ys) (h : Q (.bl (decide (xs = ys))) H) : rEqD K (.ref a) (.ref b) H Q :=
  ⟨_, _, dp_one ha (dpa_ints _), dp_one hb (dpa_ints _), ints_shaped _, ints_shaped _, by
    rw [show PyData.eqv (.list ((nL xs).map PyData.int)) (.list ((nL ys).map PyData.int)) = decide (xs = ys) by
      rw [PyData.eqv, eqvA_int]
      apply decide_eq_decide.mpr
      unfold nL
      exact List.map_inj_right fun x y h => Int.ofNat.inj h]
    exact h⟩
theorem Small.ok {ms : List Mem} (h : Small ms) : ∀ m ∈ ms, m.Ok := fun m hm => (h m hm).1
section
variable {P : Program} {w : World} {K : PySem.W.Frag} {mg : Str → Option Value} {base : Heap} {c : Cs} {Ed : Addr}
theorem EM.butL {H H' : Hp} {a e L M N p : Addr} {u : Nat} {ys : List Addr} {now : List Mem} {zs : List Str} {past : List (List Mem)} {l : List V} (em : EM c Ed H a e L M N u ys now zs past) (hp : H p = some (.lst l)) (na : p ≠ a) (nL' : p ≠ L) (nM : p ≠ M) (nN : p ≠ N) (b : But p H H') : EM c Ed H' a e L M N u ys now zs past := by
  obtain ⟨l', m', cc, g, r9⟩ := em.src
  exact ⟨⟨l', m', cc, b _ _ na.symm g, r9⟩, em.ed.butL hp nL'.symm b, b _ _ nM.symm em.m, em.mm.butL hp b, b _ _ nN.symm em.n, em.nl, em.nok, em.small, em.la, em.lm, em.ln⟩
theorem EM.mono {H : Hp} {a e L M N : Addr} {u u' : Nat} {ys : List Addr} {now : List Mem} {zs : List Str} {past : List (List Mem)} (em : EM c Ed H a e L M N u ys now zs past) (h : u ≤ u') : EM c Ed H a e L M N u' ys now zs past :=
  ⟨em.src.mono h, em.ed, em.m, em.mm, em.n, em.nl, em.nok, em.small, em.la, em.lm, em.ln⟩
/-- members, made of drawn tuples: the comprehension, at any slots -/
def eFewG (K : PySem.W.Frag) (c : Cs) (sv nv : Nat) (n : Int) (i : Nat) : TE := tLc (iList K (tCall spFew [] E0 (tCons (tVar sv) (tCons (tVar nv) (tCons (tC (V.int n)) tNil))))) (gName i) tYes (tCall (spMadeT c) [] E0 (tCons (tVar i) tNil)) (List.map (fun x => x.snd) [(Str.ofString "_law_spec_here", i)])
theorem ok_fewG {σ : L2.St} {sv nv i n : Nat} {H : Hp} {a N : Addr} {u : Nat} {zs : List Str} {Q : VK} (h1 : σ[sv]? = some (some (V.ref a))) (h2 : σ[nv]? = some (some (V.ref N))) (hi9 : i < σ.length) (hn : n ≤ 10) (hs : SrcB u H a) (hu : u ≤ 700000) (hN : H N = some (.lst (zs.map V.str))) (hl : zs.length = 6) (hall : ∀ z ∈ zs, nameB z = true)
    (k : ∀ R bs ms H', H R = none → H' R = some (.lst (bs.map V.ref)) → Made c H' bs ms → Small ms → ms.length ≤ n → SrcB (u + 7000) H' a → But a H H' → Q (.ref R) H') :
    eFewG K c sv nv (n : Int) i σ H Q := by
  unfold eFewG
  walk_at "rd"
  refine r_var h1 ?_
  walk_at "rd"
  refine r_var h2 ?_
  walk_at "rd"
  refine ⟨a, N, u, n, zs, rfl, hs, hu, hN, hl, hall, hn, fun p as ms H2 hp gp tn hl2 hs2 hb2 => ?_⟩
  have hal : as.length = ms.length := Paired.length tn
  have sm : Small ms := by
    intro m hm
    have : ∀ {as : List Addr} {ms : List Mem}, TNew H H2 as ms → ∀ m ∈ ms, m.Ok ∧ m.Two := by
      intro as ms h
      induction h with
      | nil => exact fun _ h => nomatch h
      | cons h _ ih => exact fun m hm => (List.mem_cons.mp hm).elim (fun e => e ▸ h.2) (ih m)
    obtain ⟨g1, g2⟩ := this tn m hm
    exact ⟨g1, two_small g1 g2⟩
  walk_at "rd"
  intro D hD
  refine lc_it (walk_list (xs := as.map V.ref)) (fun i H' => Same H2 H' ∧ ∃ bs : List Addr, H' D = some (.lst (bs.map V.ref)) ∧ Paired (fun y (m : Mem) => m.Ins c H' y) bs (ms.take i)) ⟨same_new hD, [], upd_same, .nil⟩ (fun i H' _ ⟨e, _⟩ => SqL.of (e _ _ gp)) ?_ ?_
  · rintro i9 v Hc H' hi ⟨e, bs, hb', hbp⟩ ⟨rfl, hv⟩
    rw [List.getElem?_map] at hv
    obtain ⟨x, hx, rfl⟩ : ∃ x, as[i9]? = some x ∧ V.ref x = v := by
      cases e : as[i9]? with
      | none => rw [e] at hv; cases hv
      | some x => rw [e] at hv; exact ⟨x, rfl, Option.some.inj hv⟩
    obtain ⟨m, hmi, hat, hok, htwo⟩ := paired_at tn hx
    walk_at "rd"
    refine ⟨?_, ?_⟩
    · show ((σ.set i none).set i (some (V.ref x))).set i none = σ.set i none
      rw [List.set_set, List.set_set]
    unfold tYes
    dsimp only
    rw [if_pos rfl]
    walk_at "rd"
    refine r_var (v := .ref x) (show ((σ.set i none).set i (some (V.ref x)))[i]? = _ from List.getElem?_set_self (by rw [List.length_set]; exact hi9)) ?_
    walk_at "rd"
    refine sp_madeT (Mem.Tu.same e hat.at) hok htwo fun y H3 e3 hy hin => ?_
    walk_at "rd"
    have hb3 := e3 _ _ hb'
    refine ⟨_, hb3, Nat.lt_of_le_of_lt (by rw [List.length_map, hbp.length, List.length_take]; omega : _ ≤ 10) (by decide), fun b o eo => by rw [upd_ne (ne_of_none eo hD)]; exact e3 _ _ (e _ _ eo), bs ++ [y], by rw [upd_same, List.map_append]; rfl, ?_⟩
    rw [take_snoc hmi]
    exact paired_snoc (Paired.mapP hbp fun z n g => Mem.Ins.lstU hb3 (Mem.Ins.same e3 g)) (Mem.Ins.lstU hb3 hin)
  · rintro H3 ⟨e3, bs, hb', hbp⟩
    rw [List.length_map, hal, List.take_length] at hbp
    walk_at "rd"
    exact k D bs ms H3 (But.back hs.src hs2.src hb2 hD) hb' (made_of hbp fun m hm => (sm m hm).1) sm hl2 (hs2.same e3) (hb2.trans (Same.but e3))
theorem sp_eofW {H : Hp} {Q : VK} {E : XK} {ms : List Mem} (ho : ∀ m ∈ ms, m.Ok) (hl : Lim ms) (l100 : ms.length ≤ 100) (k : ∀ e L H', H e = none → H L = none → Same H H' → EdAt c Ed H' e L [] ms → Q (.ref e) H') : spEOf c Ed [.ref Ed, .byt (Bt.byOf (arch ms))] H Q E := by
  obtain ⟨Nn, s, sc, st, er, fi⟩ := arch_stop ho
  have hal := arch_length ms
  refine ⟨arch ms, Nn, rfl, by have := hl.2; omega, arch_lt ho, sc, by rw [er]; exact fi, by rw [er]; show (offs 0 ms).length ≤ 100; rw [offs_len]; exact l100, fun e L H2 he hL e2 hE => ?_⟩
  rw [er] at hE
  have := offs_snd (ms := ms) (o := 0)
  rw [show (List.map (fun p => p.2) ((s, offs 0 ms) : St × List (Int × Mem)).2) = ms from this] at hE
  exact k e L H2 he hL e2 hE
theorem ok_newEd {σ : L2.St} {H : Hp} {Q : VK} (k : ∀ e L H', H e = none → H L = none → Same H H' → EdAt c Ed H' e L [] [] → Q (.ref e) H') : tMake Ed (spEInit c Ed) [] E0 tNil σ H Q := by
  refine r_make ?_
  intro x dx hx hdx ne
  refine ⟨x, dx, rfl, upd_same, fun L H2 hL0 fr hE0 => ⟨rfl, ?_⟩⟩
  have e2 : Same H H2 := fun b o eo => fr _ _ (ne_of_none eo hx) (by
    rw [upd_ne (ne_of_none eo hx), upd_ne (ne_of_none eo hdx)]
    exact eo)
  have hLH : H L = none := by
    cases g : H L with
    | none => rfl
    | some o =>
      by_cases nx : L = x
      · rw [nx, hx] at g; cases g
      · have : upd (upd H dx (HO.own x)) x (HO.ins Ed dx []) L = some o := by
          rw [upd_ne nx, upd_ne (fun e => by rw [e, hdx] at g; cases g)]
          exact g
        rw [this] at hL0
        cases hL0
  exact k x L H2 hx hLH e2 hE0
end
/-! ### the law -/
def q2 (K : PySem.W.Frag) (c : Cs) (Ed : Addr) : TS := tAsg (tIf (tTest (tOp rEq (tCall spDraw [] E0 (tCons (tVar 2) (tCons (tC (V.int 2)) tNil))) (tC (V.int 0)))) (ClX.tCMeth Ed (spEOf c Ed) E0 (tC (V.ref Ed)) (tCons (tCall (spWrA K c) [] E0 (tCons (tVar 4) tNil)) tNil)) (tMake Ed (spEInit c Ed) [] E0 tNil)) (gName 5)
def q3 (K : PySem.W.Frag) (c : Cs) (Ed : Addr) : TS := tAsg (tIf (tTest (tOp (rI0 fun i j => V.bl (decide (j < i))) (tCB (rLenO Ed (spELen c Ed)) (tCons (tVar 5) tNil)) (tC (V.int 0)))) (tVar 4) (tLst tNil)) (gName 4)
def eRight (c : Cs) (Ed : Addr) : TE := tCall (spRight c Ed) [] E0 (tCons (tVar 5) (tCons (tVar 4) tNil))
def tTurn (K : PySem.W.Frag) (c : Cs) (Ed : Addr) : TS := tSeq (tAsg (tProp Ed (spEArch c Ed) [] E0 (tVar 5)) (gName 7))
  (tSeq (tIfS (tTest (tOp (rI0 fun i j => V.bl (decide (j < i))) (tCB (rLenQ K) (tCons (tVar 4) tNil)) (tC (V.int 12)))) tBreak tNext)
  (tSeq (tAsg (tCall (spEdit c Ed) [] E0 (tCons (tVar 2) (tCons (tVar 5) (tCons (tVar 4) (tCons (tVar 3) tNil))))) (gTup K 2 (gCons (gName 8) (gCons (gName 4) gNil))))
  (tSeq (tIfS (tOr (tTest (tOp (rNeG (DList DFlat)) (tVar 8) (tCall spLWr [] E0 (tCons (tVar 7) (tCons (tProp Ed (spEArch c Ed) [] E0 (tVar 5)) tNil))))) (tNot (L2.tB (eRight c Ed)))) (tRet (tC (V.bl false))) tNext)
  (tSeq (tDrop (tBM K "list" rAppend (tVar 8) (tCons (tC V.non) tNil)))
  (tIfS (tNot (L2.tB (eRight c Ed))) (tRet (tC (V.bl false))) tNext)))))
section
variable {P : Program} {w : World} {K : PySem.W.Frag} {mg : Str → Option Value} {base : Heap} {c : Cs} {Ed : Addr} {D : Ends} {H : Hp} {v0 v1 v4 v5 v6 v7 v8 v9 : Option V} {a N : Addr}
theorem ok_q23 {rr : TS} {M : Addr} {u : Nat} {zs : List Str} {ys : List Addr} {ms : List Mem} (hs : SrcB u H a) (hu : u ≤ 100000) (hN : H N = some (.lst (zs.map V.str))) (hl : zs.length = 6) (hall : ∀ z ∈ zs, nameB z = true) (hM : H M = some (.lst (ys.map V.ref))) (hm : Made c H ys ms) (sm : Small ms) (ml : ms.length ≤ 4)
    (k : ∀ H' e L M' ys' now, EM c Ed H' a e L M' N (u + 10) ys' now zs [] → now.length ≤ 4 → H L = none → But a H H' → rr D [v0, v1, some (.ref a), some (.ref N), some (.ref M'), some (.ref e), v6, v7, v8, v9] H') :
    tSeq (q2 K c Ed) (tSeq (q3 K c Ed) rr) D [v0, v1, some (.ref a), some (.ref N), some (.ref M), v5, v6, v7, v8, v9] H := by
  have fin : ∀ (H0 H1 : Hp) (e L : Addr) (now : List Mem), SrcB (u + 1) H0 a → But a H H0 → Same H0 H1 → H0 L = none → EdAt c Ed H1 e L [] now → (now = ms ∨ now = []) → tSeq (q3 K c Ed) rr D [v0, v1, some (.ref a), some (.ref N), some (.ref M), some (.ref e), v6, v7, v8, v9] H1 := by
    intro H0 H1 e L now hs0 b0 e1 hL hE hn
    obtain ⟨la, hla⟩ := src_lst hs.src
    have hM0 := b0 _ _ (src_refs hs.src hM) hM
    have hN0 := b0 _ _ (src_strs hs.src hN) hN
    have hm0 := hm.butL hla b0
    obtain ⟨⟨de, g1⟩, _⟩ := id hE
    have nln : now.length ≤ 4 := by rcases hn with rfl | rfl; exact ml; exact Nat.zero_le _
    have hLH : H L = none := But.back hs.src hs0.src b0 hL
    refine r_seq ?_
    unfold q3
    walk_at "rd"
    refine ⟨e, de, _, rfl, g1, fun E => ⟨e, L, [], now, rfl, hE, now.length, rfl, by omega, ?_⟩⟩
    walk_at "rd"
    refine r_iteD (fun hpos => ?_) (fun hz => ?_)
    · have hnm : now = ms := hn.elim id fun h => by rw [h] at hpos; exact absurd hpos (by decide)
      subst hnm
      walk_at "rd"
      exact k H1 e L M ys now ⟨(hs0.mono (by omega)).same e1, hE, e1 _ _ hM0, hm0.same e1, e1 _ _ hN0, hl, hall, sm, (hs0.src.ne hL), (ne_of_none hM0 hL).symm, (ne_of_none hN0 hL).symm⟩ ml hLH (b0.trans (Same.but e1))
    · have hn0 : now = [] := List.eq_nil_of_length_eq_zero (by omega)
      subst hn0
      walk_at "rd"
      rename_i M' hM'
      have e2 := same_new (o := HO.lst []) hM'
      obtain ⟨lL, hlL⟩ := hE.lst
      exact k _ e L M' [] [] ⟨((hs0.mono (by omega)).same e1).same e2, hE.same e2, upd_same, .nil, e2 _ _ (e1 _ _ hN0), hl, hall, fun _ h => (nomatch h), (hs0.src.ne hL), ne_of_none hlL hM', (ne_of_none hN0 hL).symm⟩ (Nat.zero_le _) hLH ((b0.trans (Same.but e1)).trans (Same.but e2))
  refine r_seq ?_
  unfold q2 ClX.tCMeth
  walk_at "rd"
  refine sp_draw hs (by omega) (by decide) (by decide) fun d H0 d0 d1 hs0 b0 => ?_
  obtain ⟨la, hla⟩ := src_lst hs.src
  have hM0 := b0 _ _ (src_refs hs.src hM) hM
  have hm0 := hm.butL hla b0
  walk_at "rd"
  refine r_iteD (fun _ => ?_) (fun _ => ?_)
  · walk_at "rd"
    refine ⟨rfl, ?_⟩
    walk_at "rd"
    have lm := sm.lim (by omega)
    refine .inl ⟨M, ys, ms, rfl, SqL.of hM0, hm0, lm.1, lm.2, fun H1 e1 => ?_⟩
    walk_at "rd"
    refine sp_eofW sm.ok lm (by omega) fun e L H2 he hL e2 hE => ?_
    walk_at "rd"
    exact fin H0 H2 e L ms hs0 b0 (e1.trans e2) (e1.free hL) hE (.inl rfl)
  · refine ok_newEd fun e L H1 he hL e1 hE => ?_
    walk_at "rd"
    exact fin H0 H1 e L [] hs0 b0 e1 hL hE (.inr rfl)
theorem ok_turn {e L M : Addr} {u : Nat} {ys : List Addr} {now : List Mem} {zs : List Str} {past : List (List Mem)} (em : EM c Ed H a e L M N u ys now zs past) (hu : u ≤ 500000) (hn : now.length ≤ 15) (hp : past.length ≤ 100)
    (kb : ∀ H' v7', Same H H' → D.bk [v0, v1, some (.ref a), some (.ref N), some (.ref M), some (.ref e), v6, v7', v8, v9] H')
    (k : ∀ H' M' ys' now' v7' v8', EM c Ed H' a e L M' N (u + 9000) ys' now' zs (past ++ [now]) → now'.length ≤ 15 → But2 a L H H' → D.nx [v0, v1, some (.ref a), some (.ref N), some (.ref M'), some (.ref e), v6, v7', v8', v9] H') :
    tTurn K c Ed D [v0, v1, some (.ref a), some (.ref N), some (.ref M), some (.ref e), v6, v7, v8, v9] H := by
  have yl : ys.length = now.length := Paired.length em.mm
  obtain ⟨⟨de, g1⟩, _⟩ := id em.ed
  have lim := em.small.lim (by omega)
  unfold tTurn eRight
  walk_at "rd"
  refine r_prop ?_
  walk_at "rd"
  refine ⟨e, de, _, rfl, g1, e, L, past, now, rfl, em.ed, lim.1, lim.2, fun H1 e1 => ?_⟩
  have em1 := em.same e1
  walk_at "rd"
  refine r_rLenQ (.inl (SqL.of em1.m)) ?_
  walk_at "rd"
  rw [List.length_map, yl]
  refine r_iteD (fun _ => ?_) (fun h12 => ?_)
  · walk_at "rd"
    exact kb H1 _ e1
  walk_at "rd"
  refine ⟨a, e, L, M, N, u, ys, now, zs, past, rfl, em1, by omega, by omega, by omega, fun T r M' ys' now' H2 hT gT hr hM' nrM gr em2 hl2 b2 => ?_⟩
  have lim2 := em2.small.lim (by omega)
  have gr2 : H2 r = some (.lst ((nL (chg (arch now) (arch now'))).map V.int)) := gr
  obtain ⟨⟨de2, g2⟩, _⟩ := id em2.ed
  have gal := arch_length now
  have gal2 := arch_length now'
  have hc9 := lim.2
  have hc92 := lim2.2
  have szl : ((nL (chg (arch now) (arch now'))).map V.int).length ≤ 1000 := by
    rw [nL_len]
    unfold chg
    refine Nat.le_trans (List.length_filter_le _ _) ?_
    rw [List.length_range]
    omega
  have nra : r ≠ a := em1.src.src.ne hr
  have nrN : r ≠ N := (ne_of_none em1.n hr).symm
  have nrL : r ≠ L := by
    obtain ⟨lL, hlL⟩ := em1.ed.lst
    exact (ne_of_none hlL hr).symm
  walk_at "rd"
  refine r_prop ?_
  walk_at "rd"
  refine ⟨e, de2, _, rfl, g2, e, L, _, now', rfl, em2.ed, lim2.1, lim2.2, fun H3 e3 => ?_⟩
  walk_at "rd"
  refine ⟨arch now, arch now', rfl, arch_512 em.small.ok, by omega, arch_512 em2.small.ok, by omega, arch_lt em.small.ok, arch_lt em2.small.ok, fun p H4 hp4 e4 g4 => ?_⟩
  have gr4 : LN H4 r (chg (arch now) (arch now')) := (gr.same e3).same e4
  walk_at "rd"
  refine ⟨dflat_ints gr4 g4, fun H5 e5 => ?_⟩
  have E5 := (e3.trans e4).trans e5
  have em5 := em2.same E5
  walk_at "rd"
  refine ⟨e, L, M', _, now', ys', rfl, em5.ed, em5.m, em5.mm, by omega, lim2, fun H6 e6 => ?_⟩
  have em6 := em5.same e6
  have gr6 : H6 r = some (.lst ((nL (chg (arch now) (arch now'))).map V.int)) := e6 _ _ (E5 _ _ gr2)
  walk_at "rd"
  have b7 : But r H6 (upd H6 r (.lst ((nL (chg (arch now) (arch now'))).map V.int ++ [V.non]))) := fun b o nb eo => by rw [upd_ne nb]; exact eo
  have em7 := em6.butL gr6 nra nrL nrM nrN b7
  refine ⟨e, L, M', _, now', ys', rfl, em7.ed, em7.m, em7.mm, by omega, lim2, fun H8 e8 => ?_⟩
  walk_at "rd"
  refine k H8 M' ys' now' _ _ (em7.same e8) (by omega) fun b o na nL' eo => ?_
  have g := b2 b o na nL' (e1 _ _ eo)
  have nbr : b ≠ r := ne_of_none (e1 _ _ eo) hr
  exact e8 _ _ (b7 _ _ nbr (e6 _ _ (E5 _ _ g)))
def tCell (K : PySem.W.Frag) (c : Cs) (Ed : Addr) : TS := tSeq (tAsg (eFewG K c 2 3 4 9) (gName 4)) (tSeq (q2 K c Ed) (tSeq (q3 K c Ed)
  (tFor (iRng1 (tCons (tOp (rI0 fun i j => V.int (i + j)) (tC (V.int 1)) (tCall spDraw [] E0 (tCons (tVar 2) (tCons (tC (V.int 8)) tNil)))) tNil)) (gName 6) (tTurn K c Ed))))
theorem ok_cell {u : Nat} {zs : List Str} (hs : SrcB u H a) (hu : u ≤ 100) (hN : H N = some (.lst (zs.map V.str))) (hl : zs.length = 6) (hall : ∀ z ∈ zs, nameB z = true)
    (k : ∀ H' v4' v5' v6' v7' v8' v9', But a H H' → D.nx [v0, v1, some (.ref a), some (.ref N), v4', v5', v6', v7', v8', v9'] H') :
    tCell K c Ed D [v0, v1, some (.ref a), some (.ref N), v4, v5, v6, v7, v8, v9] H := by
  unfold tCell
  refine r_seq (r_asg ?_)
  refine ok_fewG (n := 4) rfl rfl (Nat.le_of_ble_eq_true rfl) (by decide) hs (by omega) hN hl hall fun M ys ms H1 hM gM hm sm ml hs1 b1 => ?_
  refine (show tSeq (q2 K c Ed) (tSeq (q3 K c Ed) _) D [v0, v1, some (.ref a), some (.ref N), some (.ref M), v5, v6, v7, v8, v9] H1 from ?_)
  have hN1 := b1 _ _ (src_strs hs.src hN) hN
  refine ok_q23 hs1 (by omega) hN1 hl hall gM hm sm ml fun H2 e L M' ys' now em nl hL b2 => ?_
  walk_at "rd"
  refine sp_draw em.src (by omega) (by decide) (by decide) fun d H3 d0 d1 hs3 b3 => ?_
  have em3 := em.step hs3 b3
  walk_at "rd"
  refine for_it (walk_range (lo := 0) (n := _)) (fun i σ H' => ∃ (M' : Addr) (ys' : List Addr) (now : List Mem) (past : List (List Mem)) (v6' v7' v8' : Option V), σ = [v0, v1, some (.ref a), some (.ref N), some (.ref M'), some (.ref e), v6', v7', v8', v9] ∧ EM c Ed H' a e L M' N (u + 7000 + 10 + 1 + 9000 * i) ys' now zs past ∧ now.length ≤ 15 ∧ past.length = i ∧ But2 a L H3 H') ?_ (fun _ _ _ _ _ => True.intro) ?_ ?_
  · exact ⟨M', ys', now, [], _, _, _, rfl, em3, by omega, rfl, But2.refl _ _ _⟩
  · rintro i x σ Hc H' hi ⟨M', ys', now, past, v6', v7', v8', rfl, em', nl', pl', b'⟩ ⟨rfl, hx⟩
    have hi8 : i ≤ 8 := by omega
    walk_at "rd"
    have last : ∀ H9, But2 a L H3 H9 → But a H H9 := fun H9 b9 b o nb eo => by
      have g1 := b1 b o nb eo
      have nbL : b ≠ L := fun e' => by rw [e', hL] at g1; cases g1
      exact b9 b o nb nbL (b3 _ _ nb (b2 _ _ nb g1))
    refine ok_turn em' (by omega) nl' (by omega) (fun H9 v7'' e9 => ?_) (fun H9 M9 ys9 now9 v7'' v8'' em9 nl9 b9 => ?_)
    · exact k H9 _ _ _ _ _ _ (last H9 (b'.trans (But2.same e9)))
    · exact ⟨M9, ys9, now9, _, _, _, _, rfl, em9.mono (by omega), nl9, by rw [List.length_append, pl']; rfl, b'.trans b9⟩
  · rintro σ Hc ⟨M', ys', now, past, v6', v7', v8', rfl, em', nl', pl', b'⟩
    walk_at "rd"
    refine k Hc _ _ _ _ _ _ fun b o nb eo => ?_
    have g1 := b1 b o nb eo
    have nbL : b ≠ L := fun e' => by rw [e', hL] at g1; cases g1
    exact b' b o nb nbL (b3 _ _ nb (b2 _ _ nb g1))
end
/-! ### the law -/
theorem zeros_lst : (List.replicate (1024 : Int).toNat [V.int 0]).flatten = (nL (List.replicate 1024 0)).map V.int := by decide +kernel
theorem arch_nil : arch [] = List.replicate 1024 0 := by
  unfold arch
  rw [List.flatMap_nil, List.nil_append]
section
variable {P : Program} {w : World} {K : PySem.W.Frag} {mg : Str → Option Value} {base : Heap}
def spLaw (K : PySem.W.Frag) : Sp := fun vs H Q _ => ∃ (a : Addr) (ns : List Int), vs = [.ref a] ∧ SqL K H a (ns.map V.int) ∧ ns.length ≤ 63 ∧ ∀ H', Q (.bl true) H'
theorem ok_law {f Ed : Addr} {fd : FuncData} {c : Cs} (F : Fun K "law" "law" s_law f fd) (m1 : mg "range" = none) (m2 : mg "max" = none) (m3 : mg "min" = none) (m4 : mg "len" = none) (m5 : mg "list" = none) (m_Editor : mg "Editor" = some (.ref Ed)) (hLf : LimF K Ed)
    (c_source : CalT P w K mg base 2 "_law_source" (spSource K)) (c_draw : CalT P w K mg base 2 "_law_draw" spDraw) (c_names : CalT P w K mg base 4 "_law_names" spNames) (c_few : CalT P w K mg base 5 "_law_few" spFew) (c_made : CalT P w K mg base 8 "_law_made" (spMadeT c)) (c_written : CalT P w K mg base 7 "written" (spWrA K c))
    (c_edit : CalT P w K mg base 13 "_law_edit" (spEdit c Ed)) (c_lwritten : CalT P w K mg base 3 "_law_written" spLWr) (c_right : CalT P w K mg base 11 "_law_right" (spRight c Ed)) (mk0_Editor : Mk0T P w K mg base 2 "Editor" Ed (spEInit c Ed))
    (m_archive : PropT P w K mg base 8 Ed "archive" (spEArch c Ed)) (m_elen : MethT P w K mg base 2 Ed "__len__" (spELen c Ed)) (c_of : CMetT P w K mg base 14 Ed "of" ["cls", "data"] (spEOf c Ed)) :
    FnG P w K mg base 15 f fd ["_law_script"] (spLaw K) := by
  refine Fun.okG (k := 14) F sc_law (fun vs H Q E h => ?_) (fun cdv A outer s H vs Q E hr gd0 h => ?_)
  · obtain ⟨a, ns, rfl, _⟩ := h
    rfl
  · obtain ⟨a, ns, rfl, hS, hz, q⟩ := h
    have hu := hu_of hr
    have hu64 : (A.deeper (envOfC "law" (defScope s_law) s.heap.objs.size f cdv)).units + 64 < cLine := by have := hr.un; omega
    have nd := sc_law.nd
    have hml : (ns.map V.int).length = ns.length := List.length_map ..
    refine ⟨_, (pss_cons (ps_for PassesOwn.never rfl (pi_range1 (by rfl) (by assumption) (pa_cons (pe_callB call_rMax2 (by rfl) (by assumption) (by decide +kernel) (pa_cons pe_int (pa_cons (pe_callB call_rMin2 (by rfl) (by assumption) (by decide +kernel) (pa_cons pe_int (pa_cons (pe_callB (call_lenK K) (by rfl) (by assumption) (by decide +kernel) (pa_cons (pv 0) pa_nil)) pa_nil))) pa_nil))) pa_nil)) (pg_name (i := 1) nd rfl (Or.inl rfl))
        (pss_cons (ps_set (i := 2) nd rfl (Or.inl rfl) (pe_cc c_source hr (by omega) (by rfl) (pa_cons (pv 0) (pa_cons (pv 1) pa_nil))))
      (pss_cons (ps_set (i := 3) nd rfl (Or.inl rfl) (pe_cc c_names hr (by omega) (by rfl) (pa_cons (pv 2) pa_nil)))
      (pss_cons (ps_setLc (i := 4) (own := [("_law_spec_here", 9)]) (g := (gName 9)) (tt := tYes) rfl nd rfl rfl (sw_true rfl rfl rfl (by decide +kernel)) (pi_list (pe_cc c_few hr (by omega) (by rfl) (pa_cons (pv 2) (pa_cons (pv 3) (pa_cons pe_int pa_nil))))) (blkOk_by (N := N_law) (sc := defScope s_law) (by decide +kernel)) (fun _ _ _ _ _ => (pg_name (i := 9) nd rfl (Or.inl rfl))) (fun _ _ _ _ _ => pts_nil) (fun _ _ _ _ _ => (pe_cc c_made hr (by omega) (by rfl) (pa_cons (pv 9) pa_nil))))
      (pss_cons (ps_set (i := 5) nd rfl (Or.inl rfl) (pe_ifExp (pt_cmpR op_eq (pe_cc c_draw hr (by omega) (by rfl) (pa_cons (pv 2) (pa_cons pe_int pa_nil))) pe_int (nomark _)) (pe_cmetT c_of hr (by omega) (pe_glob (v := .ref Ed) (by rfl) m_Editor (by first | exact rfl | exact ⟨_, rfl⟩)) (pa_cons (pe_cc c_written hr (by omega) (by rfl) (pa_cons (pv 4) pa_nil)) pa_nil)) (pe_mk0 mk0_Editor hr (by omega) (by rfl))))
      (pss_cons (ps_set (i := 4) nd rfl (Or.inl rfl) (pe_ifExp (pt_cmpR op_gt (pe_callB (call_lenO m_elen hr (by omega)) (by rfl) (by assumption) (by decide +kernel) (pa_cons (pv 5) pa_nil)) pe_int (nomark _)) (pv 4) (pe_lst pa_nil)))
      (pss_one (ps_for PassesOwn.never rfl (pi_range1 (by rfl) (by assumption) (pa_cons (pe_op op_add pe_int (pe_cc c_draw hr (by omega) (by rfl) (pa_cons (pv 2) (pa_cons pe_int pa_nil)))) pa_nil)) (pg_name (i := 6) nd rfl (Or.inl rfl))
        (pss_cons (ps_set (i := 7) nd rfl (Or.inl rfl) (pe_propT m_archive hr (by omega) (pv 5)))
      (pss_cons (ps_if (pt_cmpR op_gt (pe_callB (call_lenK K) (by rfl) (by assumption) (by decide +kernel) (pa_cons (pv 4) pa_nil)) pe_int (nomark _))
        (pss_one ps_break)
        pss_nil)
      (pss_cons (ps_asg (pe_cc c_edit hr (by omega) (by rfl) (pa_cons (pv 2) (pa_cons (pv 5) (pa_cons (pv 4) (pa_cons (pv 3) pa_nil))))) (pg_tupK K (pg_tup rfl (pgs_cons (pg_name (i := 8) nd rfl (Or.inl rfl)) (pgs_cons (pg_name (i := 4) nd rfl (Or.inl rfl)) pgs_nil)))))
      (pss_cons (ps_if (PW.pt (pw_or (pt_cmpR (op_neIntsK K (hr.mono (by omega))) (pv 8) (pe_cc c_lwritten hr (by omega) (by rfl) (pa_cons (pv 7) (pa_cons (pe_propT m_archive hr (by omega) (pv 5)) pa_nil))) (nomark _)) (pw_or1 (pt_not (pt_val (pe_cc c_right hr (by omega) (by rfl) (pa_cons (pv 5) (pa_cons (pv 4) pa_nil))))))))
        (pss_one (ps_ret pe_bl))
        pss_nil)
      (pss_cons (ps_expr (pe_bm PySem.F.plainAttrs_list PySem.F.slot_list_append PySem.F.type_list_append mt_append (pv 8) (pa_cons pe_non pa_nil)))
      (pss_one (ps_if (pt_not (pt_val (pe_cc c_right hr (by omega) (by rfl) (pa_cons (pv 5) (pa_cons (pv 4) pa_nil)))))
        (pss_one (ps_ret pe_bl))
        pss_nil)))))))))))))))
      (pss_one (ps_ret (pe_and (pe_cmpR op_eq (pe_cvalN K (pe_glob (v := .ref Ed) (by rfl) m_Editor (by first | exact rfl | exact ⟨_, rfl⟩))) pe_int (nomark _)) (pe_one (pe_cmpR (op_eqD hu64) (pe_callTy call_listBN (by rfl) (by assumption) (by decide +kernel) (pa_cons (pe_propT m_archive hr (by omega) (pe_mk0 mk0_Editor hr (by omega) (by rfl))) pa_nil)) (pe_op op_rep (pe_lst (pa_cons pe_int pa_nil)) pe_int) (nomark _))))))), ?_⟩
    walk_at "rd"
    refine for_it (walk_range (lo := 0) (n := _)) (fun i σ H' => ∃ v1 v2 v3 v4 v5 v6 v7 v8 v9 : Option V, σ = [some (.ref a), v1, v2, v3, v4, v5, v6, v7, v8, v9] ∧ Same H H') ?_ (fun _ _ _ _ _ => True.intro) ?_ ?_
    · exact ⟨_, _, _, _, _, _, _, _, _, rfl, Same.refl _⟩
    · rintro i x σ Hc H' hi ⟨v1, v2, v3, v4, v5, v6, v7, v8, v9, rfl, eH⟩ ⟨rfl, hx⟩
      simp only [Int.zero_add] at hx
      subst hx
      have hi4 : i ≤ 63 := by
        revert hi
        split
        · split <;> omega
        · omega
      iterate 9 walk_at "rd2"
      refine sp_source (eH.seq hS) hz hi4 (fun p H1 hp e1 hs1 => ?_)
      have hpH : H p = none := eH.free hp
      have eH1 := eH.trans e1
      walk_at "rd"
      refine ⟨p, 0, rfl, hs1, by decide, fun N zs H2 hN gN hl hall hs2 b2 => ?_⟩
      walk_at "rd1"
      refine (show tCell K c Ed _ _ _ from ok_cell hs2 (by omega) gN hl hall fun H3 v4 v5 v6 v7 v8 v9 hb3 => ?_)
      exact ⟨_, _, _, _, _, _, _, _, _, rfl, fun b o eb => hb3 _ _ (ne_of_none eb hpH) (b2 _ _ (ne_of_none eb hpH) (eH1 _ _ eb))⟩
    · rintro σ Hc ⟨v1, v2, v3, v4, v5, v6, v7, v8, v9, rfl, eH⟩
      walk_at "rd"
      obtain ⟨mc, u9, h1, h2⟩ := hLf.ex
      refine r_cval ?_
      walk_at "rd"
      refine ⟨Ed, mc, _, u9, rfl, h1, h2, ?_⟩
      walk_at "rd"
      rw [dec_intV, decide_eq_true rfl]
      walk_at "rd"
      refine r_prop ?_
      refine ok_newEd fun e L H1 he hL e1 hE => ?_
      obtain ⟨⟨de, g1⟩, _⟩ := id hE
      refine ⟨e, de, _, rfl, g1, e, L, [], [], rfl, hE, by decide, by decide, fun H2 e2 => ?_⟩
      walk_at "rd"
      rw [arch_nil]
      refine r_listB (fun x hx => by rw [List.eq_of_mem_replicate hx]; decide) (by rw [List.length_replicate]; decide) fun p H3 hp e3 gp => ?_
      walk_at "rd"
      refine r_eqNd (xs := List.replicate 1024 0) (ys := List.replicate 1024 0) ((gp.same (same_new (by assumption))).same (same_new (by assumption))) ?_ ?_
      · show upd _ _ _ _ = _
        rw [upd_same, zeros_lst]
      rw [decide_eq_true rfl]
      exact q _
end
structure KindF (K : PySem.W.Frag) (C : Addr) (z : Str) : Prop where
  ex : ∃ mc u, ClX.CRead K C mc ∧ ClX.CVal K C mc "KIND" (.str z) u
/-! ### what the top has written -/
structure DefF (K : PySem.W.Frag) (x : Str) (st : Stmt) (f : Addr) : Prop where
  ns : PySem.W.nsIn K mainGlobals x = some (some (.ref f))
  fn : ∃ (oc : Value) (od an : Option Addr) (kV doc pm cdv ct : Value) (osl : Array (Option Value)), K.lookup f = some ⟨oc, od, .func (PySem.W.fnOf x x (defArgs st) (defBody st) (defScope st) .none kV doc pm an cdv ct), osl⟩ ∧ PySem.W.codeIn K cdv x = true
  kp : PySem.W.keepIn K (.ref f) = true
theorem DefF.fun_ {K : PySem.W.Frag} {x : Str} {st : Stmt} {f : Addr} (d : DefF K x st f) : ∃ fd, Fun K x x st f fd := by
  obtain ⟨oc, od, an, kV, doc, pm, cdv, ct, osl, l, c⟩ := d.fn
  exact ⟨_, fun_mk l c d.kp⟩
section
variable {P : Program} {w : World} {K : PySem.W.Frag} {mg : Str → Option Value} {base : Heap}
theorem cal_mk {h : Heap} {x : Str} {st : Stmt} {f : Addr} {ps : List Str} {k : Nat} {sp : Sp} (X : K.In h) (G : h.Ns mainGlobals mg) (d : DefF K x st f)
    (hb : ∀ (kV doc pm : Value) (an : Option Addr) (cdv ct : Value) (us : List Value), us.length = ps.length → bindArgs (PySem.W.fnOf x x (defArgs st) (defBody st) (defScope st) .none kV doc pm an cdv ct) ⟨us, []⟩ = pure (ps.zip us))
    (ok : ∀ fd, Fun K x x st f fd → FnOk P w K mg base CX0 k f fd ps sp) : CalT P w K mg base k x sp := by
  obtain ⟨fd, F⟩ := d.fun_
  exact ⟨f, fd, ps, ok fd F, PySem.W.mg_of X G d.ns, d.kp, F.binds hb⟩
end
/-! ### classes with a KIND, as the top leaves them -/
structure ClsF (K : PySem.W.Frag) (x kind : Str) (C aM fI : Addr) (attrs : List Str) : Prop where
  ns : PySem.W.nsIn K mainGlobals x = some (some (.ref C))
  cl : Cls K C
  mkk : Mk K C fI
  cf : CF K C aM kind
  kind : KindF K C kind
  na : ∀ f ∈ attrs, NoAttr K C f
theorem clsF_mk {K : PySem.W.Frag} {x kind : Str} {C aM fI : Addr} {r : List Str} {t : Tok} (ns : PySem.W.nsIn K mainGlobals x = some (some (.ref C)))
    (pg : PySem.W.plainGet K C Str.empty = true) (hd : PySem.W.hasDictIn K C = true) (po : PySem.W.plainOver K C = true) (sa : PySem.W.findIn K (.ref C) "__setattr__" = some (some (.builtin "object.__setattr__")))
    (mk : PySem.W.makesIn K C = true) (ini : PySem.W.findIn K (.ref C) "__init__" = some (some (.ref fI))) (ifn : PySem.W.isFn K (.ref fI) = true) (kp : PySem.W.keepIn K (.ref C) = true)
    (ha : PySem.W.findIn K (.ref C) "__class__" = some (some (.builtin "object.__class__"))) (hm : PySem.W.mroIn K C (.type "object") = some true) (kit : PySem.W.kitOne K (.ref C) (.ref aM) = some true)
    (kat : PySem.W.findIn K (.ref C) "KIND" = some (some (.str kind t))) (kget : PySem.W.specialIn K (.str kind t) "__get__" = some none) (krd : PySem.W.readsIn K C (.type "type") = true)
    (kga : PySem.W.specialIn K (.ref C) "__getattribute__" = some (some (.builtin "type.__getattribute__"))) (kcl : PySem.W.findCls K (.ref C) (.type "type") "KIND" = some (.val (.str kind t)))
    (hn : PySem.W.specialIn K (.builtin "object.__class__") "__get__" = some (some (.builtin "getset_descriptor.__get__"))) (htk : PySem.W.takesIn K (.builtin "object.__class__") = some true)
    (na : ∀ f ∈ ("name" :: "mode" :: "time" :: r : List Str), PySem.W.findIn K (.ref C) f = some none) : ClsF K x kind C aM fI ("name" :: "mode" :: "time" :: r) :=
  ⟨ns, ⟨pg, hd, po, sa⟩, ⟨mk, ini, ifn, kp⟩, ⟨⟨pg, hd, po, sa⟩, ha, hn, htk, hm, kit, ⟨_, kat, ⟨t, rfl⟩, kget, by decide⟩, na _ (by simp), na _ (by simp), na _ (by simp)⟩, ⟨_, _, ⟨krd, kga⟩, ⟨kcl, ⟨t, rfl⟩⟩⟩, na⟩
structure IniF (K : PySem.W.Frag) (qual : Str) (st : Stmt) (b : Int) (f : Addr) : Prop where
  ex : ∃ (oc : Value) (od : Option Addr) (D : Addr) (doc pm : Value) (an : Option Addr) (cdv ct : Value) (osl : Array (Option Value)) (t1 t2 : Tok),
    K.lookup f = some ⟨oc, od, .func (PySem.W.fnOf "__init__" qual (defArgs st) (defBody st) (defScope st) .none (.ref D) doc pm an cdv ct), osl⟩ ∧ PySem.W.codeIn K cdv qual = true ∧ PySem.W.nsIn K D "mode" = some (some (.int b t1)) ∧ PySem.W.nsIn K D "time" = some (some (.int 0 t2))
  kp : PySem.W.keepIn K (.ref f) = true
theorem iniF_mk {K : PySem.W.Frag} {qual : Str} {st : Stmt} {b : Int} {f : Addr} {oc : Value} {od : Option Addr} {D : Addr} {doc pm : Value} {an : Option Addr} {cdv ct : Value} {osl : Array (Option Value)} {t1 t2 : Tok}
    (il : K.lookup f = some ⟨oc, od, .func (PySem.W.fnOf "__init__" qual (defArgs st) (defBody st) (defScope st) .none (.ref D) doc pm an cdv ct), osl⟩) (ic : PySem.W.codeIn K cdv qual = true) (ik : PySem.W.keepIn K (.ref f) = true)
    (i1 : PySem.W.nsIn K D "mode" = some (some (.int b t1))) (i2 : PySem.W.nsIn K D "time" = some (some (.int 0 t2))) : IniF K qual st b f := ⟨⟨oc, od, D, doc, pm, an, cdv, ct, osl, t1, t2, il, ic, i1, i2⟩, ik⟩
theorem IniF.fun_ {K : PySem.W.Frag} {qual : Str} {st : Stmt} {b : Int} {f : Addr} (d : IniF K qual st b f) : ∃ fd, FunD K "__init__" qual (defArgs st) (defBody st) (defScope st) [] [("mode", .int b), ("time", .int 0)] f fd := by
  obtain ⟨oc, od, D, doc, pm, an, cdv, ct, osl, t1, t2, il, ic, i1, i2⟩ := d.ex
  refine ⟨_, ⟨oc, od, .none, .ref D, doc, pm, an, cdv, ct, osl, rfl, il, ic, .inl ⟨rfl, rfl⟩, .inr ⟨D, rfl, ?_⟩⟩, d.kp⟩
  intro q hq
  simp only [List.mem_cons, List.not_mem_nil, or_false] at hq
  rcases hq with rfl | rfl
  · exact ⟨_, i1, ⟨_, rfl⟩⟩
  · exact ⟨_, i2, ⟨_, rfl⟩⟩
structure MetF (K : PySem.W.Frag) (C : Addr) (m qual : Str) (st : Stmt) (f : Addr) : Prop where
  me : Meth K C m f
  fn : ∃ (oc : Value) (od an : Option Addr) (kV doc pm cdv ct : Value) (osl : Array (Option Value)), K.lookup f = some ⟨oc, od, .func (PySem.W.fnOf m qual (defArgs st) (defBody st) (defScope st) .none kV doc pm an cdv ct), osl⟩ ∧ PySem.W.codeIn K cdv qual = true
theorem MetF.meth {P : Program} {w : World} {K : PySem.W.Frag} {mg : Str → Option Value} {base : Heap} {C : Addr} {m qual : Str} {st : Stmt} {f : Addr} {k : Nat} {sp : Sp} (t : MetF K C m qual st f) (hc : Cls K C) (ok : ∀ fd, Fun K m qual st f fd → FnOk P w K mg base CX0 k f fd ["self"] sp)
    (hb : ∀ (kV doc pm : Value) (an : Option Addr) (cdv ct : Value) (us : List Value), us.length = 1 → bindArgs (PySem.W.fnOf m qual (defArgs st) (defBody st) (defScope st) .none kV doc pm an cdv ct) ⟨us, []⟩ = pure ((["self"] : List Str).zip us) := by intro _ _ _ _ _ _ us hl; match us, hl with | [_], _ => rfl) : MethT P w K mg base k C m sp := by
  obtain ⟨oc, od, an, kV, doc, pm, cdv, ct, osl, l, c⟩ := t.fn
  have F := fun_mk l c t.me.kp
  exact ⟨f, _, ok _ F, hc, t.me, F.binds hb⟩
structure HdrF (K : PySem.W.Frag) (f : Addr) : Prop where
  ns : PySem.W.nsIn K mainGlobals "header" = some (some (.ref f))
  ex : ∃ (oc : Value) (od : Option Addr) (D : Addr) (doc pm : Value) (an : Option Addr) (cdv ct : Value) (osl : Array (Option Value)) (t1 t2 t3 t4 : Tok),
    K.lookup f = some ⟨oc, od, .func (PySem.W.fnOf "header" "header" (defArgs s_header) (defBody s_header) (defScope s_header) .none (.ref D) doc pm an cdv ct), osl⟩ ∧ PySem.W.codeIn K cdv "header" = true ∧
    PySem.W.nsIn K D "mode" = some (some (.int 0 t1)) ∧ PySem.W.nsIn K D "size" = some (some (.int 0 t2)) ∧ PySem.W.nsIn K D "time" = some (some (.int 0 t3)) ∧ PySem.W.nsIn K D "target" = some (some (.str "" t4))
  kp : PySem.W.keepIn K (.ref f) = true
theorem hdrF_mk {K : PySem.W.Frag} {f : Addr} {oc : Value} {od : Option Addr} {D : Addr} {doc pm : Value} {an : Option Addr} {cdv ct : Value} {osl : Array (Option Value)} {t1 t2 t3 t4 : Tok} (ns : PySem.W.nsIn K mainGlobals "header" = some (some (.ref f)))
    (l : K.lookup f = some ⟨oc, od, .func (PySem.W.fnOf "header" "header" (defArgs s_header) (defBody s_header) (defScope s_header) .none (.ref D) doc pm an cdv ct), osl⟩) (c : PySem.W.codeIn K cdv "header" = true) (k : PySem.W.keepIn K (.ref f) = true)
    (i1 : PySem.W.nsIn K D "mode" = some (some (.int 0 t1))) (i2 : PySem.W.nsIn K D "size" = some (some (.int 0 t2))) (i3 : PySem.W.nsIn K D "time" = some (some (.int 0 t3))) (i4 : PySem.W.nsIn K D "target" = some (some (.str "" t4))) : HdrF K f :=
  ⟨ns, ⟨oc, od, D, doc, pm, an, cdv, ct, osl, t1, t2, t3, t4, l, c, i1, i2, i3, i4⟩, k⟩
theorem HdrF.fun_ {K : PySem.W.Frag} {f : Addr} (d : HdrF K f) : ∃ fd, Fun K "header" "header" s_header f fd ∧ FunD K "header" "header" (defArgs s_header) (defBody s_header) (defScope s_header) [] [("mode", .int 0), ("size", .int 0), ("time", .int 0), ("target", .str "")] f fd := by
  obtain ⟨oc, od, D, doc, pm, an, cdv, ct, osl, t1, t2, t3, t4, l, c, i1, i2, i3, i4⟩ := d.ex
  refine ⟨_, fun_mk l c d.kp, ⟨⟨oc, od, .none, .ref D, doc, pm, an, cdv, ct, osl, rfl, l, c, .inl ⟨rfl, rfl⟩, .inr ⟨D, rfl, ?_⟩⟩, d.kp⟩⟩
  intro q hq
  simp only [List.mem_cons, List.not_mem_nil, or_false] at hq
  rcases hq with rfl | rfl | rfl | rfl
  · exact ⟨_, i1, ⟨_, rfl⟩⟩
  · exact ⟨_, i2, ⟨_, rfl⟩⟩
  · exact ⟨_, i3, ⟨_, rfl⟩⟩
  · exact ⟨_, i4, ⟨_, rfl⟩⟩
theorem hsF_rel {vs mz zs : List V} {us mv ws : List Value} (r1 : Vals vs us) (r2 : Vals mz mv) (r3 : Vals zs ws) : Vals (hsF vs mz zs) (hsF us mv ws) := by
  cases r1 with
  | nil => exact .nil
  | cons a r1 => cases r1 with
    | nil => exact .nil
    | cons b r1 => cases r1 with
      | cons _ _ => exact .nil
      | nil => cases r2 with
        | nil => exact .nil
        | cons m r2 => cases r2 with
          | nil => exact .nil
          | cons t r2 => cases r2 with
            | nil => exact .nil
            | cons g r2 => cases r2 with
              | cons _ _ => exact .nil
              | nil => cases r3 with
                | nil => exact .nil
                | cons s r3 => cases r3 with
                  | cons _ _ => exact .nil
                  | nil => exact .cons a (.cons b (.cons m (.cons s (.cons t (.cons g .nil)))))
/-- a def that stands in the module under another name -/
structure DefA (K : PySem.W.Frag) (x n : Str) (st : Stmt) (f : Addr) : Prop where
  ns : PySem.W.nsIn K mainGlobals x = some (some (.ref f))
  fn : ∃ (oc : Value) (od an : Option Addr) (kV doc pm cdv ct : Value) (osl : Array (Option Value)), K.lookup f = some ⟨oc, od, .func (PySem.W.fnOf n n (defArgs st) (defBody st) (defScope st) .none kV doc pm an cdv ct), osl⟩ ∧ PySem.W.codeIn K cdv n = true
  kp : PySem.W.keepIn K (.ref f) = true
/-- a def with keyword-only parameters that have defaults -/
structure KwF (K : PySem.W.Frag) (x : Str) (st : Stmt) (kws : List (Str × V)) (f : Addr) : Prop where
  ns : PySem.W.nsIn K mainGlobals x = some (some (.ref f))
  kp : PySem.W.keepIn K (.ref f) = true
  fn : ∃ (oc : Value) (od an : Option Addr) (D : Addr) (doc pm cdv ct : Value) (osl : Array (Option Value)), K.lookup f = some ⟨oc, od, .func (PySem.W.fnOf x x (defArgs st) (defBody st) (defScope st) .none (.ref D) doc pm an cdv ct), osl⟩ ∧ PySem.W.codeIn K cdv x = true ∧ ∀ q ∈ kws, ∃ u, PySem.W.nsIn K D q.1 = some (some u) ∧ RelV q.2 u
theorem KwF.fun_ {K : PySem.W.Frag} {x : Str} {st : Stmt} {kws : List (Str × V)} {f : Addr} (d : KwF K x st kws f) : ∃ fd, Fun K x x st f fd ∧ FunD K x x (defArgs st) (defBody st) (defScope st) [] kws f fd := by
  obtain ⟨oc, od, an, D, doc, pm, cdv, ct, osl, l, c, hq⟩ := d.fn
  exact ⟨_, fun_mk l c d.kp, ⟨⟨oc, od, .none, .ref D, doc, pm, an, cdv, ct, osl, rfl, l, c, .inl ⟨rfl, rfl⟩, .inr ⟨D, rfl, hq⟩⟩, d.kp⟩⟩
/-- a class of the program without a KIND -/
structure CdF (K : PySem.W.Frag) (x : Str) (C fI : Addr) (attrs : List Str) : Prop where
  ns : PySem.W.nsIn K mainGlobals x = some (some (.ref C))
  cl : Cls K C
  mkk : Mk K C fI
  na : ∀ f ∈ attrs, PySem.W.findIn K (.ref C) f = some none
section
variable {P : Program} {w : World} {K : PySem.W.Frag} {mg : Str → Option Value} {base : Heap}
theorem cala_mk {h : Heap} {x n : Str} {st : Stmt} {f : Addr} {ps : List Str} {k : Nat} {sp : Sp} (X : K.In h) (G : h.Ns mainGlobals mg) (d : DefA K x n st f)
    (hb : ∀ (kV doc pm : Value) (an : Option Addr) (cdv ct : Value) (us : List Value), us.length = ps.length → bindArgs (PySem.W.fnOf n n (defArgs st) (defBody st) (defScope st) .none kV doc pm an cdv ct) ⟨us, []⟩ = pure (ps.zip us))
    (ok : ∀ fd, Fun K n n st f fd → FnOk P w K mg base CX0 k f fd ps sp) : CalT P w K mg base k x sp := by
  obtain ⟨oc, od, an, kV, doc, pm, cdv, ct, osl, l, c⟩ := d.fn
  have F := fun_mk l c d.kp
  exact ⟨f, _, ps, ok _ F, PySem.W.mg_of X G d.ns, d.kp, F.binds hb⟩
theorem MetF.metA {C : Addr} {m qual : Str} {st : Stmt} {f : Addr} {ps : List Str} {k : Nat} {sp : Sp} (t : MetF K C m qual st f) (hc : Cls K C)
    (hb : ∀ (kV doc pm : Value) (an : Option Addr) (cdv ct : Value) (us : List Value), us.length = ps.length → bindArgs (PySem.W.fnOf m qual (defArgs st) (defBody st) (defScope st) .none kV doc pm an cdv ct) ⟨us, []⟩ = pure (ps.zip us))
    (ok : ∀ fd, Fun K m qual st f fd → FnOk P w K mg base CX0 k f fd ps sp) : MetA P w K mg base k C m ps sp := by
  obtain ⟨oc, od, an, kV, doc, pm, cdv, ct, osl, l, c⟩ := t.fn
  have F := fun_mk l c t.me.kp
  exact ⟨f, _, ok _ F, hc, t.me, F.binds hb⟩
theorem maks0 {h : Heap} {x qual : Str} {st : Stmt} {C f : Addr} {ps : List Str} {n k : Nat} {sp : Sp} (X : K.In h) (G : h.Ns mainGlobals mg) (ns : PySem.W.nsIn K mainGlobals x = some (some (.ref C))) (mk : Mk K C f) (t : MetF K C "__init__" qual st f) (hn : ps.length = n)
    (hb : ∀ (kV doc pm : Value) (an : Option Addr) (cdv ct : Value) (us : List Value), us.length = ps.length → bindArgs (PySem.W.fnOf "__init__" qual (defArgs st) (defBody st) (defScope st) .none kV doc pm an cdv ct) ⟨us, []⟩ = pure (ps.zip us))
    (ok : ∀ fd, Fun K "__init__" qual st f fd → FnOk P w K mg base CX0 k f fd ps sp) : MakS P w K mg base k x C [] (fun vs zs H Q => vs.length = n ∧ ∀ E, sp (vs ++ zs) H Q E) := by
  obtain ⟨oc, od, an, kV, doc, pm, cdv, ct, osl, l, c⟩ := t.fn
  have F := fun_mk l c t.me.kp
  have B : Binds K _ ps [] := F.binds hb
  refine ⟨f, mk, fnS_of (ok _ F) ⟨fun s us ws hk h1 h2 => ?_, fun r1 r2 => r1.append r2⟩, PySem.W.mg_of X G ns⟩
  cases ws with
  | cons w ws => cases h2
  | nil => exact B s us hk (by simp [h1, hn])
theorem eqT_mk {C : Addr} {qual : Str} {st : Stmt} {f : Addr} {k : Nat} {R : Addr → Addr → Hp → Bool → Prop} (e : EqF K C f) (t : MetF K C "__eq__" qual st f) (ok : ∀ fd, Fun K "__eq__" qual st f fd → FnOk P w K mg base CX0 k f fd ["self", "other"] (spEqM K C R))
    (hb : ∀ (kV doc pm : Value) (an : Option Addr) (cdv ct : Value) (us : List Value), us.length = 2 → bindArgs (PySem.W.fnOf "__eq__" qual (defArgs st) (defBody st) (defScope st) .none kV doc pm an cdv ct) ⟨us, []⟩ = pure ((["self", "other"] : List Str).zip us) := by intro _ _ _ _ _ _ us hl; match us, hl with | [_, _], _ => rfl) : EqT P w K mg base k C R := by
  obtain ⟨oc, od, an, kV, doc, pm, cdv, ct, osl, l, c⟩ := t.fn
  have F := fun_mk l c t.me.kp
  exact ⟨f, e, (FnOk.raw (ok _ F) (F.binds hb) .nil).imp fun vs H Q E h => by rw [List.append_nil]; exact h⟩
end
structure LmF (K : PySem.W.Frag) (C : Addr) : Prop where
  con : ∃ u, Con K C "LIMIT" (.int 100) u
  lim : LimF K C
structure CmF (K : PySem.W.Frag) (C : Addr) (m qual : Str) (st : Stmt) (p g : Addr) : Prop where
  rd : ClX.CRead K C (.type "type")
  cm : ClX.CMet K C (.type "type") m p g
  fg : ∃ (oc : Value) (od an : Option Addr) (kV doc pm cdv ct : Value) (osl : Array (Option Value)), K.lookup g = some ⟨oc, od, .func (PySem.W.fnOf m qual (defArgs st) (defBody st) (defScope st) .none kV doc pm an cdv ct), osl⟩ ∧ PySem.W.codeIn K cdv qual = true
  kg : PySem.W.keepIn K (.ref g) = true
section
variable {P : Program} {w : World} {K : PySem.W.Frag} {mg : Str → Option Value} {base : Heap}
theorem all_mk {l : PySem.W.OpenLaw} {w : World} {K : PySem.W.Frag} {h : Heap} {mg : Str → Option Value} {fa f_law f_is_integer f_is_integer_within f_is_row_of_bytes f_blob f_is_name f__law_source f__law_draw f__law_path f__law_numbers f__law_stamps f__law_names f__law_pieces f__law_spec f__law_few f_check_name f_is_data f_is_size f_is_mode f_is_time f_check_mode_and_time f_is_piece f_are_spans f_are_pieces f_check_pieces f_text_field f_octal_field f_checksum f_checksum_field f_padded f_target_of f_map_block f_stored_bytes f_long_part f_packed f_text_in f_number_in f_is_right_name f_is_right_kind f_is_right_target f_wrong_field f_read_map f_cut f_check_source f_check_end f_read f__law_made f_copy_of f_written f_check_members f_changed_blocks f__law_add f__law_edit f__law_blocks f__law_written f_blocks_of f__law_right f_check_data_members f_check_data_reading f_header aM aF aS aD aY aL fIF fIS fID fIY fIL aKC aSZ aLK aBL aTK aHd iHeading aSc iScanner mScanner_is_over mScanner_wrong_stored mScanner_member_of mScanner_ended mScanner_take_stored mScanner_take_header mScanner_take_block mScanner_take aE iEditor mEditor___len__ p_Editor_archive g_Editor_archive p_Editor_members g_Editor_members p_Editor_offsets g_Editor_offsets mEditor_edit mEditor_check_index mEditor_take_out mEditor_exchange mEditor_add pOf gOf fEF fES fED fEY fEL : Addr} {t_MOST_CHARACTERS t_NAME_CHARACTERS t_MOST_BYTES t_LAST_MODE t_LAST_TIME t_MOST_PIECES t_TEXT_SIZE t_BLOCK_SIZE t_MAGIC t_REST_SIZE t_LONG_NAME t_MAP_BYTES t_END_SIZE u0 u1 u2 u3 u4 : Tok} {es : Array DictEntry} {nes : Nat} (X : K.In h) (G : h.Ns mainGlobals mg) (hfa : mg "law" = some (.ref fa))
    (d_law : DefF K "law" s_law f_law)
    (d_is_integer : DefF K "is_integer" s_is_integer f_is_integer)
    (d_is_integer_within : DefF K "is_integer_within" s_is_integer_within f_is_integer_within)
    (d_is_row_of_bytes : DefF K "is_row_of_bytes" s_is_row_of_bytes f_is_row_of_bytes)
    (d_blob : DefF K "blob" s_blob f_blob)
    (d_is_name : DefF K "is_name" s_is_name f_is_name)
    (d__law_source : DefF K "_law_source" s__law_source f__law_source)
    (d__law_draw : DefF K "_law_draw" s__law_draw f__law_draw)
    (d__law_path : DefF K "_law_path" s__law_path f__law_path)
    (d__law_numbers : DefF K "_law_numbers" s__law_numbers f__law_numbers)
    (d__law_stamps : DefF K "_law_stamps" s__law_stamps f__law_stamps)
    (d__law_names : DefF K "_law_names" s__law_names f__law_names)
    (d__law_pieces : DefF K "_law_pieces" s__law_pieces f__law_pieces)
    (d__law_spec : DefF K "_law_spec" s__law_spec f__law_spec)
    (d__law_few : DefF K "_law_few" s__law_few f__law_few)
    (d_check_name : DefF K "check_name" s_check_name f_check_name)
    (d_is_data : DefF K "is_data" s_is_data f_is_data)
    (d_is_size : DefF K "is_size" s_is_size f_is_size)
    (d_is_mode : DefF K "is_mode" s_is_mode f_is_mode)
    (d_is_time : DefF K "is_time" s_is_time f_is_time)
    (d_check_mode_and_time : DefF K "check_mode_and_time" s_check_mode_and_time f_check_mode_and_time)
    (d_is_piece : DefF K "is_piece" s_is_piece f_is_piece)
    (d_are_spans : DefF K "are_spans" s_are_spans f_are_spans)
    (d_are_pieces : DefF K "are_pieces" s_are_pieces f_are_pieces)
    (d_check_pieces : DefF K "check_pieces" s_check_pieces f_check_pieces)
    (d_text_field : DefF K "text_field" s_text_field f_text_field)
    (d_octal_field : DefF K "octal_field" s_octal_field f_octal_field)
    (d_checksum : DefF K "checksum" s_checksum f_checksum)
    (d_checksum_field : DefF K "checksum_field" s_checksum_field f_checksum_field)
    (d_padded : DefF K "padded" s_padded f_padded)
    (d_target_of : DefF K "target_of" s_target_of f_target_of)
    (d_map_block : DefF K "map_block" s_map_block f_map_block)
    (d_stored_bytes : DefF K "stored_bytes" s_stored_bytes f_stored_bytes)
    (d_long_part : DefF K "long_part" s_long_part f_long_part)
    (d_packed : DefF K "packed" s_packed f_packed)
    (d_text_in : DefF K "text_in" s_text_in f_text_in)
    (d_number_in : DefF K "number_in" s_number_in f_number_in)
    (d_is_right_name : DefF K "is_right_name" s_is_right_name f_is_right_name)
    (d_is_right_kind : DefF K "is_right_kind" s_is_right_kind f_is_right_kind)
    (d_is_right_target : DefF K "is_right_target" s_is_right_target f_is_right_target)
    (d_wrong_field : DefF K "wrong_field" s_wrong_field f_wrong_field)
    (d_read_map : DefF K "read_map" s_read_map f_read_map)
    (d_cut : DefF K "cut" s_cut f_cut)
    (d_check_source : DefF K "check_source" s_check_source f_check_source)
    (d_check_end : DefF K "check_end" s_check_end f_check_end)
    (d_read : DefF K "read" s_read f_read)
    (d__law_made : DefF K "_law_made" s__law_made f__law_made)
    (d_copy_of : DefF K "copy_of" s_copy_of f_copy_of)
    (d_written : DefF K "written" s_written f_written)
    (d_check_members : DefF K "check_members" s_check_members f_check_members)
    (d_changed_blocks : DefF K "changed_blocks" s_changed_blocks f_changed_blocks)
    (d__law_add : DefF K "_law_add" s__law_add f__law_add)
    (d__law_edit : DefF K "_law_edit" s__law_edit f__law_edit)
    (d__law_blocks : DefF K "_law_blocks" s__law_blocks f__law_blocks)
    (d__law_written : DefF K "_law_written" s__law_written f__law_written)
    (d_blocks_of : DefF K "blocks_of" s_blocks_of f_blocks_of)
    (d__law_right : DefF K "_law_right" s__law_right f__law_right)
    (d_check_data_members : DefA K "check_data_members" "check_data" s_check_data_members f_check_data_members)
    (d_check_data_reading : DefA K "check_data_reading" "check_data" s_check_data_reading f_check_data_reading)
    (d_header : HdrF K f_header)
    (n_MOST_CHARACTERS : PySem.W.nsIn K mainGlobals "MOST_CHARACTERS" = some (some (.int 250 t_MOST_CHARACTERS)))
    (n_NAME_CHARACTERS : PySem.W.nsIn K mainGlobals "NAME_CHARACTERS" = some (some (.str NC t_NAME_CHARACTERS)))
    (n_MOST_BYTES : PySem.W.nsIn K mainGlobals "MOST_BYTES" = some (some (.int 4096 t_MOST_BYTES)))
    (n_LAST_MODE : PySem.W.nsIn K mainGlobals "LAST_MODE" = some (some (.int 4095 t_LAST_MODE)))
    (n_LAST_TIME : PySem.W.nsIn K mainGlobals "LAST_TIME" = some (some (.int 8589934591 t_LAST_TIME)))
    (n_MOST_PIECES : PySem.W.nsIn K mainGlobals "MOST_PIECES" = some (some (.int 50 t_MOST_PIECES)))
    (n_TEXT_SIZE : PySem.W.nsIn K mainGlobals "TEXT_SIZE" = some (some (.int 100 t_TEXT_SIZE)))
    (n_BLOCK_SIZE : PySem.W.nsIn K mainGlobals "BLOCK_SIZE" = some (some (.int 512 t_BLOCK_SIZE)))
    (n_MAGIC : PySem.W.nsIn K mainGlobals "MAGIC" = some (some (.bytes #[117, 115, 116, 97, 114, 0, 48, 48] t_MAGIC)))
    (n_REST_SIZE : PySem.W.nsIn K mainGlobals "REST_SIZE" = some (some (.int 247 t_REST_SIZE)))
    (n_LONG_NAME : PySem.W.nsIn K mainGlobals "LONG_NAME" = some (some (.str "././@LongLink" t_LONG_NAME)))
    (n_KIND_CHARACTERS : PySem.W.nsIn K mainGlobals "KIND_CHARACTERS" = some (some (.ref aKC)))
    (n_SIZES : PySem.W.nsIn K mainGlobals "SIZES" = some (some (.ref aSZ)))
    (n_LONG_KINDS : PySem.W.nsIn K mainGlobals "LONG_KINDS" = some (some (.ref aLK)))
    (n_BEHIND_LONG_TARGETS : PySem.W.nsIn K mainGlobals "BEHIND_LONG_TARGETS" = some (some (.ref aBL)))
    (n_TARGET_KINDS : PySem.W.nsIn K mainGlobals "TARGET_KINDS" = some (some (.ref aTK)))
    (n_MAP_BYTES : PySem.W.nsIn K mainGlobals "MAP_BYTES" = some (some (.bytes #[48, 49, 50, 51, 52, 53, 54, 55, 56, 57, 10] t_MAP_BYTES)))
    (n_END_SIZE : PySem.W.nsIn K mainGlobals "END_SIZE" = some (some (.int 1024 t_END_SIZE)))
    (n_Member : PySem.W.nsIn K mainGlobals "Member" = some (some (.ref aM)))
    (hF : ClsF K "File" "file" aF aM fIF ["name", "mode", "time", "data"])
    (iF : IniF K "File.__init__" s_File___init__ 420 fIF)
    (hS : ClsF K "Sparse" "sparse" aS aM fIS ["name", "mode", "time", "size", "pieces"])
    (iS : IniF K "Sparse.__init__" s_Sparse___init__ 420 fIS)
    (hD : ClsF K "Directory" "directory" aD aM fID ["name", "mode", "time"])
    (iD : IniF K "Directory.__init__" s_Directory___init__ 493 fID)
    (hY : ClsF K "Symlink" "symlink" aY aM fIY ["name", "mode", "time", "target"])
    (iY : IniF K "Symlink.__init__" s_Symlink___init__ 511 fIY)
    (hL : ClsF K "Link" "link" aL aM fIL ["name", "mode", "time", "target"])
    (iL : IniF K "Link.__init__" s_Link___init__ 420 fIL)
    (kFF : PySem.W.kitOne K (.ref aF) (.ref aF) = some true)
    (kFS : PySem.W.kitOne K (.ref aF) (.ref aS) = some false)
    (kFY : PySem.W.kitOne K (.ref aF) (.ref aY) = some false)
    (kFL : PySem.W.kitOne K (.ref aF) (.ref aL) = some false)
    (kSF : PySem.W.kitOne K (.ref aS) (.ref aF) = some false)
    (kSS : PySem.W.kitOne K (.ref aS) (.ref aS) = some true)
    (kSY : PySem.W.kitOne K (.ref aS) (.ref aY) = some false)
    (kSL : PySem.W.kitOne K (.ref aS) (.ref aL) = some false)
    (kDF : PySem.W.kitOne K (.ref aD) (.ref aF) = some false)
    (kDS : PySem.W.kitOne K (.ref aD) (.ref aS) = some false)
    (kDY : PySem.W.kitOne K (.ref aD) (.ref aY) = some false)
    (kDL : PySem.W.kitOne K (.ref aD) (.ref aL) = some false)
    (kYF : PySem.W.kitOne K (.ref aY) (.ref aF) = some false)
    (kYS : PySem.W.kitOne K (.ref aY) (.ref aS) = some false)
    (kYY : PySem.W.kitOne K (.ref aY) (.ref aY) = some true)
    (kLF : PySem.W.kitOne K (.ref aL) (.ref aF) = some false)
    (kLS : PySem.W.kitOne K (.ref aL) (.ref aS) = some false)
    (kLY : PySem.W.kitOne K (.ref aL) (.ref aY) = some false)
    (kLL : PySem.W.kitOne K (.ref aL) (.ref aL) = some true)
    (kcl : K.lookup aKC = some ⟨.type "dict", none, .dict es nes, #[]⟩)
    (kck : PySem.W.KeysLit w.params es.toList)
    (kc0 : PySem.W.nsIn K aKC "file" = some (some (.str "0" u0)))
    (kc1 : PySem.W.nsIn K aKC "sparse" = some (some (.str "S" u1)))
    (kc2 : PySem.W.nsIn K aKC "directory" = some (some (.str "5" u2)))
    (kc3 : PySem.W.nsIn K aKC "symlink" = some (some (.str "2" u3)))
    (kc4 : PySem.W.nsIn K aKC "link" = some (some (.str "1" u4)))
    (KF : KdG K w aSZ aLK aTK aBL)
    (hHeading : CdF K "Heading" aHd iHeading ["owner", "group", "mode", "size", "time", "name", "kind", "target"])
    (tHeading___init__ : MetF K aHd "__init__" "Heading.__init__" s_Heading___init__ iHeading)
    (hScanner : CdF K "Scanner" aSc iScanner ["start", "place", "at", "rest", "heading", "stored", "long_name", "long_target", "zeros", "wrong"])
    (tScanner___init__ : MetF K aSc "__init__" "Scanner.__init__" s_Scanner___init__ iScanner)
    (tScanner_is_over : MetF K aSc "is_over" "Scanner.is_over" s_Scanner_is_over mScanner_is_over)
    (tScanner_wrong_stored : MetF K aSc "wrong_stored" "Scanner.wrong_stored" s_Scanner_wrong_stored mScanner_wrong_stored)
    (tScanner_member_of : MetF K aSc "member_of" "Scanner.member_of" s_Scanner_member_of mScanner_member_of)
    (tScanner_ended : MetF K aSc "ended" "Scanner.ended" s_Scanner_ended mScanner_ended)
    (tScanner_take_stored : MetF K aSc "take_stored" "Scanner.take_stored" s_Scanner_take_stored mScanner_take_stored)
    (tScanner_take_header : MetF K aSc "take_header" "Scanner.take_header" s_Scanner_take_header mScanner_take_header)
    (tScanner_take_block : MetF K aSc "take_block" "Scanner.take_block" s_Scanner_take_block mScanner_take_block)
    (tScanner_take : MetF K aSc "take" "Scanner.take" s_Scanner_take mScanner_take)
    (kDD : PySem.W.kitOne K (.ref aD) (.ref aD) = some true)
    (kYD : PySem.W.kitOne K (.ref aY) (.ref aD) = some false)
    (kLD : PySem.W.kitOne K (.ref aL) (.ref aD) = some false)
    (hEditor : CdF K "Editor" aE iEditor ["states"])
    (tEditor___init__ : MetF K aE "__init__" "Editor.__init__" s_Editor___init__ iEditor)
    (lEditor : LmF K aE)
    (tEditor___len__ : MetF K aE "__len__" "Editor.__len__" s_Editor___len__ mEditor___len__)
    (pr_Editor_archive : PrF K aE "archive" "Editor.archive" s_Editor_archive p_Editor_archive g_Editor_archive)
    (pr_Editor_members : PrF K aE "members" "Editor.members" s_Editor_members p_Editor_members g_Editor_members)
    (pr_Editor_offsets : PrF K aE "offsets" "Editor.offsets" s_Editor_offsets p_Editor_offsets g_Editor_offsets)
    (tEditor_edit : MetF K aE "edit" "Editor.edit" s_Editor_edit mEditor_edit)
    (tEditor_check_index : MetF K aE "check_index" "Editor.check_index" s_Editor_check_index mEditor_check_index)
    (tEditor_take_out : MetF K aE "take_out" "Editor.take_out" s_Editor_take_out mEditor_take_out)
    (tEditor_exchange : MetF K aE "exchange" "Editor.exchange" s_Editor_exchange mEditor_exchange)
    (tEditor_add : MetF K aE "add" "Editor.add" s_Editor_add mEditor_add)
    (hOf : CmF K aE "of" "Editor.of" s_Editor_of pOf gOf)
    (tF_eq : MetF K aF "__eq__" "File.__eq__" s_File___eq__ fEF)
    (qF : EqF K aF fEF)
    (tS_eq : MetF K aS "__eq__" "Sparse.__eq__" s_Sparse___eq__ fES)
    (qS : EqF K aS fES)
    (tD_eq : MetF K aD "__eq__" "Directory.__eq__" s_Directory___eq__ fED)
    (qD : EqF K aD fED)
    (tY_eq : MetF K aY "__eq__" "Symlink.__eq__" s_Symlink___eq__ fEY)
    (qY : EqF K aY fEY)
    (tL_eq : MetF K aL "__eq__" "Link.__eq__" s_Link___eq__ fEL)
    (qL : EqF K aL fEL)
    (z : ∀ b ∈ (["isinstance", "bool", "int", "list", "tuple", "all", "bytes", "str", "len", "abs", "range", "sum", "max", "min"] : List Str), PySem.W.nsIn K mainGlobals b = some none) :
    ∃ fd : FuncData, (∀ (s : Shared) (v : Value), BindsTo s fd ⟨[v], []⟩ [("_law_script", v)]) ∧ ∀ base : Heap, K.In base → base.Ns mainGlobals mg → FnG l.prog w K mg base 15 fa fd ["_law_script"] (spLaw K) := by
  have e := hfa.symm.trans (PySem.W.mg_of X G d_law.ns)
  cases e
  have bs : ∀ b ∈ (["isinstance", "bool", "int", "list", "tuple", "all", "bytes", "str", "len", "abs", "range", "sum", "max", "min"] : List Str), mg b = none := fun b hb => PySem.W.mg_none_of X G (z b hb)
  have b_isinstance : mg "isinstance" = none := bs _ (by simp)
  have b_bool : mg "bool" = none := bs _ (by simp)
  have b_int : mg "int" = none := bs _ (by simp)
  have b_list : mg "list" = none := bs _ (by simp)
  have b_tuple : mg "tuple" = none := bs _ (by simp)
  have b_all : mg "all" = none := bs _ (by simp)
  have b_bytes : mg "bytes" = none := bs _ (by simp)
  have b_str : mg "str" = none := bs _ (by simp)
  have b_len : mg "len" = none := bs _ (by simp)
  have b_abs : mg "abs" = none := bs _ (by simp)
  have b_range : mg "range" = none := bs _ (by simp)
  have b_sum : mg "sum" = none := bs _ (by simp)
  have b_max : mg "max" = none := bs _ (by simp)
  have b_min : mg "min" = none := bs _ (by simp)
  have g_MOST_CHARACTERS := PySem.W.mg_of X G n_MOST_CHARACTERS
  have g_NAME_CHARACTERS := PySem.W.mg_of X G n_NAME_CHARACTERS
  have g_MOST_BYTES := PySem.W.mg_of X G n_MOST_BYTES
  have g_LAST_MODE := PySem.W.mg_of X G n_LAST_MODE
  have g_LAST_TIME := PySem.W.mg_of X G n_LAST_TIME
  have g_MOST_PIECES := PySem.W.mg_of X G n_MOST_PIECES
  have g_TEXT_SIZE := PySem.W.mg_of X G n_TEXT_SIZE
  have g_BLOCK_SIZE := PySem.W.mg_of X G n_BLOCK_SIZE
  have g_MAGIC := PySem.W.mg_of X G n_MAGIC
  have g_REST_SIZE := PySem.W.mg_of X G n_REST_SIZE
  have g_LONG_NAME := PySem.W.mg_of X G n_LONG_NAME
  have g_KIND_CHARACTERS := PySem.W.mg_of X G n_KIND_CHARACTERS
  have g_SIZES := PySem.W.mg_of X G n_SIZES
  have g_LONG_KINDS := PySem.W.mg_of X G n_LONG_KINDS
  have g_BEHIND_LONG_TARGETS := PySem.W.mg_of X G n_BEHIND_LONG_TARGETS
  have g_TARGET_KINDS := PySem.W.mg_of X G n_TARGET_KINDS
  have g_MAP_BYTES := PySem.W.mg_of X G n_MAP_BYTES
  have g_END_SIZE := PySem.W.mg_of X G n_END_SIZE
  have MM : MF K ⟨aF, aS, aD, aY, aL⟩ aM := ⟨⟨kFF, kFS, kFY, kFL, kSF, kSS, kSY, kSL, kDF, kDS, kDY, kDL, kYF, kYS, kYY, kLF, kLS, kLY, kLL⟩, hF.cf, hS.cf, hD.cf, hY.cf, hL.cf, hF.na _ (by simp), hS.na _ (by simp), hS.na _ (by simp), hY.na _ (by simp), hL.na _ (by simp)⟩
  have hKC : ∀ m : Mem, KDct K w aKC m.kd (.str m.kc) := fun m => by
    cases m with
    | file n b t ns => exact ⟨_, _, _, kcl, kck, kc0, ⟨_, rfl⟩⟩
    | sparse n b t z sp => exact ⟨_, _, _, kcl, kck, kc1, ⟨_, rfl⟩⟩
    | dir n b t => exact ⟨_, _, _, kcl, kck, kc2, ⟨_, rfl⟩⟩
    | sym n b t g => exact ⟨_, _, _, kcl, kck, kc3, ⟨_, rfl⟩⟩
    | lnk n b t g => exact ⟨_, _, _, kcl, kck, kc4, ⟨_, rfl⟩⟩
  obtain ⟨fd, F⟩ := d_law.fun_
  refine ⟨fd, ?_, ?_⟩
  · obtain ⟨oc, od, kV, doc, pm, an, cdv, ct, osl, rfl, lk, hcd⟩ := F.ex
    intro s v
    exact .of_eq rfl
  · intro base Xb Gb
    have c_is_integer : CalT l.prog w K mg base 1 "is_integer" spIsI := cal_mk Xb Gb d_is_integer (ps := ["thing"]) (fun _ _ _ _ _ _ us hl => match us, hl with | [_], _ => rfl) fun fd F => ok_isI F b_isinstance b_bool b_int
    have c_is_integer_within : CalT l.prog w K mg base 2 "is_integer_within" spWithin := cal_mk Xb Gb d_is_integer_within (ps := ["thing", "least", "most"]) (fun _ _ _ _ _ _ us hl => match us, hl with | [_, _, _], _ => rfl) fun fd F => ok_within F c_is_integer
    have c_is_row_of_bytes : CalT l.prog w K mg base 3 "is_row_of_bytes" spRow := cal_mk Xb Gb d_is_row_of_bytes (ps := ["thing"]) (fun _ _ _ _ _ _ us hl => match us, hl with | [_], _ => rfl) fun fd F => ok_row F c_is_integer_within b_isinstance b_list b_tuple b_all
    have c_blob : CalT l.prog w K mg base 4 "blob" spBlob := cal_mk Xb Gb d_blob (ps := ["numbers"]) (fun _ _ _ _ _ _ us hl => match us, hl with | [_], _ => rfl) fun fd F => ok_blob F c_is_row_of_bytes b_bytes
    have c_is_name : CalT l.prog w K mg base 2 "is_name" (spName K) := cal_mk Xb Gb d_is_name (ps := ["thing"]) (fun _ _ _ _ _ _ us hl => match us, hl with | [_], _ => rfl) fun fd F => ok_name F b_isinstance b_str b_len b_all g_MOST_CHARACTERS g_NAME_CHARACTERS
    have c__law_source : CalT l.prog w K mg base 2 "_law_source" (spSource K) := cal_mk Xb Gb d__law_source (ps := ["_law_script", "_law_at"]) (fun _ _ _ _ _ _ us hl => match us, hl with | [_, _], _ => rfl) fun fd F => ok_source F b_len b_int b_abs
    have c__law_draw : CalT l.prog w K mg base 2 "_law_draw" spDraw := cal_mk Xb Gb d__law_draw (ps := ["_law_source_here", "_law_many"]) (fun _ _ _ _ _ _ us hl => match us, hl with | [_, _], _ => rfl) fun fd F => ok_draw F b_int
    have c__law_path : CalT l.prog w K mg base 3 "_law_path" spPath := cal_mk Xb Gb d__law_path (ps := ["_law_source_here"]) (fun _ _ _ _ _ _ us hl => match us, hl with | [_], _ => rfl) fun fd F => ok_path F b_range c__law_draw
    have c__law_numbers : CalT l.prog w K mg base 3 "_law_numbers" spNums := cal_mk Xb Gb d__law_numbers (ps := ["_law_source_here"]) (fun _ _ _ _ _ _ us hl => match us, hl with | [_], _ => rfl) fun fd F => ok_numbers F b_range c__law_draw
    have c__law_stamps : CalT l.prog w K mg base 3 "_law_stamps" spStamps := cal_mk Xb Gb d__law_stamps (ps := ["_law_source_here"]) (fun _ _ _ _ _ _ us hl => match us, hl with | [_], _ => rfl) fun fd F => ok_stamps F c__law_draw
    have c__law_names : CalT l.prog w K mg base 4 "_law_names" spNames := cal_mk Xb Gb d__law_names (ps := ["_law_source_here"]) (fun _ _ _ _ _ _ us hl => match us, hl with | [_], _ => rfl) fun fd F => ok_names F c__law_path
    have c__law_pieces : CalT l.prog w K mg base 3 "_law_pieces" spPcs := cal_mk Xb Gb d__law_pieces (ps := ["_law_source_here"]) (fun _ _ _ _ _ _ us hl => match us, hl with | [_], _ => rfl) fun fd F => ok_pieces F b_len c__law_draw
    have c__law_spec : CalT l.prog w K mg base 4 "_law_spec" spSpec := cal_mk Xb Gb d__law_spec (ps := ["_law_source_here", "_law_name", "_law_names_here"]) (fun _ _ _ _ _ _ us hl => match us, hl with | [_, _, _], _ => rfl) fun fd F => ok_spec F b_len c__law_draw c__law_stamps c__law_numbers c__law_pieces
    have c__law_few : CalT l.prog w K mg base 5 "_law_few" spFew := cal_mk Xb Gb d__law_few (ps := ["_law_source_here", "_law_names_here", "_law_most"]) (fun _ _ _ _ _ _ us hl => match us, hl with | [_, _, _], _ => rfl) fun fd F => ok_few F b_range b_len c__law_draw c__law_spec
    have c_check_name : CalT l.prog w K mg base 3 "check_name" spCName := cal_mk Xb Gb d_check_name (ps := ["thing"]) (fun _ _ _ _ _ _ us hl => match us, hl with | [_], _ => rfl) fun fd F => ok_cname F c_is_name
    have c_is_data : CalT l.prog w K mg base 2 "is_data" spIsData := cal_mk Xb Gb d_is_data (ps := ["thing"]) (fun _ _ _ _ _ _ us hl => match us, hl with | [_], _ => rfl) fun fd F => ok_isdata F b_isinstance b_bytes b_len g_MOST_BYTES
    have c_check_data_members : CalT l.prog w K mg base 3 "check_data_members" spCData := cala_mk Xb Gb d_check_data_members (ps := ["thing"]) (fun _ _ _ _ _ _ us hl => match us, hl with | [_], _ => rfl) fun fd F => ok_cdata F c_is_data
    have c_is_size : CalT l.prog w K mg base 3 "is_size" (spIn 0 4096) := cal_mk Xb Gb d_is_size (ps := ["thing"]) (fun _ _ _ _ _ _ us hl => match us, hl with | [_], _ => rfl) fun fd F => ok_issize F g_MOST_BYTES c_is_integer_within
    have c_is_mode : CalT l.prog w K mg base 3 "is_mode" (spIn 0 4095) := cal_mk Xb Gb d_is_mode (ps := ["thing"]) (fun _ _ _ _ _ _ us hl => match us, hl with | [_], _ => rfl) fun fd F => ok_ismode F g_LAST_MODE c_is_integer_within
    have c_is_time : CalT l.prog w K mg base 3 "is_time" (spIn 0 8589934591) := cal_mk Xb Gb d_is_time (ps := ["thing"]) (fun _ _ _ _ _ _ us hl => match us, hl with | [_], _ => rfl) fun fd F => ok_istime F g_LAST_TIME c_is_integer_within
    have c_check_mode_and_time : CalT l.prog w K mg base 4 "check_mode_and_time" spStamp := cal_mk Xb Gb d_check_mode_and_time (ps := ["mode", "time"]) (fun _ _ _ _ _ _ us hl => match us, hl with | [_, _], _ => rfl) fun fd F => ok_stamp F c_is_mode c_is_time
    have c_is_piece : CalT l.prog w K mg base 3 "is_piece" spPiece := cal_mk Xb Gb d_is_piece (ps := ["thing"]) (fun _ _ _ _ _ _ us hl => match us, hl with | [_], _ => rfl) fun fd F => ok_piece F b_isinstance b_tuple b_len b_bytes g_MOST_BYTES c_is_integer_within
    have c_are_spans : CalT l.prog w K mg base 2 "are_spans" spASpans := cal_mk Xb Gb d_are_spans (ps := ["size", "spans"]) (fun _ _ _ _ _ _ us hl => match us, hl with | [_, _], _ => rfl) fun fd F => ok_aspans F b_len g_MOST_PIECES
    have c_are_pieces : CalT l.prog w K mg base 4 "are_pieces" spAPieces := cal_mk Xb Gb d_are_pieces (ps := ["size", "pieces"]) (fun _ _ _ _ _ _ us hl => match us, hl with | [_, _], _ => rfl) fun fd F => ok_apieces F b_len b_all c_is_piece c_are_spans
    have c_check_pieces : CalT l.prog w K mg base 5 "check_pieces" spCPieces := cal_mk Xb Gb d_check_pieces (ps := ["size", "pieces"]) (fun _ _ _ _ _ _ us hl => match us, hl with | [_, _], _ => rfl) fun fd F => ok_cpieces F c_is_size c_are_pieces
    have mkF_K : MakS l.prog w K mg base 5 "File" aF ["mode", "time"] (fun vs zs H Q => vs.length = 3 ∧ ∀ E, spFileI aF (vs ++ zs) H Q E) := by
      obtain ⟨fd, F⟩ := iF.fun_
      obtain ⟨mv, hb⟩ := F.kbinds0 (ps := ["self", "name", "data", "mode", "time"]) 3 ["mode", "time"] [] (fun us _ ws => us ++ ws) (by simp) (by simp) (fun r1 _ r2 => r1.append r2) (fun D doc pm an cdv ct us mv ws h1 h2 h3 => match us, mv, ws, h1, h2, h3 with | [_, _, _], [], [_, _], _, _, _ => rfl)
      exact ⟨fIF, hF.mkk, fnS_of (ok_fileI F hF.cl (hF.na "name" (by simp)) (hF.na "data" (by simp)) (hF.na "mode" (by simp)) (hF.na "time" (by simp)) c_check_name c_check_data_members c_check_mode_and_time) hb, PySem.W.mg_of X G hF.ns⟩
    have mkF_D : MakS l.prog w K mg base 5 "File" aF [] (fun vs zs H Q => zs = [] ∧ ∀ E, spFileI aF (vs ++ [.int 420, .int 0]) H Q E) := by
      obtain ⟨fd, F⟩ := iF.fun_
      obtain ⟨ds, hd, hb⟩ := F.binds0 (ps := ["self", "name", "data", "mode", "time"]) 3 (by simp) rfl (fun D doc pm an cdv ct us ks h1 h2 => match us, ks, h1, h2 with | [_, _, _], [_, _], _, _ => ⟨_, _, _, _, _, _, rfl, rfl, _, _, _, _, _, _, rfl, rfl, rfl⟩)
      exact ⟨fIF, hF.mkk, fnS_dfl (ok_fileI F hF.cl (hF.na "name" (by simp)) (hF.na "data" (by simp)) (hF.na "mode" (by simp)) (hF.na "time" (by simp)) c_check_name c_check_data_members c_check_mode_and_time) hb hd, PySem.W.mg_of X G hF.ns⟩
    have mkS_K : MakS l.prog w K mg base 6 "Sparse" aS ["mode", "time"] (fun vs zs H Q => ∃ b t : Int, zs = [.int b, .int t] ∧ spSpa aS b t vs H Q) := by
      obtain ⟨fd, F⟩ := iS.fun_
      exact ⟨fIS, hS.mkk, ok_spaK F hS.cl (hS.na "name" (by simp)) (hS.na "size" (by simp)) (hS.na "mode" (by simp)) (hS.na "time" (by simp)) (hS.na "pieces" (by simp)) c_check_name c_check_pieces c_check_mode_and_time, PySem.W.mg_of X G hS.ns⟩
    have mkS_D : MakS l.prog w K mg base 6 "Sparse" aS [] (fun vs zs H Q => zs = [] ∧ spSpa aS 420 0 vs H Q) := by
      obtain ⟨fd, F⟩ := iS.fun_
      exact ⟨fIS, hS.mkk, ok_spaD F hS.cl (hS.na "name" (by simp)) (hS.na "size" (by simp)) (hS.na "mode" (by simp)) (hS.na "time" (by simp)) (hS.na "pieces" (by simp)) c_check_name c_check_pieces c_check_mode_and_time, PySem.W.mg_of X G hS.ns⟩
    have mkD_K : MakS l.prog w K mg base 5 "Directory" aD ["mode", "time"] (fun vs zs H Q => vs.length = 2 ∧ ∀ E, spDirI aD (vs ++ zs) H Q E) := by
      obtain ⟨fd, F⟩ := iD.fun_
      obtain ⟨mv, hb⟩ := F.kbinds0 (ps := ["self", "name", "mode", "time"]) 2 ["mode", "time"] [] (fun us _ ws => us ++ ws) (by simp) (by simp) (fun r1 _ r2 => r1.append r2) (fun D doc pm an cdv ct us mv ws h1 h2 h3 => match us, mv, ws, h1, h2, h3 with | [_, _], [], [_, _], _, _, _ => rfl)
      exact ⟨fID, hD.mkk, fnS_of (ok_dirI F hD.cl (hD.na "name" (by simp)) (hD.na "mode" (by simp)) (hD.na "time" (by simp)) c_check_name c_check_mode_and_time) hb, PySem.W.mg_of X G hD.ns⟩
    have mkD_D : MakS l.prog w K mg base 5 "Directory" aD [] (fun vs zs H Q => zs = [] ∧ ∀ E, spDirI aD (vs ++ [.int 493, .int 0]) H Q E) := by
      obtain ⟨fd, F⟩ := iD.fun_
      obtain ⟨ds, hd, hb⟩ := F.binds0 (ps := ["self", "name", "mode", "time"]) 2 (by simp) rfl (fun D doc pm an cdv ct us ks h1 h2 => match us, ks, h1, h2 with | [_, _], [_, _], _, _ => ⟨_, _, _, _, _, _, rfl, rfl, _, _, _, _, _, _, rfl, rfl, rfl⟩)
      exact ⟨fID, hD.mkk, fnS_dfl (ok_dirI F hD.cl (hD.na "name" (by simp)) (hD.na "mode" (by simp)) (hD.na "time" (by simp)) c_check_name c_check_mode_and_time) hb hd, PySem.W.mg_of X G hD.ns⟩
    have mkY_K : MakS l.prog w K mg base 5 "Symlink" aY ["mode", "time"] (fun vs zs H Q => vs.length = 3 ∧ ∀ E, spSymI aY (vs ++ zs) H Q E) := by
      obtain ⟨fd, F⟩ := iY.fun_
      obtain ⟨mv, hb⟩ := F.kbinds0 (ps := ["self", "name", "target", "mode", "time"]) 3 ["mode", "time"] [] (fun us _ ws => us ++ ws) (by simp) (by simp) (fun r1 _ r2 => r1.append r2) (fun D doc pm an cdv ct us mv ws h1 h2 h3 => match us, mv, ws, h1, h2, h3 with | [_, _, _], [], [_, _], _, _, _ => rfl)
      exact ⟨fIY, hY.mkk, fnS_of (ok_symI F hY.cl (hY.na "name" (by simp)) (hY.na "target" (by simp)) (hY.na "mode" (by simp)) (hY.na "time" (by simp)) c_check_name c_check_mode_and_time) hb, PySem.W.mg_of X G hY.ns⟩
    have mkY_D : MakS l.prog w K mg base 5 "Symlink" aY [] (fun vs zs H Q => zs = [] ∧ ∀ E, spSymI aY (vs ++ [.int 511, .int 0]) H Q E) := by
      obtain ⟨fd, F⟩ := iY.fun_
      obtain ⟨ds, hd, hb⟩ := F.binds0 (ps := ["self", "name", "target", "mode", "time"]) 3 (by simp) rfl (fun D doc pm an cdv ct us ks h1 h2 => match us, ks, h1, h2 with | [_, _, _], [_, _], _, _ => ⟨_, _, _, _, _, _, rfl, rfl, _, _, _, _, _, _, rfl, rfl, rfl⟩)
      exact ⟨fIY, hY.mkk, fnS_dfl (ok_symI F hY.cl (hY.na "name" (by simp)) (hY.na "target" (by simp)) (hY.na "mode" (by simp)) (hY.na "time" (by simp)) c_check_name c_check_mode_and_time) hb hd, PySem.W.mg_of X G hY.ns⟩
    have mkL_K : MakS l.prog w K mg base 5 "Link" aL ["mode", "time"] (fun vs zs H Q => vs.length = 3 ∧ ∀ E, spSymI aL (vs ++ zs) H Q E) := by
      obtain ⟨fd, F⟩ := iL.fun_
      obtain ⟨mv, hb⟩ := F.kbinds0 (ps := ["self", "name", "target", "mode", "time"]) 3 ["mode", "time"] [] (fun us _ ws => us ++ ws) (by simp) (by simp) (fun r1 _ r2 => r1.append r2) (fun D doc pm an cdv ct us mv ws h1 h2 h3 => match us, mv, ws, h1, h2, h3 with | [_, _, _], [], [_, _], _, _, _ => rfl)
      exact ⟨fIL, hL.mkk, fnS_of (ok_lnkI F hL.cl (hL.na "name" (by simp)) (hL.na "target" (by simp)) (hL.na "mode" (by simp)) (hL.na "time" (by simp)) c_check_name c_check_mode_and_time) hb, PySem.W.mg_of X G hL.ns⟩
    have mkL_D : MakS l.prog w K mg base 5 "Link" aL [] (fun vs zs H Q => zs = [] ∧ ∀ E, spSymI aL (vs ++ [.int 420, .int 0]) H Q E) := by
      obtain ⟨fd, F⟩ := iL.fun_
      obtain ⟨ds, hd, hb⟩ := F.binds0 (ps := ["self", "name", "target", "mode", "time"]) 3 (by simp) rfl (fun D doc pm an cdv ct us ks h1 h2 => match us, ks, h1, h2 with | [_, _, _], [_, _], _, _ => ⟨_, _, _, _, _, _, rfl, rfl, _, _, _, _, _, _, rfl, rfl, rfl⟩)
      exact ⟨fIL, hL.mkk, fnS_dfl (ok_lnkI F hL.cl (hL.na "name" (by simp)) (hL.na "target" (by simp)) (hL.na "mode" (by simp)) (hL.na "time" (by simp)) c_check_name c_check_mode_and_time) hb hd, PySem.W.mg_of X G hL.ns⟩
    have c_text_field : CalT l.prog w K mg base 2 "text_field" spTField := cal_mk Xb Gb d_text_field (ps := ["text"]) (fun _ _ _ _ _ _ us hl => match us, hl with | [_], _ => rfl) fun fd F => ok_tfield F b_len b_bytes g_TEXT_SIZE
    have c_octal_field : CalT l.prog w K mg base 2 "octal_field" spOField := cal_mk Xb Gb d_octal_field (ps := ["number", "size"]) (fun _ _ _ _ _ _ us hl => match us, hl with | [_, _], _ => rfl) fun fd F => ok_ofield F 
    have c_checksum : CalT l.prog w K mg base 2 "checksum" spCheck := cal_mk Xb Gb d_checksum (ps := ["block"]) (fun _ _ _ _ _ _ us hl => match us, hl with | [_], _ => rfl) fun fd F => ok_check F b_sum b_len b_isinstance b_bytes g_BLOCK_SIZE
    have c_checksum_field : CalT l.prog w K mg base 3 "checksum_field" spCField := cal_mk Xb Gb d_checksum_field (ps := ["block"]) (fun _ _ _ _ _ _ us hl => match us, hl with | [_], _ => rfl) fun fd F => ok_cfield F c_checksum
    obtain ⟨fdH, FH, DH⟩ := d_header.fun_
    have FkH : FnOk l.prog w K mg base CX0 4 f_header fdH ["kind", "name", "mode", "size", "time", "target"] spHeader := (fun F => ok_header F c_checksum_field c_text_field c_octal_field b_bytes g_MAGIC g_REST_SIZE) FH
    have c_header_k2 : CalN l.prog w K mg base 4 "header" 2 ["mode", "size", "time", "target"] (fun us ws => us ++ ws) spHeader := by
      obtain ⟨mv, hb⟩ := DH.kbinds0 (ps := ["kind", "name", "mode", "size", "time", "target"]) 2 ["mode", "size", "time", "target"] [] (fun us _ ws => us ++ ws) (by simp) (by simp) (fun r1 _ r2 => r1.append r2) (fun D doc pm an cdv ct us mv ws h1 h2 h3 => match us, mv, ws, h1, h2, h3 with | [_, _], [], [_, _, _, _], _, _, _ => rfl)
      exact ⟨f_header, fdH, _, _, FkH, PySem.W.mg_of X G d_header.ns, d_header.kp, hb⟩
    have c_header_s : CalN l.prog w K mg base 4 "header" 2 ["size"] (fun us ws => hsF us [.int 0, .int 0, .str ""] ws) spHeader := by
      obtain ⟨mv, hb⟩ := DH.kbinds0 (ps := ["kind", "name", "mode", "size", "time", "target"]) 2 ["size"] [("mode", .int 0), ("time", .int 0), ("target", .str "")] (fun us mv ws => hsF us mv ws) (by simp) (by simp) (fun r1 r2 r3 => hsF_rel r1 r2 r3) (fun D doc pm an cdv ct us mv ws h1 h2 h3 => match us, mv, ws, h1, h2, h3 with | [_, _], [_, _, _], [_], _, _, _ => ⟨_, _, _, _, _, _, rfl, rfl, _, _, _, _, _, _, rfl, rfl, _, _, _, _, _, _, rfl, rfl, rfl⟩)
      exact ⟨f_header, fdH, _, _, FkH, PySem.W.mg_of X G d_header.ns, d_header.kp, hb⟩
    have c_padded : CalT l.prog w K mg base 2 "padded" spPadded := cal_mk Xb Gb d_padded (ps := ["data"]) (fun _ _ _ _ _ _ us hl => match us, hl with | [_], _ => rfl) fun fd F => ok_padded F b_len b_bytes g_BLOCK_SIZE
    have c_target_of : CalT l.prog w K mg base 2 "target_of" (spTarget ⟨aF, aS, aD, aY, aL⟩) := cal_mk Xb Gb d_target_of (ps := ["member"]) (fun _ _ _ _ _ _ us hl => match us, hl with | [_], _ => rfl) fun fd F => ok_target (c := ⟨aF, aS, aD, aY, aL⟩) F b_isinstance MM (PySem.W.mg_of X G hY.ns) (PySem.W.mg_of X G hL.ns)
    have c_map_block : CalT l.prog w K mg base 3 "map_block" spMap := cal_mk Xb Gb d_map_block (ps := ["size", "spans"]) (fun _ _ _ _ _ _ us hl => match us, hl with | [_, _], _ => rfl) fun fd F => ok_map F b_len c_padded
    have c_stored_bytes : CalT l.prog w K mg base 4 "stored_bytes" (spStored ⟨aF, aS, aD, aY, aL⟩) := cal_mk Xb Gb d_stored_bytes (ps := ["member"]) (fun _ _ _ _ _ _ us hl => match us, hl with | [_], _ => rfl) fun fd F => ok_stored (c := ⟨aF, aS, aD, aY, aL⟩) F b_isinstance b_len MM (PySem.W.mg_of X G hF.ns) (PySem.W.mg_of X G hS.ns) c_map_block
    have c_long_part : CalT l.prog w K mg base 5 "long_part" spLongP := cal_mk Xb Gb d_long_part (ps := ["kind", "text"]) (fun _ _ _ _ _ _ us hl => match us, hl with | [_, _], _ => rfl) fun fd F => ok_longp F b_len g_TEXT_SIZE g_LONG_NAME c_padded c_header_s
    have c_packed : CalT l.prog w K mg base 6 "packed" (spPacked ⟨aF, aS, aD, aY, aL⟩) := cal_mk Xb Gb d_packed (ps := ["member"]) (fun _ _ _ _ _ _ us hl => match us, hl with | [_], _ => rfl) fun fd F => ok_packed (c := ⟨aF, aS, aD, aY, aL⟩) F b_len MM g_KIND_CHARACTERS hKC c_target_of c_stored_bytes c_padded c_long_part c_header_k2
    have c_text_in : CalT l.prog w K mg base 2 "text_in" spTextIn := cal_mk Xb Gb d_text_in (ps := ["data"]) (fun _ _ _ _ _ _ us hl => match us, hl with | [_], _ => rfl) fun fd F => ok_textin F b_all
    have c_number_in : CalT l.prog w K mg base 2 "number_in" spNumIn := cal_mk Xb Gb d_number_in (ps := ["data"]) (fun _ _ _ _ _ _ us hl => match us, hl with | [_], _ => rfl) fun fd F => ok_numin F b_all b_int
    have hHdC : HdC K aHd := ⟨hHeading.cl, hHeading.na "name" (by simp), hHeading.na "mode" (by simp), hHeading.na "owner" (by simp), hHeading.na "group" (by simp), hHeading.na "size" (by simp), hHeading.na "time" (by simp), hHeading.na "kind" (by simp), hHeading.na "target" (by simp)⟩
    have hScC : ScC K aSc := ⟨hScanner.cl, hScanner.na "start" (by simp), hScanner.na "place" (by simp), hScanner.na "at" (by simp), hScanner.na "rest" (by simp), hScanner.na "heading" (by simp), hScanner.na "stored" (by simp), hScanner.na "long_name" (by simp), hScanner.na "long_target" (by simp), hScanner.na "zeros" (by simp), hScanner.na "wrong" (by simp)⟩
    have mk_Heading : MakS l.prog w K mg base 4 "Heading" aHd [] (fun vs zs H Q => vs.length = 2 ∧ ∀ E, (spHdI aHd) (vs ++ zs) H Q E) := maks0 X G hHeading.ns hHeading.mkk tHeading___init__ (ps := ["self", "block"]) (n := 2) rfl (fun _ _ _ _ _ _ us hl => match us, hl with | [_, _], _ => rfl) fun fd F => ok_hdI F hHeading.cl (hHeading.na "name" (by simp)) (hHeading.na "mode" (by simp)) (hHeading.na "owner" (by simp)) (hHeading.na "group" (by simp)) (hHeading.na "size" (by simp)) (hHeading.na "time" (by simp)) (hHeading.na "kind" (by simp)) (hHeading.na "target" (by simp)) c_text_in c_number_in
    have c_map_block : CalT l.prog w K mg base 3 "map_block" spMapG := cal_mk Xb Gb d_map_block (ps := ["size", "spans"]) (fun _ _ _ _ _ _ us hl => match us, hl with | [_, _], _ => rfl) fun fd F => ok_mapG F b_len c_padded
    have c_are_spans : CalT l.prog w K mg base 2 "are_spans" spASpansG := cal_mk Xb Gb d_are_spans (ps := ["size", "spans"]) (fun _ _ _ _ _ _ us hl => match us, hl with | [_, _], _ => rfl) fun fd F => ok_aspansG F b_len g_MOST_PIECES
    have c_is_right_name : CalT l.prog w K mg base 4 "is_right_name" spRNameG := cal_mk Xb Gb d_is_right_name (ps := ["name", "long_name"]) (fun _ _ _ _ _ _ us hl => match us, hl with | [_, _], _ => rfl) fun fd F => ok_rnameG F g_TEXT_SIZE g_LONG_NAME c_is_name
    have c_is_right_kind : CalT l.prog w K mg base 2 "is_right_kind" spRKindG := cal_mk Xb Gb d_is_right_kind (ps := ["kind", "is_long", "long_target"]) (fun _ _ _ _ _ _ us hl => match us, hl with | [_, _, _], _ => rfl) fun fd F => ok_rkindG F g_SIZES g_LONG_KINDS g_BEHIND_LONG_TARGETS KF
    have c_is_right_target : CalT l.prog w K mg base 4 "is_right_target" (spRTargetG aHd) := cal_mk Xb Gb d_is_right_target (ps := ["heading", "long_target"]) (fun _ _ _ _ _ _ us hl => match us, hl with | [_, _], _ => rfl) fun fd F => ok_rtargetG F hHdC g_TARGET_KINDS KF g_TEXT_SIZE c_is_name
    have c_wrong_field : CalT l.prog w K mg base 5 "wrong_field" (spWFieldG aHd) := cal_mk Xb Gb d_wrong_field (ps := ["block", "heading", "long_name", "long_target"]) (fun _ _ _ _ _ _ us hl => match us, hl with | [_, _, _, _], _ => rfl) fun fd F => ok_wfieldG F hHdC KF g_SIZES b_bytes g_LONG_NAME g_MAGIC g_REST_SIZE c_is_right_name c_is_right_kind c_is_right_target c_is_mode c_checksum_field
    have c_read_map : CalT l.prog w K mg base 4 "read_map" spRMapG := cal_mk Xb Gb d_read_map (ps := ["block", "stored"]) (fun _ _ _ _ _ _ us hl => match us, hl with | [_, _], _ => rfl) fun fd F => ok_rmapG F b_all b_len b_int b_range b_sum g_MAP_BYTES g_BLOCK_SIZE c_is_size c_are_spans c_map_block
    have c_cut : CalT l.prog w K mg base 2 "cut" spCut := cal_mk Xb Gb d_cut (ps := ["data", "spans"]) (fun _ _ _ _ _ _ us hl => match us, hl with | [_, _], _ => rfl) fun fd F => ok_cut F 
    have mk_Scanner : MakS l.prog w K mg base 2 "Scanner" aSc [] (fun vs zs H Q => vs.length = 2 ∧ ∀ E, (spScI aSc) (vs ++ zs) H Q E) := maks0 X G hScanner.ns hScanner.mkk tScanner___init__ (ps := ["self", "offset"]) (n := 2) rfl (fun _ _ _ _ _ _ us hl => match us, hl with | [_, _], _ => rfl) fun fd F => ok_scinit F hScC b_bytes
    have mA_is_over : MetA l.prog w K mg base 2 aSc "is_over" ["self"] (spOver aSc) := tScanner_is_over.metA hScanner.cl (fun _ _ _ _ _ _ us hl => match us, hl with | [_], _ => rfl) fun fd F => ok_over F hScC
    have mA_wrong_stored : MetA l.prog w K mg base 5 aSc "wrong_stored" ["self"] (spWstG aSc aHd) := tScanner_wrong_stored.metA hScanner.cl (fun _ _ _ _ _ _ us hl => match us, hl with | [_], _ => rfl) fun fd F => ok_wstG F hScC hHdC KF b_len b_bytes g_LONG_KINDS g_BLOCK_SIZE c_text_in c_is_name c_read_map
    have mA_member_of : MetA l.prog w K mg base 8 aSc "member_of" ["self", "heading"] (spMofG ⟨aF, aS, aD, aY, aL⟩ aSc aHd) := tScanner_member_of.metA hScanner.cl (fun _ _ _ _ _ _ us hl => match us, hl with | [_, _], _ => rfl) fun fd F => ok_mofG (c := ⟨aF, aS, aD, aY, aL⟩) F hScC hHdC g_BLOCK_SIZE c_read_map c_cut mkF_K mkD_K mkY_K mkL_K mkS_K
    have mA_ended : MetA l.prog w K mg base 9 aSc "ended" ["self"] (spEndedG ⟨aF, aS, aD, aY, aL⟩ aSc aHd) := tScanner_ended.metA hScanner.cl (fun _ _ _ _ _ _ us hl => match us, hl with | [_], _ => rfl) fun fd F => ok_endedG (c := ⟨aF, aS, aD, aY, aL⟩) F hScC hHdC b_len c_text_in mA_member_of
    have mA_take_stored : MetA l.prog w K mg base 10 aSc "take_stored" ["self", "block"] (spTstG ⟨aF, aS, aD, aY, aL⟩ aSc aHd) := tScanner_take_stored.metA hScanner.cl (fun _ _ _ _ _ _ us hl => match us, hl with | [_, _], _ => rfl) fun fd F => ok_tstG (c := ⟨aF, aS, aD, aY, aL⟩) F hScC mA_wrong_stored mA_ended
    have mA_take_header : MetA l.prog w K mg base 10 aSc "take_header" ["self", "block"] (spThdG ⟨aF, aS, aD, aY, aL⟩ aSc aHd) := tScanner_take_header.metA hScanner.cl (fun _ _ _ _ _ _ us hl => match us, hl with | [_, _], _ => rfl) fun fd F => ok_thdG (c := ⟨aF, aS, aD, aY, aL⟩) F hScC b_bytes g_BLOCK_SIZE c_wrong_field mk_Heading mA_ended
    have mA_take_block : MetA l.prog w K mg base 11 aSc "take_block" ["self", "block"] (spTblG ⟨aF, aS, aD, aY, aL⟩ aSc aHd) := tScanner_take_block.metA hScanner.cl (fun _ _ _ _ _ _ us hl => match us, hl with | [_, _], _ => rfl) fun fd F => ok_tblG (c := ⟨aF, aS, aD, aY, aL⟩) F hScC b_bytes g_BLOCK_SIZE mA_take_stored mA_take_header
    have mA_take : MetA l.prog w K mg base 12 aSc "take" ["self", "data"] (spTakeG ⟨aF, aS, aD, aY, aL⟩ aSc aHd) := tScanner_take.metA hScanner.cl (fun _ _ _ _ _ _ us hl => match us, hl with | [_, _], _ => rfl) fun fd F => ok_takeG (c := ⟨aF, aS, aD, aY, aL⟩) F hScC b_len g_BLOCK_SIZE mA_is_over mA_take_block
    have c_check_data_reading : CalT l.prog w K mg base 2 "check_data_reading" spCDataR := cala_mk Xb Gb d_check_data_reading (ps := ["thing"]) (fun _ _ _ _ _ _ us hl => match us, hl with | [_], _ => rfl) fun fd F => ok_cdataR F b_isinstance b_bytes
    have c_check_source : CalT l.prog w K mg base 3 "check_source" spCSrc := cal_mk Xb Gb d_check_source (ps := ["data", "offset"]) (fun _ _ _ _ _ _ us hl => match us, hl with | [_, _], _ => rfl) fun fd F => ok_csrc F b_len c_check_data_reading c_is_integer_within
    have c_check_end : CalT l.prog w K mg base 3 "check_end" (spCEnd aSc) := cal_mk Xb Gb d_check_end (ps := ["scanner"]) (fun _ _ _ _ _ _ us hl => match us, hl with | [_], _ => rfl) fun fd F => ok_cend F hScC mA_is_over
    have c_read : CalT l.prog w K mg base 13 "read" (spReadG ⟨aF, aS, aD, aY, aL⟩) := cal_mk Xb Gb d_read (ps := ["data"]) (fun _ _ _ _ _ _ us hl => match us, hl with | [_], _ => rfl) fun fd F => ok_readG (c := ⟨aF, aS, aD, aY, aL⟩) F hScC c_check_source c_check_end mk_Scanner mA_take
    have c__law_made : CalT l.prog w K mg base 8 "_law_made" (spMadeT ⟨aF, aS, aD, aY, aL⟩) := cal_mk Xb Gb d__law_made (ps := ["_law_spec_here"]) (fun _ _ _ _ _ _ us hl => match us, hl with | [_], _ => rfl) fun fd F => ok_made (c := ⟨aF, aS, aD, aY, aL⟩) F b_len c_blob mkF_K mkD_K mkY_K mkL_K mkS_K
    have c_copy_of : CalT l.prog w K mg base 8 "copy_of" (spCopy ⟨aF, aS, aD, aY, aL⟩) := cal_mk Xb Gb d_copy_of (ps := ["member"]) (fun _ _ _ _ _ _ us hl => match us, hl with | [_], _ => rfl) fun fd F => ok_copy (c := ⟨aF, aS, aD, aY, aL⟩) F b_isinstance MM ⟨kDD, kYD, kLD⟩ (PySem.W.mg_of X G hF.ns) (PySem.W.mg_of X G hS.ns) (PySem.W.mg_of X G hD.ns) (PySem.W.mg_of X G hY.ns) mkF_K mkD_K mkY_K mkL_K mkS_K
    have c_written : CalT l.prog w K mg base 7 "written" (spWrA K ⟨aF, aS, aD, aY, aL⟩) := cal_mk Xb Gb d_written (ps := ["members"]) (fun _ _ _ _ _ _ us hl => match us, hl with | [_], _ => rfl) fun fd F => FnOk.or (ok_written (c := ⟨aF, aS, aD, aY, aL⟩) F b_bytes g_END_SIZE c_packed) (ok_writtenT (c := ⟨aF, aS, aD, aY, aL⟩) F b_bytes g_END_SIZE c_packed)
    have c_check_members : CalT l.prog w K mg base 2 "check_members" (spCMA K ⟨aF, aS, aD, aY, aL⟩) := cal_mk Xb Gb d_check_members (ps := ["things"]) (fun _ _ _ _ _ _ us hl => match us, hl with | [_], _ => rfl) fun fd F => FnOk.or (ok_checkm (c := ⟨aF, aS, aD, aY, aL⟩) F b_isinstance MM ⟨kDD, kYD, kLD⟩ (PySem.W.mg_of X G hF.ns) (PySem.W.mg_of X G hS.ns) (PySem.W.mg_of X G hD.ns) (PySem.W.mg_of X G hY.ns) (PySem.W.mg_of X G hL.ns)) (ok_checkmL (c := ⟨aF, aS, aD, aY, aL⟩) F b_isinstance MM ⟨kDD, kYD, kLD⟩ (PySem.W.mg_of X G hF.ns) (PySem.W.mg_of X G hS.ns) (PySem.W.mg_of X G hD.ns) (PySem.W.mg_of X G hY.ns) (PySem.W.mg_of X G hL.ns))
    have c_changed_blocks : CalT l.prog w K mg base 2 "changed_blocks" spChg := cal_mk Xb Gb d_changed_blocks (ps := ["before", "after"]) (fun _ _ _ _ _ _ us hl => match us, hl with | [_, _], _ => rfl) fun fd F => ok_chg F b_range b_len g_BLOCK_SIZE
    obtain ⟨uEditor, conEditor⟩ := lEditor.con
    have hEdC : EdC K aE := ⟨hEditor.cl, hEditor.na "states" (by simp)⟩
    have mk0_Editor : Mk0T l.prog w K mg base 2 "Editor" aE (spEInit ⟨aF, aS, aD, aY, aL⟩ aE) := by
      obtain ⟨oc, od, an, kV, doc, pm, cdv, ct, osl, l, c⟩ := tEditor___init__.fn
      exact ⟨iEditor, _, hEditor.mkk, (fun F => ok_einit (c := ⟨aF, aS, aD, aY, aL⟩) F hEdC) (fun_mk l c tEditor___init__.me.kp), (fun_mk l c tEditor___init__.me.kp).binds (by intro _ _ _ _ _ _ us hl; match us, hl with | [_], _ => rfl), PySem.W.mg_of X G hEditor.ns⟩
    have mT_Editor___len__ : MethT l.prog w K mg base 2 aE "__len__" (spELen ⟨aF, aS, aD, aY, aL⟩ aE) := tEditor___len__.meth hEditor.cl fun fd F => ok_elen (c := ⟨aF, aS, aD, aY, aL⟩) F hEdC b_len
    have mP_Editor_archive : PropT l.prog w K mg base 8 aE "archive" (spEArch ⟨aF, aS, aD, aY, aL⟩ aE) := by
      obtain ⟨oc, od, an, kV, doc, pm, cdv, ct, osl, l, c⟩ := pr_Editor_archive.fg
      exact ⟨p_Editor_archive, g_Editor_archive, _, hEditor.cl, pr_Editor_archive.pr, (fun F => ok_earch (c := ⟨aF, aS, aD, aY, aL⟩) F hEdC c_written) (fun_mk l c pr_Editor_archive.kg), (fun_mk l c pr_Editor_archive.kg).binds (by intro _ _ _ _ _ _ us hl; match us, hl with | [_], _ => rfl)⟩
    have mP_Editor_members : PropT l.prog w K mg base 9 aE "members" (spEMems ⟨aF, aS, aD, aY, aL⟩ aE) := by
      obtain ⟨oc, od, an, kV, doc, pm, cdv, ct, osl, l, c⟩ := pr_Editor_members.fg
      exact ⟨p_Editor_members, g_Editor_members, _, hEditor.cl, pr_Editor_members.pr, (fun F => ok_emems (c := ⟨aF, aS, aD, aY, aL⟩) F hEdC c_copy_of) (fun_mk l c pr_Editor_members.kg), (fun_mk l c pr_Editor_members.kg).binds (by intro _ _ _ _ _ _ us hl; match us, hl with | [_], _ => rfl)⟩
    have mP_Editor_offsets : PropT l.prog w K mg base 7 aE "offsets" (spEOffs ⟨aF, aS, aD, aY, aL⟩ aE) := by
      obtain ⟨oc, od, an, kV, doc, pm, cdv, ct, osl, l, c⟩ := pr_Editor_offsets.fg
      exact ⟨p_Editor_offsets, g_Editor_offsets, _, hEditor.cl, pr_Editor_offsets.pr, (fun F => ok_eoffs (c := ⟨aF, aS, aD, aY, aL⟩) F hEdC b_len b_range b_sum c_packed) (fun_mk l c pr_Editor_offsets.kg), (fun_mk l c pr_Editor_offsets.kg).binds (by intro _ _ _ _ _ _ us hl; match us, hl with | [_], _ => rfl)⟩
    have mA_edit : MetA l.prog w K mg base 10 aE "edit" ["self", "state"] (spEEdit ⟨aF, aS, aD, aY, aL⟩ aE) := tEditor_edit.metA hEditor.cl (fun _ _ _ _ _ _ us hl => match us, hl with | [_, _], _ => rfl) fun fd F => ok_eedit (c := ⟨aF, aS, aD, aY, aL⟩) F hEdC mP_Editor_archive c_changed_blocks
    have mA_check_index : MetA l.prog w K mg base 4 aE "check_index" ["self", "thing"] (spEChk ⟨aF, aS, aD, aY, aL⟩ aE) := tEditor_check_index.metA hEditor.cl (fun _ _ _ _ _ _ us hl => match us, hl with | [_, _], _ => rfl) fun fd F => ok_echk (c := ⟨aF, aS, aD, aY, aL⟩) F b_len mT_Editor___len__ c_is_integer_within
    have mA_take_out : MetA l.prog w K mg base 11 aE "take_out" ["self", "index"] (spETake ⟨aF, aS, aD, aY, aL⟩ aE) := tEditor_take_out.metA hEditor.cl (fun _ _ _ _ _ _ us hl => match us, hl with | [_, _], _ => rfl) fun fd F => ok_etake (c := ⟨aF, aS, aD, aY, aL⟩) F hEdC mA_check_index mA_edit
    have mA_exchange : MetA l.prog w K mg base 11 aE "exchange" ["self", "index", "member"] (spEExch ⟨aF, aS, aD, aY, aL⟩ aE) := tEditor_exchange.metA hEditor.cl (fun _ _ _ _ _ _ us hl => match us, hl with | [_, _, _], _ => rfl) fun fd F => ok_eexch (c := ⟨aF, aS, aD, aY, aL⟩) F hEdC mA_check_index c_check_members c_copy_of mA_edit
    have mS_Editor_add : MethS l.prog w K mg base 11 aE "add" (spEAdd aE ⟨aF, aS, aD, aY, aL⟩) := by
      obtain ⟨oc, od, an, kV, doc, pm, cdv, ct, osl, l, c⟩ := tEditor_add.fn
      exact ⟨mEditor_add, (fun F => ok_eadd (c := ⟨aF, aS, aD, aY, aL⟩) F hEdC conEditor b_len c_check_members c_copy_of mA_edit) (fun_mk l c tEditor_add.me.kp), hEditor.cl, tEditor_add.me⟩
    have c_of : CMetT l.prog w K mg base 14 aE "of" ["cls", "data"] (spEOf ⟨aF, aS, aD, aY, aL⟩ aE) := by
      obtain ⟨oc, od, an, kV, doc, pm, cdv, ct, osl, l, c⟩ := hOf.fg
      exact ⟨_, pOf, gOf, _, hOf.rd, hOf.cm, (fun F => ok_eof (c := ⟨aF, aS, aD, aY, aL⟩) F hEdC lEditor.lim b_len b_tuple c_read mk0_Editor) (fun_mk l c hOf.kg), (fun_mk l c hOf.kg).binds (by intro _ _ _ _ _ _ us hl; match us, hl with | [_, _], _ => rfl)⟩
    have eF : EqT l.prog w K mg base 2 aF (RF aF) := eqT_mk qF tF_eq fun fd F => ok_eqFile (c := ⟨aF, aS, aD, aY, aL⟩) F b_isinstance (PySem.W.mg_of X G hF.ns) hF.cf (hF.na "data" (by simp))
    have eS : EqT l.prog w K mg base 2 aS (RS aS) := eqT_mk qS tS_eq fun fd F => ok_eqSparse (c := ⟨aF, aS, aD, aY, aL⟩) F b_isinstance (PySem.W.mg_of X G hS.ns) hS.cf (hS.na "size" (by simp)) (hS.na "pieces" (by simp))
    have eD : EqT l.prog w K mg base 2 aD (RD aD) := eqT_mk qD tD_eq fun fd F => ok_eqDirectory (c := ⟨aF, aS, aD, aY, aL⟩) F b_isinstance (PySem.W.mg_of X G hD.ns) hD.cf
    have eY : EqT l.prog w K mg base 2 aY (RY aY) := eqT_mk qY tY_eq fun fd F => ok_eqSymlink (c := ⟨aF, aS, aD, aY, aL⟩) F b_isinstance (PySem.W.mg_of X G hY.ns) hY.cf (hY.na "target" (by simp))
    have eL : EqT l.prog w K mg base 2 aL (RL aL) := eqT_mk qL tL_eq fun fd F => ok_eqLink (c := ⟨aF, aS, aD, aY, aL⟩) F b_isinstance (PySem.W.mg_of X G hL.ns) hL.cf (hL.na "target" (by simp))
    have eqms : EqMs l.prog w K mg base ⟨aF, aS, aD, aY, aL⟩ := ⟨eF, eS, eD, eY, eL⟩
    have c__law_add : CalT l.prog w K mg base 12 "_law_add" (spAddM ⟨aF, aS, aD, aY, aL⟩ aE) := cal_mk Xb Gb d__law_add (ps := ["_law_editor", "_law_members"]) (fun _ _ _ _ _ _ us hl => match us, hl with | [_, _], _ => rfl) fun fd F => ok_addM (c := ⟨aF, aS, aD, aY, aL⟩) F b_len mS_Editor_add
    have c__law_edit : CalT l.prog w K mg base 13 "_law_edit" (spEdit ⟨aF, aS, aD, aY, aL⟩ aE) := cal_mk Xb Gb d__law_edit (ps := ["_law_source_here", "_law_editor", "_law_members", "_law_names_here"]) (fun _ _ _ _ _ _ us hl => match us, hl with | [_, _, _, _], _ => rfl) fun fd F => ok_edit (c := ⟨aF, aS, aD, aY, aL⟩) F b_len c__law_draw c__law_few c__law_spec c__law_made c__law_add mA_take_out mA_exchange
    have c__law_blocks : CalT l.prog w K mg base 2 "_law_blocks" spBlks := cal_mk Xb Gb d__law_blocks (ps := ["_law_archive_here"]) (fun _ _ _ _ _ _ us hl => match us, hl with | [_], _ => rfl) fun fd F => ok_blks F b_range b_len
    have c__law_written : CalT l.prog w K mg base 3 "_law_written" spLWr := cal_mk Xb Gb d__law_written (ps := ["_law_before", "_law_after"]) (fun _ _ _ _ _ _ us hl => match us, hl with | [_, _], _ => rfl) fun fd F => ok_lwr F b_range b_len c__law_blocks
    have c_blocks_of : CalT l.prog w K mg base 7 "blocks_of" (spBlocks ⟨aF, aS, aD, aY, aL⟩) := cal_mk Xb Gb d_blocks_of (ps := ["member"]) (fun _ _ _ _ _ _ us hl => match us, hl with | [_], _ => rfl) fun fd F => ok_blocks (c := ⟨aF, aS, aD, aY, aL⟩) F b_len g_BLOCK_SIZE c_packed
    have c__law_right : CalT l.prog w K mg base 11 "_law_right" (spRight ⟨aF, aS, aD, aY, aL⟩ aE) := cal_mk Xb Gb d__law_right (ps := ["_law_editor", "_law_members"]) (fun _ _ _ _ _ _ us hl => match us, hl with | [_, _], _ => rfl) fun fd F => ok_right (c := ⟨aF, aS, aD, aY, aL⟩) F b_len c_blocks_of c_written mP_Editor_archive mP_Editor_members mP_Editor_offsets mT_Editor___len__ eqms
    exact ok_law (c := ⟨aF, aS, aD, aY, aL⟩) F b_range b_max b_min b_len b_list (PySem.W.mg_of X G hEditor.ns) lEditor.lim c__law_source c__law_draw c__law_names c__law_few c__law_made c_written c__law_edit c__law_written c__law_right mk0_Editor mP_Editor_archive mT_Editor___len__ c_of
end
end Th
namespace Th
open PySem PySem.Spec PyProof.Rows L2
theorem defF_of {K : PySem.W.Frag} {x : Str} {st : Stmt} {f : Addr} (a : PySem.W.nsIn K mainGlobals x = some (some (.ref f))) (b : Hk.FnAt K x x st f ∧ PySem.W.keepIn K (.ref f) = true) : DefF K x st f := ⟨a, b.1, b.2⟩
theorem clsF_of {K : PySem.W.Frag} {x kind : Str} {C aM fI : Addr} {r : List Str} {t : Tok} (ns : PySem.W.nsIn K mainGlobals x = some (some (.ref C))) (c : Cls K C) (m : Mk K C fI)
    (k : PySem.W.findIn K (.ref C) "__class__" = some (some (.builtin "object.__class__")) ∧ PySem.W.mroIn K C (.type "object") = some true ∧ PySem.W.specialIn K (.builtin "object.__class__") "__get__" = some (some (.builtin "getset_descriptor.__get__")) ∧ PySem.W.takesIn K (.builtin "object.__class__") = some true)
    (kit : PySem.W.kitOne K (.ref C) (.ref aM) = some true) (kat : PySem.W.findIn K (.ref C) "KIND" = some (some (.str kind t))) (kget : PySem.W.specialIn K (.str kind t) "__get__" = some none) (kcl : PySem.W.findCls K (.ref C) (.type "type") "KIND" = some (.val (.str kind t)))
    (rd : Hk.readB K C = true) (na : ∀ f ∈ ("name" :: "mode" :: "time" :: r : List Str), PySem.W.findIn K (.ref C) f = some none) : ClsF K x kind C aM fI ("name" :: "mode" :: "time" :: r) := by
  obtain ⟨pg, hd, po, sa⟩ := c
  obtain ⟨mk, ini, ifn, kp⟩ := m
  obtain ⟨r1, r2⟩ := He.ba rd
  exact clsF_mk ns pg hd po sa mk ini ifn kp k.1 k.2.1 kit kat kget r1 (He.eqO_ok r2) kcl k.2.2.1 k.2.2.2 na
theorem iniF_of {K : PySem.W.Frag} {qual : Str} {st : Stmt} {b : Int} {f : Addr} (h : Hk.FnAt K "__init__" qual st f ∧ PySem.W.keepIn K (.ref f) = true) (q : Hk.kwsV K f [("mode", .int b), ("time", .int 0)] = true) : IniF K qual st b f := by
  obtain ⟨⟨oc, od, an, kV, doc, pm, cdv, ct, osl, l, cd⟩, kp⟩ := h
  obtain ⟨D, e, v⟩ := Hk.kwsV_ok q
  obtain rfl := Hk.kwAt_ok l e
  obtain ⟨t1, e1⟩ := Hk.nsI (v ("mode", .int b) (by simp))
  obtain ⟨t2, e2⟩ := Hk.nsI (v ("time", .int 0) (by simp))
  exact iniF_mk l cd kp e1 e2
theorem metF_of {K : PySem.W.Frag} {C : Addr} {m qual : Str} {st : Stmt} {f : Addr} (me : Meth K C m f) (h : Hk.FnAt K m qual st f ∧ PySem.W.keepIn K (.ref f) = true) : MetF K C m qual st f := ⟨me, h.1⟩
theorem hdrF_of {K : PySem.W.Frag} {f : Addr} (a : PySem.W.nsIn K mainGlobals "header" = some (some (.ref f))) (h : Hk.FnAt K "header" "header" s_header f ∧ PySem.W.keepIn K (.ref f) = true) (q : Hk.kwsV K f Hd.kwHdr = true) : HdrF K f := by
  obtain ⟨⟨oc, od, an, kV, doc, pm, cdv, ct, osl, l, cd⟩, kp⟩ := h
  obtain ⟨D, e, v⟩ := Hk.kwsV_ok q
  obtain rfl := Hk.kwAt_ok l e
  obtain ⟨t1, e1⟩ := Hk.nsI (v ("mode", .int 0) (by simp [Hd.kwHdr]))
  obtain ⟨t2, e2⟩ := Hk.nsI (v ("size", .int 0) (by simp [Hd.kwHdr]))
  obtain ⟨t3, e3⟩ := Hk.nsI (v ("time", .int 0) (by simp [Hd.kwHdr]))
  obtain ⟨t4, e4⟩ := Hk.nsS (v ("target", .str "") (by simp [Hd.kwHdr]))
  exact hdrF_mk a l cd kp e1 e2 e3 e4
theorem lmF_of {K : PySem.W.Frag} {W : Addr} {t : Tok} (lat : PySem.W.findIn K (.ref W) "LIMIT" = some (some (.int 100 t))) (lget : PySem.W.specialIn K (.int 100 t) "__get__" = some none) (kcl : PySem.W.findCls K (.ref W) (.type "type") "LIMIT" = some (.val (.int 100 t))) (rd : Hk.readB K W = true) : LmF K W := by
  obtain ⟨r1, r2⟩ := He.ba rd
  exact ⟨⟨_, lat, ⟨t, rfl⟩, lget, by decide⟩, ⟨_, _, ⟨r1, He.eqO_ok r2⟩, ⟨kcl, ⟨t, rfl⟩⟩⟩⟩
theorem cmF_of {K : PySem.W.Frag} {C : Addr} {m qual : Str} {st : Stmt} {p g : Addr} (rd : Hk.readB K C = true) (cm : ClX.CMet K C (.type "type") m p g) (q : Hk.FnAt K m qual st g ∧ PySem.W.keepIn K (.ref g) = true) : CmF K C m qual st p g := by
  obtain ⟨r1, r2⟩ := He.ba rd
  obtain ⟨⟨oc, od, an, kV, doc, pm, cdv, ct, osl, l, cd⟩, gk⟩ := q
  exact ⟨⟨r1, He.eqO_ok r2⟩, cm, ⟨oc, od, an, kV, doc, pm, cdv, ct, osl, l, cd⟩, gk⟩
theorem prF_of {K : PySem.W.Frag} {C : Addr} {f qual : Str} {st : Stmt} {p g : Addr} (h : PySem.W.findIn K (.ref C) f = some (some (.ref p)) ∧ PySem.W.specialIn K (.ref p) "__get__" = some (some (.builtin "property.__get__")) ∧ PySem.W.takesIn K (.ref p) = some true ∧ ∃ rest, PySem.W.recIn K p "property" = some (.ref g :: rest))
    (q : Hk.FnAt K f qual st g ∧ PySem.W.keepIn K (.ref g) = true) : PrF K C f qual st p g := by
  obtain ⟨p1, p2, p3, p4⟩ := h
  obtain ⟨⟨oc, od, an, kV, doc, pm, cdv, ct, osl, l, cd⟩, gk⟩ := q
  exact ⟨⟨p1, p2, p3, p4⟩, ⟨oc, od, an, kV, doc, pm, cdv, ct, osl, l, cd⟩, gk⟩
theorem defA_of {K : PySem.W.Frag} {x n : Str} {st : Stmt} {f : Addr} (a : PySem.W.nsIn K mainGlobals x = some (some (.ref f))) (b : Hk.FnAt K n n st f ∧ PySem.W.keepIn K (.ref f) = true) : DefA K x n st f := ⟨a, b.1, b.2⟩
theorem eqF_of {K : PySem.W.Frag} {C f : Addr} (h : Meth K C "__eq__" f ∧ PySem.W.findIn K (.ref C) "__ne__" = some (some (.builtin "object.__ne__")) ∧ PySem.W.subIn K (.ref C) (.type "object") = some true) : EqF K C f := ⟨h.1.at_, h.1.fn, h.2.1, h.2.2⟩
theorem keys_of {P : Params} : ∀ {l : List DictEntry} {ks : List Str}, l.map He.keyOf = He.keysIn P ks → ∀ e ∈ l, ∃ x t, x ∈ ks ∧ e.key = .str x t
  | [], _, _, e, he => nomatch he
  | d :: l, [], h, e, he => by cases h
  | d :: l, k :: ks, h, e, he => by
    have h1 : He.keyOf d :: l.map He.keyOf = some (k, PyData.keyHash P k) :: He.keysIn P ks := h
    injection h1 with h2 h3
    rcases List.mem_cons.mp he with rfl | he
    · unfold He.keyOf at h2
      split at h2
      · rename_i x t q
        obtain ⟨h5, h6⟩ := Prod.mk.inj (Option.some.inj h2)
        exact ⟨x, t, by rw [h5]; exact List.mem_cons_self, q⟩
      · cases h2
    · obtain ⟨x, t, h4, h5⟩ := keys_of h3 e he
      exact ⟨x, t, List.mem_cons_of_mem _ h4, h5⟩
theorem dic_none {K : PySem.W.Frag} {P : Params} {a : Addr} {ks : List Str} {z : Str} (h : He.dicW K a = some (He.keysIn P ks)) (hz : z ∉ ks) : PySem.W.nsIn K a z = some none := by
  unfold He.dicW at h
  unfold PySem.W.nsIn
  cases q : K.lookup a with
  | none =>
    rw [q] at h
    cases h
  | some o =>
    obtain ⟨oc, od, dt, osl⟩ := o
    rw [q] at h
    cases oc with
    | type c =>
      cases od with
      | none =>
        cases dt with
        | dict es n =>
          have h1 : (match decide (c = "dict") && (osl.isEmpty && !(a == sysModules)) with
            | true => some (es.toList.map He.keyOf)
            | false => none) = some (He.keysIn P ks) := h
          have h2 : es.toList.map He.keyOf = He.keysIn P ks := by
            revert h1
            split
            · exact fun h => Option.some.inj h
            · exact fun h => by cases h
          have hk := keys_of h2
          have f1 : es.toList.find? (fun e => e.key.isStr z) = none := by
            rw [List.find?_eq_none]
            intro e he
            obtain ⟨x, t, hx, ek⟩ := hk e he
            rw [ek]
            intro hc
            have : x = z := by simpa [Value.isStr] using hc
            exact hz (this ▸ hx)
          have f2 : es.toList.any (fun e => e.refKey) = false := by
            rw [List.any_eq_false]
            intro e he
            obtain ⟨x, t, hx, ek⟩ := hk e he
            unfold DictEntry.refKey
            rw [ek]
            exact Bool.false_ne_true
          show (match es.toList.find? (fun e => e.key.isStr z) with
            | some e => some (some e.val)
            | none => if es.toList.any (fun e => e.refKey) = true then none else some none) = _
          rw [f1]
          show (if es.toList.any (fun e => e.refKey) = true then none else some none) = _
          rw [f2]
          rfl
        | _ => cases h
      | some _ => cases h
    | _ => cases h
theorem kdG_of {K : PySem.W.Frag} {w : World} {aSZ aLK aTK aBL : Addr} (d : He.dicW K aSZ = some (He.keysIn w.params ["0", "S", "K", "L", "5", "2", "1"]))
    (f : (([("0", ((0 : Int), (4096 : Int))), ("S", ((512 : Int), (4608 : Int))), ("K", ((102 : Int), (251 : Int))), ("L", ((102 : Int), (251 : Int))), ("5", ((0 : Int), (0 : Int))), ("2", ((0 : Int), (0 : Int))), ("1", ((0 : Int), (0 : Int)))] : List (PySem.Str × Int × Int)).all fun q => Hk.ntB K aSZ q.1 [.int q.2.1, .int q.2.2]) = true)
    (lk : ∀ H, SqT K H aLK [.str "K", .str "L"]) (tk : ∀ H, SqT K H aTK [.str "1", .str "2"]) (bl : ∀ H, SqT K H aBL [.str "L", .str "1", .str "2"]) : KdG K w aSZ aLK aTK aBL := by
  obtain ⟨es, n, D⟩ := He.dicW_ok d
  have g := fun (q : PySem.Str × Int × Int) hq => Hk.ntB_ok (List.all_eq_true.mp f q hq)
  refine ⟨fun x hx => ?_, lk, tk, bl⟩
  rcases hx with ⟨l, rfl, _⟩ | rfl
  · cases hz : szOf l with
    | none =>
      refine .inl ⟨hz, es, n, D.at_, D.lit, D.low, .inl ⟨l, rfl, none, dic_none d (fun hm => ?_), .inl ⟨rfl, rfl⟩⟩⟩
      simp only [List.mem_cons, List.not_mem_nil, or_false] at hm
      rcases hm with rfl | rfl | rfl | rfl | rfl | rfl | rfl <;> exact absurd hz (by decide +kernel)
    | some m =>
      have hq : (l, m.1, m.2) ∈ ([("0", ((0 : Int), (4096 : Int))), ("S", ((512 : Int), (4608 : Int))), ("K", ((102 : Int), (251 : Int))), ("L", ((102 : Int), (251 : Int))), ("5", ((0 : Int), (0 : Int))), ("2", ((0 : Int), (0 : Int))), ("1", ((0 : Int), (0 : Int)))] : List (PySem.Str × Int × Int)) := by
        rcases sz_cases hz with ⟨rfl, rfl⟩ | ⟨rfl, rfl⟩ | ⟨rfl, rfl⟩ | ⟨rfl, rfl⟩ | ⟨rfl, rfl⟩ | ⟨rfl, rfl⟩ | ⟨rfl, rfl⟩ <;> simp
      obtain ⟨e1, e2⟩ := g _ hq
      exact .inr ⟨m, _, hz, ⟨es, n, D.at_, D.lit, D.low, .inl ⟨l, rfl, _, e1, .inr ⟨_, _, rfl, rfl, rfl⟩⟩⟩, e2⟩
  · exact .inl ⟨rfl, es, n, D.at_, D.lit, D.low, .inr ⟨rfl, rfl⟩⟩
end Th
namespace Hd
open PySem PySem.Spec PyProof.Rows L2
theorem facts_ {l : PySem.W.OpenLaw} {w : World} {K : PySem.W.Frag} {h : Heap} {mg : Str → Option Value} {fa_ : Addr} (X : K.In h) (G : h.Ns mainGlobals mg) (hfa : mg "law" = some (.ref fa_)) (c : ∀ x ∈ cks, x.Says w K) :
    ∃ fd : FuncData, (∀ (s : Shared) (v : Value), BindsTo s fd ⟨[v], []⟩ [("_law_script", v)]) ∧ ∀ base : Heap, K.In base → base.Ns mainGlobals mg → Th.FnG l.prog w K mg base 15 fa_ fd ["_law_script"] (Th.spLaw K) := by
  have f0 : Hk.SaysX fa0_ fn0_ ts w K := c ck_f0 (by simp [cks])
  have f1 : Hk.SaysX fa1_ fn1_ [] w K := c ck_f1 (by simp [cks])
  obtain ⟨_, n_MOST_CHARACTERS⟩ := Hk.nsI (f0.fact 61)
  obtain ⟨_, n_NAME_CHARACTERS⟩ := Hk.nsS (f0.fact 62)
  obtain ⟨_, n_MOST_BYTES⟩ := Hk.nsI (f0.fact 63)
  obtain ⟨_, n_LAST_MODE⟩ := Hk.nsI (f0.fact 64)
  obtain ⟨_, n_LAST_TIME⟩ := Hk.nsI (f0.fact 65)
  obtain ⟨_, n_MOST_PIECES⟩ := Hk.nsI (f0.fact 66)
  obtain ⟨_, n_TEXT_SIZE⟩ := Hk.nsI (f0.fact 67)
  obtain ⟨_, n_BLOCK_SIZE⟩ := Hk.nsI (f0.fact 68)
  obtain ⟨_, n_MAGIC⟩ := Hk.nsB (f0.fact 69)
  obtain ⟨_, n_REST_SIZE⟩ := Hk.nsI (f0.fact 70)
  obtain ⟨_, n_LONG_NAME⟩ := Hk.nsS (f0.fact 71)
  obtain ⟨_, n_MAP_BYTES⟩ := Hk.nsB (f0.fact 77)
  obtain ⟨_, n_END_SIZE⟩ := Hk.nsI (f0.fact 78)
  obtain ⟨_, kat_hF, kget_hF, kcl_hF⟩ := Hk.conS (f0.fact 80)
  obtain ⟨_, kat_hS, kget_hS, kcl_hS⟩ := Hk.conS (f0.fact 89)
  obtain ⟨_, kat_hD, kget_hD, kcl_hD⟩ := Hk.conS (f0.fact 98)
  obtain ⟨_, kat_hY, kget_hY, kcl_hY⟩ := Hk.conS (f1.fact 1)
  obtain ⟨_, kat_hL, kget_hL, kcl_hL⟩ := Hk.conS (f1.fact 10)
  obtain ⟨_, _, KDX⟩ := He.dicW_ok (w := w) (f0.tab 0)
  obtain ⟨_, kc0⟩ := Hk.nsS (f1.fact 38)
  obtain ⟨_, kc1⟩ := Hk.nsS (f1.fact 39)
  obtain ⟨_, kc2⟩ := Hk.nsS (f1.fact 40)
  obtain ⟨_, kc3⟩ := Hk.nsS (f1.fact 41)
  obtain ⟨_, kc4⟩ := Hk.nsS (f1.fact 42)
  obtain ⟨_, latEditor, lgetEditor, lclEditor⟩ := Hk.conI (f1.fact 73)
  exact Th.all_mk X G hfa
    (Th.defF_of (He.eqO_ok (f0.fact 0)) (f0.def_ 0 (d := Hd.fn_0)))
    (Th.defF_of (He.eqO_ok (f0.fact 1)) (f0.def_ 1 (d := Hd.fn_1)))
    (Th.defF_of (He.eqO_ok (f0.fact 2)) (f0.def_ 2 (d := Hd.fn_2)))
    (Th.defF_of (He.eqO_ok (f0.fact 3)) (f0.def_ 3 (d := Hd.fn_3)))
    (Th.defF_of (He.eqO_ok (f0.fact 4)) (f0.def_ 4 (d := Hd.fn_4)))
    (Th.defF_of (He.eqO_ok (f0.fact 5)) (f0.def_ 5 (d := Hd.fn_5)))
    (Th.defF_of (He.eqO_ok (f0.fact 6)) (f0.def_ 6 (d := Hd.fn_6)))
    (Th.defF_of (He.eqO_ok (f0.fact 7)) (f0.def_ 7 (d := Hd.fn_7)))
    (Th.defF_of (He.eqO_ok (f0.fact 8)) (f0.def_ 8 (d := Hd.fn_8)))
    (Th.defF_of (He.eqO_ok (f0.fact 9)) (f0.def_ 9 (d := Hd.fn_9)))
    (Th.defF_of (He.eqO_ok (f0.fact 10)) (f0.def_ 10 (d := Hd.fn_10)))
    (Th.defF_of (He.eqO_ok (f0.fact 11)) (f0.def_ 11 (d := Hd.fn_11)))
    (Th.defF_of (He.eqO_ok (f0.fact 12)) (f0.def_ 12 (d := Hd.fn_12)))
    (Th.defF_of (He.eqO_ok (f0.fact 13)) (f0.def_ 13 (d := Hd.fn_13)))
    (Th.defF_of (He.eqO_ok (f0.fact 14)) (f0.def_ 14 (d := Hd.fn_14)))
    (Th.defF_of (He.eqO_ok (f0.fact 15)) (f0.def_ 15 (d := Hd.fn_15)))
    (Th.defF_of (He.eqO_ok (f0.fact 16)) (f0.def_ 16 (d := Hd.fn_16)))
    (Th.defF_of (He.eqO_ok (f0.fact 17)) (f0.def_ 17 (d := Hd.fn_17)))
    (Th.defF_of (He.eqO_ok (f0.fact 18)) (f0.def_ 18 (d := Hd.fn_18)))
    (Th.defF_of (He.eqO_ok (f0.fact 19)) (f0.def_ 19 (d := Hd.fn_19)))
    (Th.defF_of (He.eqO_ok (f0.fact 20)) (f0.def_ 20 (d := Hd.fn_20)))
    (Th.defF_of (He.eqO_ok (f0.fact 21)) (f0.def_ 21 (d := Hd.fn_21)))
    (Th.defF_of (He.eqO_ok (f0.fact 22)) (f0.def_ 22 (d := Hd.fn_22)))
    (Th.defF_of (He.eqO_ok (f0.fact 23)) (f0.def_ 23 (d := Hd.fn_23)))
    (Th.defF_of (He.eqO_ok (f0.fact 24)) (f0.def_ 24 (d := Hd.fn_24)))
    (Th.defF_of (He.eqO_ok (f0.fact 25)) (f0.def_ 25 (d := Hd.fn_25)))
    (Th.defF_of (He.eqO_ok (f0.fact 26)) (f0.def_ 26 (d := Hd.fn_26)))
    (Th.defF_of (He.eqO_ok (f0.fact 27)) (f0.def_ 27 (d := Hd.fn_27)))
    (Th.defF_of (He.eqO_ok (f0.fact 28)) (f0.def_ 28 (d := Hd.fn_28)))
    (Th.defF_of (He.eqO_ok (f0.fact 29)) (f0.def_ 29 (d := Hd.fn_29)))
    (Th.defF_of (He.eqO_ok (f0.fact 30)) (f0.def_ 30 (d := Hd.fn_30)))
    (Th.defF_of (He.eqO_ok (f0.fact 31)) (f0.def_ 31 (d := Hd.fn_31)))
    (Th.defF_of (He.eqO_ok (f0.fact 32)) (f0.def_ 32 (d := Hd.fn_32)))
    (Th.defF_of (He.eqO_ok (f0.fact 33)) (f0.def_ 33 (d := Hd.fn_33)))
    (Th.defF_of (He.eqO_ok (f0.fact 34)) (f0.def_ 34 (d := Hd.fn_34)))
    (Th.defF_of (He.eqO_ok (f0.fact 35)) (f0.def_ 35 (d := Hd.fn_35)))
    (Th.defF_of (He.eqO_ok (f0.fact 36)) (f0.def_ 36 (d := Hd.fn_36)))
    (Th.defF_of (He.eqO_ok (f0.fact 37)) (f0.def_ 37 (d := Hd.fn_37)))
    (Th.defF_of (He.eqO_ok (f0.fact 38)) (f0.def_ 38 (d := Hd.fn_38)))
    (Th.defF_of (He.eqO_ok (f0.fact 39)) (f0.def_ 39 (d := Hd.fn_39)))
    (Th.defF_of (He.eqO_ok (f0.fact 40)) (f0.def_ 40 (d := Hd.fn_40)))
    (Th.defF_of (He.eqO_ok (f0.fact 41)) (f0.def_ 41 (d := Hd.fn_41)))
    (Th.defF_of (He.eqO_ok (f0.fact 42)) (f0.def_ 42 (d := Hd.fn_42)))
    (Th.defF_of (He.eqO_ok (f0.fact 43)) (f0.def_ 43 (d := Hd.fn_43)))
    (Th.defF_of (He.eqO_ok (f0.fact 44)) (f0.def_ 44 (d := Hd.fn_44)))
    (Th.defF_of (He.eqO_ok (f0.fact 45)) (f0.def_ 45 (d := Hd.fn_45)))
    (Th.defF_of (He.eqO_ok (f0.fact 46)) (f0.def_ 46 (d := Hd.fn_46)))
    (Th.defF_of (He.eqO_ok (f0.fact 47)) (f1.def_ 0 (d := Hd.fn_47)))
    (Th.defF_of (He.eqO_ok (f0.fact 48)) (f1.def_ 1 (d := Hd.fn_48)))
    (Th.defF_of (He.eqO_ok (f0.fact 49)) (f1.def_ 2 (d := Hd.fn_49)))
    (Th.defF_of (He.eqO_ok (f0.fact 50)) (f1.def_ 3 (d := Hd.fn_50)))
    (Th.defF_of (He.eqO_ok (f0.fact 51)) (f1.def_ 4 (d := Hd.fn_51)))
    (Th.defF_of (He.eqO_ok (f0.fact 52)) (f1.def_ 5 (d := Hd.fn_52)))
    (Th.defF_of (He.eqO_ok (f0.fact 53)) (f1.def_ 6 (d := Hd.fn_53)))
    (Th.defF_of (He.eqO_ok (f0.fact 54)) (f1.def_ 7 (d := Hd.fn_54)))
    (Th.defF_of (He.eqO_ok (f0.fact 55)) (f1.def_ 8 (d := Hd.fn_55)))
    (Th.defF_of (He.eqO_ok (f0.fact 56)) (f1.def_ 9 (d := Hd.fn_56)))
    (Th.defA_of (He.eqO_ok (f0.fact 57)) (f1.def_ 10 (d := Hd.fn_57)))
    (Th.defA_of (He.eqO_ok (f0.fact 58)) (f1.def_ 11 (d := Hd.fn_58)))
    (Th.hdrF_of (He.eqO_ok (f0.fact 59)) (f1.def_ 12 (d := Hd.fn_59)) (f0.fact 60))
    n_MOST_CHARACTERS
    n_NAME_CHARACTERS
    n_MOST_BYTES
    n_LAST_MODE
    n_LAST_TIME
    n_MOST_PIECES
    n_TEXT_SIZE
    n_BLOCK_SIZE
    n_MAGIC
    n_REST_SIZE
    n_LONG_NAME
    (He.eqO_ok (f0.fact 72))
    (He.eqO_ok (f0.fact 73))
    (He.eqO_ok (f0.fact 74))
    (He.eqO_ok (f0.fact 75))
    (He.eqO_ok (f0.fact 76))
    n_MAP_BYTES
    n_END_SIZE
    (He.eqO_ok (f0.fact 79))
    (Th.clsF_of (He.eqO_ok (f0.fact 81)) (Hk.clsB_ok (f0.fact 82)) (Hk.mkB_ok (f0.fact 83)) (Hk.kindB_ok (f0.fact 84)) (Hk.kitB_ok (f0.fact 85)) kat_hF kget_hF kcl_hF (f0.fact 86) (Hk.noB_ok (f0.fact 87)))
    (Th.iniF_of (f1.def_ 13 (d := Hd.fn_60)) (f0.fact 88))
    (Th.clsF_of (He.eqO_ok (f0.fact 90)) (Hk.clsB_ok (f0.fact 91)) (Hk.mkB_ok (f0.fact 92)) (Hk.kindB_ok (f0.fact 93)) (Hk.kitB_ok (f0.fact 94)) kat_hS kget_hS kcl_hS (f0.fact 95) (Hk.noB_ok (f0.fact 96)))
    (Th.iniF_of (f1.def_ 14 (d := Hd.fn_61)) (f0.fact 97))
    (Th.clsF_of (He.eqO_ok (f0.fact 99)) (Hk.clsB_ok (f0.fact 100)) (Hk.mkB_ok (f0.fact 101)) (Hk.kindB_ok (f0.fact 102)) (Hk.kitB_ok (f0.fact 103)) kat_hD kget_hD kcl_hD (f0.fact 104) (Hk.noB_ok (f0.fact 105)))
    (Th.iniF_of (f1.def_ 15 (d := Hd.fn_62)) (f1.fact 0))
    (Th.clsF_of (He.eqO_ok (f1.fact 2)) (Hk.clsB_ok (f1.fact 3)) (Hk.mkB_ok (f1.fact 4)) (Hk.kindB_ok (f1.fact 5)) (Hk.kitB_ok (f1.fact 6)) kat_hY kget_hY kcl_hY (f1.fact 7) (Hk.noB_ok (f1.fact 8)))
    (Th.iniF_of (f1.def_ 16 (d := Hd.fn_63)) (f1.fact 9))
    (Th.clsF_of (He.eqO_ok (f1.fact 11)) (Hk.clsB_ok (f1.fact 12)) (Hk.mkB_ok (f1.fact 13)) (Hk.kindB_ok (f1.fact 14)) (Hk.kitB_ok (f1.fact 15)) kat_hL kget_hL kcl_hL (f1.fact 16) (Hk.noB_ok (f1.fact 17)))
    (Th.iniF_of (f1.def_ 17 (d := Hd.fn_64)) (f1.fact 18))
    (Hk.kitB_ok (f1.fact 19))
    (Hk.kitB_ok (f1.fact 20))
    (Hk.kitB_ok (f1.fact 21))
    (Hk.kitB_ok (f1.fact 22))
    (Hk.kitB_ok (f1.fact 23))
    (Hk.kitB_ok (f1.fact 24))
    (Hk.kitB_ok (f1.fact 25))
    (Hk.kitB_ok (f1.fact 26))
    (Hk.kitB_ok (f1.fact 27))
    (Hk.kitB_ok (f1.fact 28))
    (Hk.kitB_ok (f1.fact 29))
    (Hk.kitB_ok (f1.fact 30))
    (Hk.kitB_ok (f1.fact 31))
    (Hk.kitB_ok (f1.fact 32))
    (Hk.kitB_ok (f1.fact 33))
    (Hk.kitB_ok (f1.fact 34))
    (Hk.kitB_ok (f1.fact 35))
    (Hk.kitB_ok (f1.fact 36))
    (Hk.kitB_ok (f1.fact 37))
    KDX.at_
    KDX.lit
    kc0
    kc1
    kc2
    kc3
    kc4
    (Th.kdG_of (w := w) (f0.tab 1) (f1.fact 43) (Hk.tupB_ok (f1.fact 44)) (Hk.tupB_ok (f1.fact 45)) (Hk.tupB_ok (f1.fact 46)))
    ⟨He.eqO_ok (f1.fact 47), Hk.clsB_ok (f1.fact 48), Hk.mkB_ok (f1.fact 49), Hk.noB_ok (f1.fact 50)⟩
    (Th.metF_of (Hk.methB_ok (f1.fact 51)) (f1.def_ 18 (d := Hd.fn_65)))
    ⟨He.eqO_ok (f1.fact 52), Hk.clsB_ok (f1.fact 53), Hk.mkB_ok (f1.fact 54), Hk.noB_ok (f1.fact 55)⟩
    (Th.metF_of (Hk.methB_ok (f1.fact 56)) (f1.def_ 19 (d := Hd.fn_66)))
    (Th.metF_of (Hk.methB_ok (f1.fact 57)) (f1.def_ 20 (d := Hd.fn_67)))
    (Th.metF_of (Hk.methB_ok (f1.fact 58)) (f1.def_ 21 (d := Hd.fn_68)))
    (Th.metF_of (Hk.methB_ok (f1.fact 59)) (f1.def_ 22 (d := Hd.fn_69)))
    (Th.metF_of (Hk.methB_ok (f1.fact 60)) (f1.def_ 23 (d := Hd.fn_70)))
    (Th.metF_of (Hk.methB_ok (f1.fact 61)) (f1.def_ 24 (d := Hd.fn_71)))
    (Th.metF_of (Hk.methB_ok (f1.fact 62)) (f1.def_ 25 (d := Hd.fn_72)))
    (Th.metF_of (Hk.methB_ok (f1.fact 63)) (f1.def_ 26 (d := Hd.fn_73)))
    (Th.metF_of (Hk.methB_ok (f1.fact 64)) (f1.def_ 27 (d := Hd.fn_74)))
    (Hk.kitB_ok (f1.fact 65))
    (Hk.kitB_ok (f1.fact 66))
    (Hk.kitB_ok (f1.fact 67))
    ⟨He.eqO_ok (f1.fact 68), Hk.clsB_ok (f1.fact 69), Hk.mkB_ok (f1.fact 70), Hk.noB_ok (f1.fact 71)⟩
    (Th.metF_of (Hk.methB_ok (f1.fact 72)) (f1.def_ 28 (d := Hd.fn_75)))
    (Th.lmF_of latEditor lgetEditor lclEditor (f1.fact 74))
    (Th.metF_of (Hk.methB_ok (f1.fact 75)) (f1.def_ 29 (d := Hd.fn_76)))
    (Th.prF_of (Hk.propB_ok (f1.fact 76)) (f1.def_ 30 (d := Hd.fn_77)))
    (Th.prF_of (Hk.propB_ok (f1.fact 77)) (f1.def_ 31 (d := Hd.fn_78)))
    (Th.prF_of (Hk.propB_ok (f1.fact 78)) (f1.def_ 32 (d := Hd.fn_79)))
    (Th.metF_of (Hk.methB_ok (f1.fact 79)) (f1.def_ 33 (d := Hd.fn_80)))
    (Th.metF_of (Hk.methB_ok (f1.fact 80)) (f1.def_ 34 (d := Hd.fn_81)))
    (Th.metF_of (Hk.methB_ok (f1.fact 81)) (f1.def_ 35 (d := Hd.fn_82)))
    (Th.metF_of (Hk.methB_ok (f1.fact 82)) (f1.def_ 36 (d := Hd.fn_83)))
    (Th.metF_of (Hk.methB_ok (f1.fact 83)) (f1.def_ 37 (d := Hd.fn_84)))
    (Th.cmF_of (f1.fact 74) (Hk.cmetB_ok (f1.fact 84)) (f1.def_ 38 (d := Hd.fn_85)))
    (Th.metF_of (Hk.methB_ok (f1.fact 85)) (f1.def_ 39 (d := Hd.fn_86)))
    (Th.eqF_of (Hk.eqB_ok (f1.fact 86)))
    (Th.metF_of (Hk.methB_ok (f1.fact 87)) (f1.def_ 40 (d := Hd.fn_87)))
    (Th.eqF_of (Hk.eqB_ok (f1.fact 88)))
    (Th.metF_of (Hk.methB_ok (f1.fact 89)) (f1.def_ 41 (d := Hd.fn_88)))
    (Th.eqF_of (Hk.eqB_ok (f1.fact 90)))
    (Th.metF_of (Hk.methB_ok (f1.fact 91)) (f1.def_ 42 (d := Hd.fn_89)))
    (Th.eqF_of (Hk.eqB_ok (f1.fact 92)))
    (Th.metF_of (Hk.methB_ok (f1.fact 93)) (f1.def_ 43 (d := Hd.fn_90)))
    (Th.eqF_of (Hk.eqB_ok (f1.fact 94)))
    (fun b hb => He.eqO_ok (List.all_eq_true.mp (show ((["isinstance", "bool", "int", "list", "tuple", "all", "bytes", "str", "len", "abs", "range", "sum", "max", "min"] : List Str).all fun b => Hk.freeV b K) = true from (f1.fact 95)) b hb))
end Hd
open PySem PySem.W PySem.Calls PyProof.Rows
set_option maxRecDepth 100000 in
set_option maxHeartbeats 0 in
theorem PySem.Challenge.cw_tarhouse_k40_archives_edited_holds : PySem.Challenge.rw_tarhouse_k40_archives_edited.Holds := by
  refine Hd.early_ ?_
  refine Th.walkGE (l := PySem.Challenge.rw_tarhouse_k40_archives_edited) (n := 63) (k := 15) (x := "_law_script") (sp := fun _ K => Th.spLaw K) rfl (by decide) (by kernel_rfl) ⟨rfl, by decide, by decide⟩ ?F (fun _ _ _ a ns hl _ hS => ⟨a, ns, rfl, hS, hl, fun _ => rfl⟩)
  intro w mg fa h Y G hmg0
  obtain ⟨K, KX, c⟩ := Y
  have hmg : mg ("law" : PySem.Str) = some (.ref fa) := by
    have e : (HandSHeadRun.topDef (OpenLaw.row PySem.Challenge.rw_tarhouse_k40_archives_edited).prog 118).name = ("law" : PySem.Str) := by kernel_rfl
    rw [← e]
    exact hmg0
  exact ⟨K, KX, Hd.facts_ KX G hmg c⟩
