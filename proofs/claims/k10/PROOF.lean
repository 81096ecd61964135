import PyProof.Rows.All
import Wide.All
import OpenK.AllK
import Wide.FinOn
import HandS.ForMost
import HandS.Exc
import HandS.TryOnly
import HandS.ExcOwn
import HandS.WordsExc
import HandS.ExcInit
import HandS.ExcField
import HandS.IsInst
import HandS.Walk
import HandS.Conv
import HandS.Wide
import HandS.TryMany
import HandS.CallSlots
import HandS.Flow
import HandS.Deep
import HandS.Star
import HandS.MethStar
import HandS.ExcIs
import HandS.Rev
import HandS.More
import KE.GoesEnum
import KE.GoesMore
import HandS.ListEq
import HandS.DictEq
import HandS.DeepEq
import HandS.OwnEq
import HandS.Codes
import KE.KExcIs
import HandS.DictComp
import HandS.Dict
import HandS.NoneIn
import HandS.TupSets
import HandS.Text
import HandS.Property
import KE.SortData
import HandS.TupAny
import PyProof.P3In
import HandS.FStr
import KE.KRevSl
import PyProof.InstEq
import HandS.CallLocal
import HandS.Gcd
import KE.SortKeyHeap
import HandS.Head0
import HandS.Head1
import HandS.Head2
import HandS.Head3
import HandS.HeadEnd
import HandS.HeadHook1
import HandS.HeadHook2
import HandS.HeadHook3
import HandS.SortKw
import KE.DataMinMax
import HandS.Style
import HandS.RaiseMore
import HandS.ClsMeth
import PySem.Challenge.RW_dimmerlog_k10_nodes
set_option Elab.async false
set_option linter.all false
set_option maxRecDepth 100000
set_option maxHeartbeats 4000000
namespace Dl
open PySem L2
def top (i : Nat) : Stmt := PySem.Challenge.pw_dimmerlog_k10_nodes.main.body.getD i (.Pass ⟨0, 0, 0, 0⟩)
abbrev sWall : Stmt := top 1
abbrev sLeafInit : Stmt := inClass (top 4) 1
abbrev sLeafLeaves : Stmt := inClass (top 4) 2
abbrev sLeafMany : Stmt := inClass (top 4) 3
abbrev sLeafShape : Stmt := inClass (top 4) 4
abbrev sLeafText : Stmt := inClass (top 4) 5
abbrev sLeafBegins : Stmt := inClass (top 4) 6
abbrev sBranchInit : Stmt := inClass (top 5) 0
abbrev sGroupLeaves : Stmt := inClass (top 6) 1
abbrev sGroupMany : Stmt := inClass (top 6) 2
abbrev sGroupShape : Stmt := inClass (top 6) 3
abbrev sGroupText : Stmt := inClass (top 6) 4
abbrev sGroupBegins : Stmt := inClass (top 6) 5
abbrev sRowLeaves : Stmt := inClass (top 7) 1
abbrev sRowMany : Stmt := inClass (top 7) 2
abbrev sRowShape : Stmt := inClass (top 7) 3
abbrev sRowText : Stmt := inClass (top 7) 4
abbrev sRowBegins : Stmt := inClass (top 7) 5
abbrev sLeavesOf : Stmt := top 8
abbrev sManyWithin : Stmt := top 9
abbrev sTextsOf : Stmt := top 10
abbrev sBag : Stmt := top 12
abbrev sTake : Stmt := top 13
abbrev sLawName : Stmt := top 14
abbrev sLawNames : Stmt := top 15
abbrev sLawIsInteger : Stmt := top 16
abbrev sLawShape : Stmt := top 17
abbrev sLawNode : Stmt := top 18
abbrev sLawWays : Stmt := top 19
abbrev sLawExpand : Stmt := top 20
abbrev sLawShapeText : Stmt := top 21
abbrev sLawKindOk : Stmt := top 22
abbrev sLaw : Stmt := top 23
end Dl

/-! the head's facts read by a Hook, as propositions that can be decided over the written part (my own rules) -/
namespace Dl
open PySem PySem.Spec PyProof.Rows L2
structure FnX where
  at_ : PySem.W.Frag → Addr
  name : Str
  qual : Str
  st : Stmt
def fnX (K : PySem.W.Frag) (a : Addr) : He.FnV := match K.lookup a with
  | some ⟨_, _, .func fd, _⟩ => some (fd.name, fd.qualname, fd.params, fd.body, fd.scope, fd.globals, fd.closure, fd.defaults, fd.builtins)
  | _ => none
def FnX.val (d : FnX) : He.FnV := some (d.name, d.qual, defArgs d.st, .stmts (defBody d.st), defScope d.st, mainGlobals, [], .none, builtinsNs)
def FnX.ok (K : PySem.W.Frag) (d : FnX) : Bool := PySem.W.keepIn K (.ref (d.at_ K)) && (match K.lookup (d.at_ K) with
  | some ⟨_, _, .func fd, _⟩ => PySem.W.codeIn K fd.code d.qual
  | _ => false)
theorem FnX.fun_ {K : PySem.W.Frag} {d : FnX} (e : fnX K (d.at_ K) = d.val) (c : d.ok K = true) : ∃ fd, Fun K d.name d.qual d.st (d.at_ K) fd := by
  obtain ⟨kp, c2⟩ := Bool.and_eq_true_iff.mp (show (PySem.W.keepIn K (.ref (d.at_ K)) && (match K.lookup (d.at_ K) with
    | some ⟨_, _, .func fd, _⟩ => PySem.W.codeIn K fd.code d.qual
    | _ => false)) = true from c)
  unfold fnX at e
  cases q : K.lookup (d.at_ K) with
  | none =>
    rw [q] at c2
    cases c2
  | some o =>
    obtain ⟨oc, od, dt, osl⟩ := o
    rw [q] at c2 e
    cases dt with
    | func fd =>
      obtain ⟨n1, n2, n3, n4, n5, n6, n7, n8, n9, n10, n11, n12, n13, n14, n15⟩ := fd
      have e2 : (some (n1, n2, n3, n4, n5, n6, n7, n8, n15) : He.FnV) = some (d.name, d.qual, defArgs d.st, .stmts (defBody d.st), defScope d.st, mainGlobals, [], .none, builtinsNs) := e
      simp only [Option.some.injEq, Prod.mk.injEq] at e2
      obtain ⟨h1, h2, h3, h4, h5, h6, h7, h8, h9⟩ := e2
      subst h1 h2 h3 h4 h5 h6 h7 h8 h9
      exact ⟨_, ⟨oc, od, n9, n10, n11, n12, n13, n14, osl, rfl, q, c2⟩, kp⟩
    | _ => cases c2
def excX (K : PySem.W.Frag) (C : Addr) : Bool := match K.lookup C with
  | some ⟨.type t, _, .cls cd, sl⟩ => (match cd.mro, sl.toList with
    | .ref C' :: bm, [_, _, _, _, some (.builtin n), _] => decide (t = "type") && (decide (C' = C) && (decide (n = "ValueError.__new__") && (!cd.hasDel && (cd.hasDict && PySem.HandSPX.refsVE bm))))
    | _, _ => false)
  | _ => false
theorem excX_ok {K : PySem.W.Frag} {C : Addr} (h : excX K C = true) : ∃ nm q N bs bm sn sub ab col dd k0 k1 k2 k3 k5, K.lookup C = some (excClassObj nm q C N bs bm true sn sub ab col dd k0 k1 k2 k3 k5 "ValueError.__new__") ∧ PySem.HandSPX.refsVE bm = true := by
  unfold excX at h
  split at h
  · rename_i t dd cd sl hl
    split at h
    · rename_i C' bm k0 k1 k2 k3 n k5 hm hs
      simp only [Bool.and_eq_true, decide_eq_true_eq, Bool.not_eq_true'] at h
      obtain ⟨rfl, rfl, rfl, hdel, hdct, hv⟩ := h
      obtain ⟨nm, bs, mro, ns, qn, hd, sn, sub, ab, col, del⟩ := cd
      dsimp only at hm hdel hdct
      subst hm hdel hdct
      have hsl : sl = #[k0, k1, k2, k3, some (.builtin "ValueError.__new__"), k5] := by
        obtain ⟨l⟩ := sl
        simp only at hs
        rw [hs]
      subst hsl
      exact ⟨_, _, _, _, _, _, _, _, _, _, _, _, _, _, _, hl, hv⟩
    · cases h
  · cases h
def keyS : Value → Option Str
  | .str x _ => some x
  | _ => none
theorem keyS_of (e : DictEntry) : keyS e.key = (He.keyOf e).map Prod.fst := by
  unfold keyS He.keyOf
  cases e.key <;> rfl
theorem dicX_ok {K : PySem.W.Frag} {w : World} {a : Addr} {ks : List Str} (h : He.dicW K a = some (He.keysIn w.params ks)) : ∃ es n, K.lookup a = some ⟨.type "dict", none, .dict es n, #[]⟩ ∧ PySem.W.KeysLit w.params es.toList ∧ (a == sysModules) = false ∧ es.toList.map (fun e => keyS e.key) = ks.map some := by
  obtain ⟨es, n, D⟩ := He.dicW_ok h
  refine ⟨es, n, D.at_, D.lit, D.low, ?_⟩
  unfold He.dicW at h
  rw [D.at_] at h
  have h1 : (match decide (("dict" : String) = "dict") && ((#[] : Array (Option Value)).isEmpty && !(a == sysModules)) with
    | true => some (es.toList.map He.keyOf)
    | false => none) = some (He.keysIn w.params ks) := h
  rw [D.low] at h1
  have h2 : es.toList.map He.keyOf = He.keysIn w.params ks := Option.some.inj h1
  have h3 : (es.toList.map He.keyOf).map (Option.map Prod.fst) = (He.keysIn w.params ks).map (Option.map Prod.fst) := by rw [h2]
  unfold He.keysIn at h3
  rw [List.map_map, List.map_map] at h3
  rw [show (es.toList.map fun e => keyS e.key) = es.toList.map (Option.map Prod.fst ∘ He.keyOf) from List.map_congr_left fun e _ => keyS_of e, h3]
  rfl
/-! ### the Hook -/
abbrev AlX : Type := Bool × List He.FnV × List (Option (List (Option (Str × Int))))
def obsX (fb : List (PySem.W.Frag → Bool)) (fn : List FnX) (ts : List He.Tab) (K : PySem.W.Frag) : AlX := ((fb.all fun f => f K) && fn.all fun d => d.ok K, fn.map fun d => fnX K (d.at_ K), ts.map fun t => He.dicW K (t.1 K))
def valX (fn : List FnX) (ts : List He.Tab) (w : World) : AlX := (true, fn.map FnX.val, ts.map fun t => some (He.keysIn w.params t.2))
def SaysX (fb : List (PySem.W.Frag → Bool)) (fn : List FnX) (ts : List He.Tab) (w : World) (K : PySem.W.Frag) : Prop := obsX fb fn ts K = valX fn ts w
/-! the addresses that are looked at: globals by name, a class's methods by name, their code -/
def nsG (g : Addr → Option Obj) (d : Addr) (x : Str) : List Addr := match g d with
  | some ⟨_, _, .dict es _, _⟩ => (match es.toList.find? (fun e => e.key.isStr x) with
    | some e => He.refV e.val
    | none => [])
  | _ => []
def codeG (g : Addr → Option Obj) (a : Addr) : List Addr := match g a with
  | some ⟨_, _, .func fd, _⟩ => He.refV fd.code
  | _ => []
def propG (g : Addr → Option Obj) (a : Addr) : List Addr := match g a with
  | some ⟨_, _, .fields vs, _⟩ => vs.toList.flatMap He.refV
  | _ => []
def methG (g : Addr → Option Obj) (ns : Addr) (m : Str) : List Addr := (nsG g ns m).flatMap fun b => b :: (codeG g b ++ (propG g b).flatMap fun f => f :: codeG g f)
def globG (g : Addr → Option Obj) (q : Str × List Str) : List Addr := (nsG g mainGlobals q.1).flatMap fun a => a :: (codeG g a ++ match g a with
  | some ⟨_, _, .cls cd, _⟩ => cd.ns :: q.2.flatMap (methG g cd.ns)
  | _ => [])
abbrev Xs : Type := List (Str × List Str)
def asL (g : Addr → Option Obj) (xs : Xs) : List Addr := mainGlobals :: cStatics :: xs.flatMap (globG g)
def obsXG (n : Xs) (fb : List (PySem.W.Frag → Bool)) (fn : List FnX) (ts : List He.Tab) (g : Addr → Option Obj) : AlX := obsX fb fn ts (He.frG g (asL g n))
def hookX (n : Xs) (fb : List (PySem.W.Frag → Bool)) (fn : List FnX) (ts : List He.Tab) : PySem.W.Hook where
  α := AlX
  obs := fun s => obsXG n fb fn ts s.heap.get?
  val := fun w => valX fn ts w
  says := fun w h => ∃ K : PySem.W.Frag, K.In h ∧ SaysX fb fn ts w K
  of := fun _ _ e => ⟨_, He.frG_in, e⟩
  keeps := fun _ _ _ ⟨K, hK, c⟩ k => ⟨K, PySem.W.Frag.In.keeps hK k, c⟩
theorem obsXG_eq {n : Xs} {fb : List (PySem.W.Frag → Bool)} {fn : List FnX} {ts : List He.Tab} {g : Addr → Option Obj} {s : Shared} (h : ∀ a, g a = s.heap.get? a) : obsXG n fb fn ts g = (hookX n fb fn ts).obs s := by
  have e : g = s.heap.get? := funext h
  rw [e] <;> rfl
section
variable {fb : List (PySem.W.Frag → Bool)} {fn : List FnX} {ts : List He.Tab} {w : World} {K : PySem.W.Frag}
theorem SaysX.fact (c : SaysX fb fn ts w K) (i : Nat) {f : PySem.W.Frag → Bool} (h : fb[i]? = some f := by rfl) : f K = true := by
  have c1 := (Bool.and_eq_true_iff.mp (show ((fb.all fun f => f K) && fn.all fun d => d.ok K) = true from congrArg (fun z : AlX => z.1) c)).1
  exact List.all_eq_true.mp c1 f (List.mem_of_getElem? h)
theorem SaysX.def_ (c : SaysX fb fn ts w K) (i : Nat) {d : FnX} (h : fn[i]? = some d := by rfl) : ∃ fd, Fun K d.name d.qual d.st (d.at_ K) fd := by
  have c2 := (Bool.and_eq_true_iff.mp (show ((fb.all fun f => f K) && fn.all fun d => d.ok K) = true from congrArg (fun z : AlX => z.1) c)).2
  have e : fn.map (fun d => fnX K (d.at_ K)) = fn.map FnX.val := congrArg (fun z : AlX => z.2.1) c
  have e2 : (fn.map fun d => fnX K (d.at_ K))[i]? = (fn.map FnX.val)[i]? := by rw [e]
  rw [List.getElem?_map, List.getElem?_map, h] at e2
  exact FnX.fun_ (Option.some.inj e2) (List.all_eq_true.mp c2 d (List.mem_of_getElem? h))
theorem SaysX.tab (c : SaysX fb fn ts w K) (i : Nat) {t : He.Tab} (h : ts[i]? = some t := by rfl) : ∃ es n, K.lookup (t.1 K) = some ⟨.type "dict", none, .dict es n, #[]⟩ ∧ PySem.W.KeysLit w.params es.toList ∧ (t.1 K == sysModules) = false ∧ es.toList.map (fun e => keyS e.key) = t.2.map some := by
  have e : ts.map (fun t => He.dicW K (t.1 K)) = ts.map fun t => some (He.keysIn w.params t.2) := congrArg (fun z : AlX => z.2.2) c
  have e2 : (ts.map fun t => He.dicW K (t.1 K))[i]? = (ts.map fun t => some (He.keysIn w.params t.2))[i]? := by rw [e]
  rw [List.getElem?_map, List.getElem?_map, h] at e2
  exact dicX_ok (Option.some.inj e2)
end
def intX (K : PySem.W.Frag) (x : Str) (i : Int) : Bool := match PySem.W.nsIn K mainGlobals x with
  | some (some (.int j _)) => decide (j = i)
  | _ => false
theorem intX_ok {K : PySem.W.Frag} {x : Str} {i : Int} (h : intX K x i = true) : ∃ t, PySem.W.nsIn K mainGlobals x = some (some (.int i t)) := by
  unfold intX at h
  split at h
  · rename_i j t e
    have q : j = i := of_decide_eq_true h
    exact ⟨t, by rw [e, q]⟩
  · cases h
def strX (K : PySem.W.Frag) (x z : Str) : Bool := match PySem.W.nsIn K mainGlobals x with
  | some (some (.str y _)) => decide (y = z)
  | _ => false
theorem strX_ok {K : PySem.W.Frag} {x z : Str} (h : strX K x z = true) : ∃ t, PySem.W.nsIn K mainGlobals x = some (some (.str z t)) := by
  unfold strX at h
  split at h
  · rename_i j t e
    have q : j = z := of_decide_eq_true h
    exact ⟨t, by rw [e, q]⟩
  · cases h
/-- a property's function -/
def prF (K : PySem.W.Frag) (p : Addr) : Addr := match PySem.W.recIn K p "property" with
  | some (.ref f :: _) => f
  | _ => 0
def prX (K : PySem.W.Frag) (p : Addr) : Bool := match PySem.W.recIn K p "property" with
  | some (.ref _ :: _) => true
  | _ => false
theorem prX_ok {K : PySem.W.Frag} {p : Addr} (h : prX K p = true) : ∃ rest, PySem.W.recIn K p "property" = some (.ref (prF K p) :: rest) := by
  unfold prX at h
  unfold prF
  split at h
  · rename_i f r e
    exact ⟨r, by rw [e]⟩
  · cases h
end Dl

/-! a text that a class holds, as a fact of the head -/
namespace Dl
open PySem PySem.Spec PyProof.Rows L2
def conX (K : PySem.W.Frag) (C : Addr) (f z : Str) : Bool := match PySem.W.findIn K (.ref C) f with
  | some (some (.str y t)) => decide (y = z) && decide (PySem.W.specialIn K (.str y t) "__get__" = some none)
  | _ => false
theorem conX_ok {K : PySem.W.Frag} {C : Addr} {f z : Str} (h : conX K C f z = true) : ∃ t, PySem.W.findIn K (.ref C) f = some (some (.str z t)) ∧ PySem.W.specialIn K (.str z t) "__get__" = some none := by
  unfold conX at h
  split at h
  · rename_i y t e
    rw [Bool.and_eq_true, decide_eq_true_eq, decide_eq_true_eq] at h
    obtain ⟨rfl, h2⟩ := h
    exact ⟨t, e, h2⟩
  · cases h
end Dl

/-! a text that a class holds, read through the class, as a fact of the head -/
namespace Dl
open PySem PySem.Spec PyProof.Rows L2
def clsStr (K : PySem.W.Frag) (C : Addr) (f z : Str) : Bool := match PySem.W.findCls K (.ref C) (.type "type") f with
  | some (.val (.str y _)) => decide (y = z)
  | _ => false
theorem clsStr_ok {K : PySem.W.Frag} {C : Addr} {f z : Str} (h : clsStr K C f z = true) : ∃ u, ClX.CVal K C (.type "type") f (.str z) u := by
  unfold clsStr at h
  split at h
  · rename_i y t e
    obtain rfl := of_decide_eq_true h
    exact ⟨_, e, ⟨t, rfl⟩⟩
  · cases h
end Dl

namespace Dl
open PySem PySem.Spec PyProof.Rows L2
def Af_leaves_of (K : PySem.W.Frag) : Addr := He.ga K "_leaves_of"
def Af_many_within (K : PySem.W.Frag) : Addr := He.ga K "_many_within"
def Af_texts_of (K : PySem.W.Frag) : Addr := He.ga K "_texts_of"
def Af_law_bag (K : PySem.W.Frag) : Addr := He.ga K "_law_bag"
def Af_law_take (K : PySem.W.Frag) : Addr := He.ga K "_law_take"
def Af_law_name (K : PySem.W.Frag) : Addr := He.ga K "_law_name"
def Af_law_names (K : PySem.W.Frag) : Addr := He.ga K "_law_names"
def Af_law_is_integer (K : PySem.W.Frag) : Addr := He.ga K "_law_is_integer"
def Af_law_shape (K : PySem.W.Frag) : Addr := He.ga K "_law_shape"
def Af_law_node (K : PySem.W.Frag) : Addr := He.ga K "_law_node"
def Af_law_ways (K : PySem.W.Frag) : Addr := He.ga K "_law_ways"
def Af_law_expand (K : PySem.W.Frag) : Addr := He.ga K "_law_expand"
def Af_law_shape_text (K : PySem.W.Frag) : Addr := He.ga K "_law_shape_text"
def Af_law_kind_ok (K : PySem.W.Frag) : Addr := He.ga K "_law_kind_ok"
def Af_law (K : PySem.W.Frag) : Addr := He.ga K "law"
def AC_Node (K : PySem.W.Frag) : Addr := He.ga K "Node"
def AC_Branch (K : PySem.W.Frag) : Addr := He.ga K "Branch"
def Af_Branch_init (K : PySem.W.Frag) : Addr := He.ma K (He.ga K "Branch") "__init__"
def AC_Leaf (K : PySem.W.Frag) : Addr := He.ga K "Leaf"
def Af_Leaf_init (K : PySem.W.Frag) : Addr := He.ma K (He.ga K "Leaf") "__init__"
def Af_Leaf_leaves (K : PySem.W.Frag) : Addr := He.ma K (He.ga K "Leaf") "leaves"
def Af_Leaf_text (K : PySem.W.Frag) : Addr := He.ma K (He.ga K "Leaf") "text"
def Af_Leaf_shape (K : PySem.W.Frag) : Addr := He.ma K (He.ga K "Leaf") "shape"
def Af_Leaf_many (K : PySem.W.Frag) : Addr := He.ma K (He.ga K "Leaf") "many"
def AC_Group (K : PySem.W.Frag) : Addr := He.ga K "Group"
def Af_Group_leaves (K : PySem.W.Frag) : Addr := He.ma K (He.ga K "Group") "leaves"
def Af_Group_text (K : PySem.W.Frag) : Addr := He.ma K (He.ga K "Group") "text"
def Af_Group_shape (K : PySem.W.Frag) : Addr := He.ma K (He.ga K "Group") "shape"
def Af_Group_many (K : PySem.W.Frag) : Addr := He.ma K (He.ga K "Group") "many"
def AC_Row (K : PySem.W.Frag) : Addr := He.ga K "Row"
def Af_Row_leaves (K : PySem.W.Frag) : Addr := He.ma K (He.ga K "Row") "leaves"
def Af_Row_text (K : PySem.W.Frag) : Addr := He.ma K (He.ga K "Row") "text"
def Af_Row_shape (K : PySem.W.Frag) : Addr := He.ma K (He.ga K "Row") "shape"
def Af_Row_many (K : PySem.W.Frag) : Addr := He.ma K (He.ga K "Row") "many"
abbrev P0 (K : PySem.W.Frag) : Prop := (PySem.W.nsIn K mainGlobals "_leaves_of" = some (some (.ref (Af_leaves_of K)))) ∧ (PySem.W.nsIn K mainGlobals "_many_within" = some (some (.ref (Af_many_within K)))) ∧ (PySem.W.nsIn K mainGlobals "_texts_of" = some (some (.ref (Af_texts_of K)))) ∧ (PySem.W.nsIn K mainGlobals "_law_bag" = some (some (.ref (Af_law_bag K)))) ∧ (PySem.W.nsIn K mainGlobals "_law_take" = some (some (.ref (Af_law_take K)))) ∧ (PySem.W.nsIn K mainGlobals "_law_name" = some (some (.ref (Af_law_name K)))) ∧ (PySem.W.nsIn K mainGlobals "_law_names" = some (some (.ref (Af_law_names K)))) ∧ (PySem.W.nsIn K mainGlobals "_law_is_integer" = some (some (.ref (Af_law_is_integer K)))) ∧ (PySem.W.nsIn K mainGlobals "_law_shape" = some (some (.ref (Af_law_shape K)))) ∧ (PySem.W.nsIn K mainGlobals "_law_node" = some (some (.ref (Af_law_node K)))) ∧ (PySem.W.nsIn K mainGlobals "_law_ways" = some (some (.ref (Af_law_ways K)))) ∧ (PySem.W.nsIn K mainGlobals "_law_expand" = some (some (.ref (Af_law_expand K)))) ∧ (PySem.W.nsIn K mainGlobals "_law_shape_text" = some (some (.ref (Af_law_shape_text K)))) ∧ (PySem.W.nsIn K mainGlobals "_law_kind_ok" = some (some (.ref (Af_law_kind_ok K)))) ∧ (PySem.W.nsIn K mainGlobals "law" = some (some (.ref (Af_law K)))) ∧ (PySem.W.nsIn K mainGlobals "Node" = some (some (.ref (AC_Node K))))
def ch0 (K : PySem.W.Frag) : Bool := decide (P0 K)
abbrev P1 (K : PySem.W.Frag) : Prop := (PySem.W.nsIn K mainGlobals "Branch" = some (some (.ref (AC_Branch K)))) ∧ (PySem.W.plainGet K (AC_Branch K) Str.empty = true) ∧ (PySem.W.hasDictIn K (AC_Branch K) = true) ∧ (PySem.W.plainOver K (AC_Branch K) = true) ∧ (PySem.W.findIn K (.ref (AC_Branch K)) "__setattr__" = some (some (.builtin "object.__setattr__"))) ∧ (PySem.W.makesIn K (AC_Branch K) = true) ∧ (PySem.W.keepIn K (.ref (AC_Branch K)) = true) ∧ (PySem.W.findIn K (.ref (AC_Branch K)) "__init__" = some (some (.ref (Af_Branch_init K)))) ∧ (PySem.W.isFn K (.ref (Af_Branch_init K)) = true) ∧ (PySem.W.nsIn K mainGlobals "Leaf" = some (some (.ref (AC_Leaf K)))) ∧ (PySem.W.plainGet K (AC_Leaf K) Str.empty = true) ∧ (PySem.W.hasDictIn K (AC_Leaf K) = true) ∧ (PySem.W.plainOver K (AC_Leaf K) = true) ∧ (PySem.W.findIn K (.ref (AC_Leaf K)) "__setattr__" = some (some (.builtin "object.__setattr__"))) ∧ (PySem.W.makesIn K (AC_Leaf K) = true) ∧ (PySem.W.keepIn K (.ref (AC_Leaf K)) = true)
def ch1 (K : PySem.W.Frag) : Bool := decide (P1 K)
abbrev P2 (K : PySem.W.Frag) : Prop := (PySem.W.findIn K (.ref (AC_Leaf K)) "name" = some none) ∧ (PySem.W.findIn K (.ref (AC_Leaf K)) "__init__" = some (some (.ref (Af_Leaf_init K)))) ∧ (PySem.W.isFn K (.ref (Af_Leaf_init K)) = true) ∧ (PySem.W.findIn K (.ref (AC_Leaf K)) "leaves" = some (some (.ref (Af_Leaf_leaves K)))) ∧ (PySem.W.isFn K (.ref (Af_Leaf_leaves K)) = true) ∧ (PySem.W.findIn K (.ref (AC_Leaf K)) "text" = some (some (.ref (Af_Leaf_text K)))) ∧ (PySem.W.isFn K (.ref (Af_Leaf_text K)) = true) ∧ (PySem.W.findIn K (.ref (AC_Leaf K)) "shape" = some (some (.ref (Af_Leaf_shape K)))) ∧ (PySem.W.isFn K (.ref (Af_Leaf_shape K)) = true) ∧ (PySem.W.findIn K (.ref (AC_Leaf K)) "many" = some (some (.ref (Af_Leaf_many K)))) ∧ (PySem.W.isFn K (.ref (Af_Leaf_many K)) = true) ∧ (PySem.W.nsIn K mainGlobals "Group" = some (some (.ref (AC_Group K)))) ∧ (PySem.W.plainGet K (AC_Group K) Str.empty = true) ∧ (PySem.W.hasDictIn K (AC_Group K) = true) ∧ (PySem.W.plainOver K (AC_Group K) = true) ∧ (PySem.W.findIn K (.ref (AC_Group K)) "__setattr__" = some (some (.builtin "object.__setattr__")))
def ch2 (K : PySem.W.Frag) : Bool := decide (P2 K)
abbrev P3 (K : PySem.W.Frag) : Prop := (PySem.W.keepIn K (.ref (AC_Group K)) = true) ∧ (PySem.W.findIn K (.ref (AC_Group K)) "parts" = some none) ∧ (PySem.W.findIn K (.ref (AC_Group K)) "leaves" = some (some (.ref (Af_Group_leaves K)))) ∧ (PySem.W.isFn K (.ref (Af_Group_leaves K)) = true) ∧ (PySem.W.findIn K (.ref (AC_Group K)) "text" = some (some (.ref (Af_Group_text K)))) ∧ (PySem.W.isFn K (.ref (Af_Group_text K)) = true) ∧ (PySem.W.findIn K (.ref (AC_Group K)) "shape" = some (some (.ref (Af_Group_shape K)))) ∧ (PySem.W.isFn K (.ref (Af_Group_shape K)) = true) ∧ (PySem.W.findIn K (.ref (AC_Group K)) "many" = some (some (.ref (Af_Group_many K)))) ∧ (PySem.W.isFn K (.ref (Af_Group_many K)) = true) ∧ (PySem.W.nsIn K mainGlobals "Row" = some (some (.ref (AC_Row K)))) ∧ (PySem.W.plainGet K (AC_Row K) Str.empty = true) ∧ (PySem.W.hasDictIn K (AC_Row K) = true) ∧ (PySem.W.plainOver K (AC_Row K) = true) ∧ (PySem.W.findIn K (.ref (AC_Row K)) "__setattr__" = some (some (.builtin "object.__setattr__"))) ∧ (PySem.W.keepIn K (.ref (AC_Row K)) = true)
def ch3 (K : PySem.W.Frag) : Bool := decide (P3 K)
abbrev P4 (K : PySem.W.Frag) : Prop := (PySem.W.findIn K (.ref (AC_Row K)) "parts" = some none) ∧ (PySem.W.findIn K (.ref (AC_Row K)) "leaves" = some (some (.ref (Af_Row_leaves K)))) ∧ (PySem.W.isFn K (.ref (Af_Row_leaves K)) = true) ∧ (PySem.W.findIn K (.ref (AC_Row K)) "text" = some (some (.ref (Af_Row_text K)))) ∧ (PySem.W.isFn K (.ref (Af_Row_text K)) = true) ∧ (PySem.W.findIn K (.ref (AC_Row K)) "shape" = some (some (.ref (Af_Row_shape K)))) ∧ (PySem.W.isFn K (.ref (Af_Row_shape K)) = true) ∧ (PySem.W.findIn K (.ref (AC_Row K)) "many" = some (some (.ref (Af_Row_many K)))) ∧ (PySem.W.isFn K (.ref (Af_Row_many K)) = true) ∧ (PySem.W.findIn K (.ref (AC_Leaf K)) "__eq__" = some (some (.builtin "object.__eq__"))) ∧ (PySem.W.findIn K (.ref (AC_Group K)) "__eq__" = some (some (.builtin "object.__eq__"))) ∧ (PySem.W.findIn K (.ref (AC_Row K)) "__eq__" = some (some (.builtin "object.__eq__"))) ∧ (PySem.W.mroIn K (AC_Leaf K) (.type "object") = some true) ∧ (PySem.W.mroIn K (AC_Group K) (.type "object") = some true) ∧ (PySem.W.mroIn K (AC_Row K) (.type "object") = some true) ∧ (PySem.W.subIn K (.ref (AC_Leaf K)) (.ref (AC_Group K)) = some false)
def ch4 (K : PySem.W.Frag) : Bool := decide (P4 K)
abbrev P5 (K : PySem.W.Frag) : Prop := (PySem.W.subIn K (.ref (AC_Leaf K)) (.ref (AC_Row K)) = some false) ∧ (PySem.W.subIn K (.ref (AC_Group K)) (.ref (AC_Leaf K)) = some false) ∧ (PySem.W.subIn K (.ref (AC_Group K)) (.ref (AC_Row K)) = some false) ∧ (PySem.W.subIn K (.ref (AC_Row K)) (.ref (AC_Leaf K)) = some false) ∧ (PySem.W.subIn K (.ref (AC_Row K)) (.ref (AC_Group K)) = some false) ∧ (PySem.W.makesIn K (AC_Group K) = true) ∧ (PySem.W.makesIn K (AC_Row K) = true) ∧ (PySem.W.findIn K (.ref (AC_Group K)) "__init__" = some (some (.ref (Af_Branch_init K)))) ∧ (PySem.W.findIn K (.ref (AC_Row K)) "__init__" = some (some (.ref (Af_Branch_init K)))) ∧ ((AC_Leaf K) ≠ (AC_Group K)) ∧ ((AC_Leaf K) ≠ (AC_Row K)) ∧ ((AC_Group K) ≠ (AC_Row K)) ∧ (PySem.W.findIn K (.ref (AC_Leaf K)) "__class__" = some (some (.builtin "object.__class__"))) ∧ (PySem.W.findIn K (.ref (AC_Group K)) "__class__" = some (some (.builtin "object.__class__"))) ∧ (PySem.W.findIn K (.ref (AC_Row K)) "__class__" = some (some (.builtin "object.__class__"))) ∧ (PySem.W.specialIn K (.builtin "object.__class__") "__get__" = some (some (.builtin "getset_descriptor.__get__")))
def ch5 (K : PySem.W.Frag) : Bool := decide (P5 K)
abbrev P6 (K : PySem.W.Frag) : Prop := (PySem.W.takesIn K (.builtin "object.__class__") = some true) ∧ (PySem.W.kitOne K (.ref (AC_Leaf K)) (.ref (AC_Node K)) = some true) ∧ (PySem.W.kitOne K (.ref (AC_Group K)) (.ref (AC_Node K)) = some true) ∧ (PySem.W.kitOne K (.ref (AC_Row K)) (.ref (AC_Node K)) = some true) ∧ (PySem.W.kitOne K (.ref (AC_Leaf K)) (.ref (AC_Branch K)) = some false) ∧ (PySem.W.kitOne K (.ref (AC_Group K)) (.ref (AC_Branch K)) = some true) ∧ (PySem.W.kitOne K (.ref (AC_Row K)) (.ref (AC_Branch K)) = some true) ∧ (PySem.W.kitOne K (.ref (AC_Leaf K)) (.ref (AC_Leaf K)) = some true) ∧ (PySem.W.kitOne K (.ref (AC_Group K)) (.ref (AC_Leaf K)) = some false) ∧ (PySem.W.kitOne K (.ref (AC_Row K)) (.ref (AC_Leaf K)) = some false) ∧ (PySem.W.kitOne K (.ref (AC_Leaf K)) (.ref (AC_Row K)) = some false) ∧ (PySem.W.kitOne K (.ref (AC_Group K)) (.ref (AC_Row K)) = some false) ∧ (PySem.W.kitOne K (.ref (AC_Row K)) (.ref (AC_Row K)) = some true) ∧ (PySem.W.kitOne K (.ref (AC_Leaf K)) (.ref (AC_Group K)) = some false) ∧ (PySem.W.kitOne K (.ref (AC_Group K)) (.ref (AC_Group K)) = some true) ∧ (PySem.W.kitOne K (.ref (AC_Row K)) (.ref (AC_Group K)) = some false)
def ch6 (K : PySem.W.Frag) : Bool := decide (P6 K)
abbrev P7 (K : PySem.W.Frag) : Prop := (PySem.W.readsIn K (AC_Leaf K) (.type "type") = true) ∧ (PySem.W.readsIn K (AC_Group K) (.type "type") = true) ∧ (PySem.W.readsIn K (AC_Row K) (.type "type") = true) ∧ (PySem.W.specialIn K (.ref (AC_Leaf K)) "__getattribute__" = some (some (.builtin "type.__getattribute__"))) ∧ (PySem.W.specialIn K (.ref (AC_Group K)) "__getattribute__" = some (some (.builtin "type.__getattribute__"))) ∧ (PySem.W.specialIn K (.ref (AC_Row K)) "__getattribute__" = some (some (.builtin "type.__getattribute__"))) ∧ (clsStr K (AC_Leaf K) "KIND" "leaf" = true) ∧ (clsStr K (AC_Group K) "KIND" "group" = true) ∧ (clsStr K (AC_Row K) "KIND" "row" = true) ∧ (PySem.W.nsIn K mainGlobals "factorial" = some (some (.builtin "math.factorial"))) ∧ (PySem.W.nsIn K mainGlobals "len" = some none) ∧ (PySem.W.nsIn K mainGlobals "int" = some none) ∧ (PySem.W.nsIn K mainGlobals "abs" = some none) ∧ (PySem.W.nsIn K mainGlobals "isinstance" = some none) ∧ (PySem.W.nsIn K mainGlobals "str" = some none) ∧ (PySem.W.nsIn K mainGlobals "list" = some none)
def ch7 (K : PySem.W.Frag) : Bool := decide (P7 K)
abbrev P8 (K : PySem.W.Frag) : Prop := (PySem.W.nsIn K mainGlobals "range" = some none) ∧ (PySem.W.nsIn K mainGlobals "tuple" = some none) ∧ (PySem.W.nsIn K mainGlobals "bool" = some none) ∧ (PySem.W.nsIn K mainGlobals "min" = some none) ∧ (PySem.W.nsIn K mainGlobals "max" = some none) ∧ (PySem.W.nsIn K mainGlobals "set" = some none)
def ch8 (K : PySem.W.Frag) : Bool := decide (P8 K)
def ex0 (K : PySem.W.Frag) : Bool := conX K (AC_Leaf K) "KIND" "leaf"
def ex1 (K : PySem.W.Frag) : Bool := conX K (AC_Group K) "KIND" "group"
def ex2 (K : PySem.W.Frag) : Bool := conX K (AC_Row K) "KIND" "row"
def fbA : List (PySem.W.Frag → Bool) := [ch0, ch1, ch2, ch3, ch4, ch5, ch6, ch7, ch8, ex0, ex1, ex2]
def fx0 : FnX := ⟨Af_leaves_of, "_leaves_of", "_leaves_of", sLeavesOf⟩
def fx1 : FnX := ⟨Af_many_within, "_many_within", "_many_within", sManyWithin⟩
def fx2 : FnX := ⟨Af_texts_of, "_texts_of", "_texts_of", sTextsOf⟩
def fx3 : FnX := ⟨Af_law_bag, "_law_bag", "_law_bag", sBag⟩
def fx4 : FnX := ⟨Af_law_take, "_law_take", "_law_take", sTake⟩
def fx5 : FnX := ⟨Af_law_name, "_law_name", "_law_name", sLawName⟩
def fx6 : FnX := ⟨Af_law_names, "_law_names", "_law_names", sLawNames⟩
def fx7 : FnX := ⟨Af_law_is_integer, "_law_is_integer", "_law_is_integer", sLawIsInteger⟩
def fx8 : FnX := ⟨Af_law_shape, "_law_shape", "_law_shape", sLawShape⟩
def fx9 : FnX := ⟨Af_law_node, "_law_node", "_law_node", sLawNode⟩
def fx10 : FnX := ⟨Af_law_ways, "_law_ways", "_law_ways", sLawWays⟩
def fx11 : FnX := ⟨Af_law_expand, "_law_expand", "_law_expand", sLawExpand⟩
def fx12 : FnX := ⟨Af_law_shape_text, "_law_shape_text", "_law_shape_text", sLawShapeText⟩
def fx13 : FnX := ⟨Af_law_kind_ok, "_law_kind_ok", "_law_kind_ok", sLawKindOk⟩
def fx14 : FnX := ⟨Af_law, "law", "law", sLaw⟩
def fx15 : FnX := ⟨Af_Branch_init, "__init__", "Branch.__init__", sBranchInit⟩
def fx16 : FnX := ⟨Af_Leaf_init, "__init__", "Leaf.__init__", sLeafInit⟩
def fx17 : FnX := ⟨Af_Leaf_leaves, "leaves", "Leaf.leaves", sLeafLeaves⟩
def fx18 : FnX := ⟨Af_Leaf_text, "text", "Leaf.text", sLeafText⟩
def fx19 : FnX := ⟨Af_Leaf_shape, "shape", "Leaf.shape", sLeafShape⟩
def fx20 : FnX := ⟨Af_Leaf_many, "many", "Leaf.many", sLeafMany⟩
def fx21 : FnX := ⟨Af_Group_leaves, "leaves", "Group.leaves", sGroupLeaves⟩
def fx22 : FnX := ⟨Af_Group_text, "text", "Group.text", sGroupText⟩
def fx23 : FnX := ⟨Af_Group_shape, "shape", "Group.shape", sGroupShape⟩
def fx24 : FnX := ⟨Af_Group_many, "many", "Group.many", sGroupMany⟩
def fx25 : FnX := ⟨Af_Row_leaves, "leaves", "Row.leaves", sRowLeaves⟩
def fx26 : FnX := ⟨Af_Row_text, "text", "Row.text", sRowText⟩
def fx27 : FnX := ⟨Af_Row_shape, "shape", "Row.shape", sRowShape⟩
def fx28 : FnX := ⟨Af_Row_many, "many", "Row.many", sRowMany⟩
def fnA : List FnX := [fx0, fx1, fx2, fx3, fx4, fx5, fx6, fx7, fx8, fx9, fx10, fx11, fx12, fx13, fx14, fx15, fx16, fx17, fx18, fx19, fx20, fx21, fx22, fx23, fx24, fx25, fx26, fx27, fx28]
def tsA : List He.Tab := []
def xs0 : Xs := [("_leaves_of", []), ("_many_within", []), ("_texts_of", []), ("_law_bag", []), ("_law_take", []), ("_law_name", []), ("_law_names", []), ("_law_is_integer", []), ("_law_shape", []), ("_law_node", []), ("_law_ways", []), ("_law_expand", []), ("_law_shape_text", []), ("_law_kind_ok", []), ("law", []), ("Node", []), ("Branch", ["__init__"]), ("Leaf", ["__init__", "leaves", "text", "shape", "many"]), ("Group", ["leaves", "text", "shape", "many"]), ("Row", ["leaves", "text", "shape", "many"])]
def xsA : Xs := xs0
abbrev R : PySem.W.OpenRow := PySem.W.OpenLaw.row PySem.Challenge.rw_dimmerlog_k10_nodes
def nm0 : List Str := ["_wall", "__name__", "Node", "Leaf", "Branch", "Group", "Row", "_leaves_of", "_many_within", "_texts_of", "_law_bag", "_law_take", "_law_name", "_law_names", "_law_is_integer", "_law_shape", "_law_node", "_law_ways", "_law_expand", "_law_shape_text", "_law_kind_ok"]
def nmA : List Str := nm0
abbrev hk : PySem.W.Hook := hookX xsA fbA fnA tsA
def obA (s : PySem.W.SharedT) : AlX := obsXG xsA fbA fnA tsA (HandSHeadRun.getT s)
theorem obA_eq (s : PySem.W.SharedT) : obA s = hk.obs s.abs := obsXG_eq (HandSHeadRun.getT_eq s)
noncomputable abbrev WW (w : World) : Option (Shared × PySem.W.SharedT) := HandSHeadRun.wholeF (fun p => HandSHeadRun.stepQ (HandSHeadRun.denQ HandSHeadRun.tabQ) p w) HandSHeadRun.fenceQ 20000 R.prog
abbrev vwA : Program := PySem.W.view R.prog [0, 23]
theorem rAf (w : World) : (WW (w.withFollow "special-get-raises" false)).map (fun x => HandSHeadRun.looksF R.prog x.1.heap x.2.abs) = some (true) := by
  kernel_rfl
theorem rBf (w : World) : (WW (w.withFollow "special-get-raises" false)).map (fun x => HandSHeadRun.seenQ vwA nmA (PySem.importedModules R.prog.main.body) (fun s => PySem.W.xlAt vwA [] s && PySem.W.recOk R.toRowW.records s) x.2.abs) = some (PySem.W.openGood vwA nmA) := by
  kernel_rfl
theorem rCf (w : World) : (WW (w.withFollow "special-get-raises" false)).map (fun x => (obA x.2).1) = some (true) := by
  kernel_rfl
theorem rDf (w : World) : (WW (w.withFollow "special-get-raises" false)).map (fun x => (obA x.2).2) = some ((fnA.map FnX.val, tsA.map fun t => some (He.keysIn (w.withFollow "special-get-raises" false).params t.2))) := by
  kernel_rfl
theorem rAt (w : World) : (WW (w.withFollow "special-get-raises" true)).map (fun x => HandSHeadRun.looksF R.prog x.1.heap x.2.abs) = some (true) := by
  kernel_rfl
theorem rBt (w : World) : (WW (w.withFollow "special-get-raises" true)).map (fun x => HandSHeadRun.seenQ vwA nmA (PySem.importedModules R.prog.main.body) (fun s => PySem.W.xlAt vwA [] s && PySem.W.recOk R.toRowW.records s) x.2.abs) = some (PySem.W.openGood vwA nmA) := by
  kernel_rfl
theorem rCt (w : World) : (WW (w.withFollow "special-get-raises" true)).map (fun x => (obA x.2).1) = some (true) := by
  kernel_rfl
theorem rDt (w : World) : (WW (w.withFollow "special-get-raises" true)).map (fun x => (obA x.2).2) = some ((fnA.map FnX.val, tsA.map fun t => some (He.keysIn (w.withFollow "special-get-raises" true).params t.2))) := by
  kernel_rfl
theorem map3 {α β γ δ : Type} {o : Option α} {f : α → β} {g : α → γ} {h : α → δ} {b : β} {c : γ} {d : δ} (h1 : o.map f = some b) (h2 : o.map g = some c) (h3 : o.map h = some d) : o.map (fun x => (f x, g x, h x)) = some (b, c, d) := by
  cases o with
  | none => cases h1
  | some x => cases h1; cases h2; cases h3; rfl
theorem map2 {α β γ : Type} {o : Option α} {f : α → β × γ} {b : β} {c : γ} (h1 : o.map (fun x => (f x).1) = some b) (h2 : o.map (fun x => (f x).2) = some c) : o.map f = some (b, c) := by
  cases o with
  | none => cases h1
  | some x =>
    have e1 := Option.some.inj h1
    have e2 := Option.some.inj h2
    exact congrArg some (Prod.ext e1 e2)
def RunP (w : World) : Prop := HandSHeadRun.RunEqI R vwA hk obA 20000 nmA w
theorem runA (w : World) : RunP w := PySem.W.byRow2 "special-get-raises" (P := RunP) (fun w => map3 (rAf w) (rBf w) (map2 (rCf w) (rDf w))) (fun w => map3 (rAt w) (rBt w) (map2 (rCt w) (rDt w))) w
end Dl

/-! The bag of draws: _law_bag, _law_take. -/
namespace Dl
open PySem L2

/-! ### the mathematics of the bag -/
structure BagOk (L : List Int) : Prop where
  ex : ∃ (s d : Int) (r : List Int), L = s :: d :: r ∧ 0 ≤ s ∧ s < 2147483647 ∧ 0 ≤ d ∧ ∀ x ∈ r, 0 ≤ x
theorem BagOk.put0 {d : Int} {r : List Int} (x : Int) (hd : 0 ≤ d) (hr : ∀ x ∈ r, 0 ≤ x) : BagOk (x % 2147483647 :: d :: r) :=
  ⟨_, _, _, rfl, Int.emod_nonneg _ (by decide), Int.emod_lt_of_pos _ (by decide), hd, hr⟩

/-- the names that the two defs read -/
structure TxtB (mg : Str → Option Value) : Prop where
  len : mg "len" = none
  int : mg "int" = none
  abs : mg "abs" = none

def spTake : Sp := fun vs H Q _ => ∃ (b : Addr) (L : List Int) (n : Int), vs = [.ref b, .int n] ∧ H b = some (.lst (L.map V.int)) ∧ BagOk L ∧ 1 ≤ n ∧ n < 1000000 ∧
  ∀ (L' : List Int) (r : Int), BagOk L' → 0 ≤ r → r < n → Q (.int r) (upd H b (.lst (L'.map V.int)))
section
variable {P : Program} {w : World} {K : PySem.W.Frag} {mg : Str → Option Value} {base : Heap}
theorem scTake : FnScope ["_law_bag_here", "_law_size", "_law_cell", "_law_digit"] ["_law_bag_here", "_law_size"] (defScope sTake) := ⟨rfl, rfl, rfl, by decide +kernel, rfl, by decide +kernel, by decide +kernel⟩
theorem upd_upd {H : Hp} {a : Addr} {o u : HO} : upd (upd H a o) a u = upd H a u := by
  funext b
  by_cases h : b = a
  · subst h; rw [upd_same, upd_same]
  · rw [upd_ne h, upd_ne h, upd_ne h]
theorem upd_id {H : Hp} {a : Addr} {o : HO} (h : H a = some o) : upd H a o = H := by
  funext b
  by_cases e : b = a
  · subst e; rw [upd_same, h]
  · rw [upd_ne e]
theorem ix_at {n j : Nat} (h : j < n) : ixN n (j : Int) = some j := by
  unfold ixN
  rw [if_pos (by omega), if_pos (by omega)]; simp
theorem ok_take {f : Addr} {fd : FuncData} (F : Fun K "_law_take" "_law_take" sTake f fd) (T : TxtB mg) : FnOk P w K mg base CX0 1 f fd ["_law_bag_here", "_law_size"] spTake := by
  refine F.ok scTake (fun vs H Q E h => ?_) (fun cdv A outer s H vs Q E hr h => ?_)
  · obtain ⟨b, L, n, rfl, _⟩ := h
    rfl
  · obtain ⟨b, L, n, rfl, hb, ⟨z, d, r, rfl, hz0, hz1, hd0, hr0⟩, hn1, hn2, k⟩ := h
    refine ⟨_, pss_cons (ps_if (PW.pt (pw_and (pt_cmpR op_eq (pe_ix ix_list (pv 0) pe_int (fun _ _ => rfl)) pe_int (nomark _)) (pw_and1 (pt_cmpR op_gt (pe_callB call_len_seq (by rfl) T.len PySem.boot_len (pa_cons (pv 0) pa_nil)) pe_int (nomark _)))))
        (pss_cons (ps_set (i := 2) scTake.nd rfl (Or.inl rfl) (pe_bm PySem.F.plainAttrs_list PySem.F.slot_list_pop PySem.F.type_list_pop mt_popAt (pv 0) (pa_cons pe_int pa_nil)))
        (pss_one (ps_if (pt_cmpR op_ge (pv 2) (pe_op op_pow pe_int pe_int) (nomark _))
          (pss_one (ps_asg (pv 2) (pg_sub (pv 0) pe_int set_list)))
          (pss_cons (ps_asg (pe_op op_mod (pe_callTy call_int1 (by rfl) T.int (by decide +kernel) (pa_cons (pe_op op_add (pe_op op_add (pe_op op_mul (pe_ix ix_list (pv 0) pe_int (fun _ _ => rfl)) pe_int) (pe_op op_mul (pv 2) pe_int)) pe_int) pa_nil)) pe_int) (pg_sub (pv 0) pe_int set_list))
          (pss_one (ps_ret (pe_op op_mod (pe_callTy call_int1 (by rfl) T.int (by decide +kernel) (pa_cons (pe_op op_fdiv (pe_op op_add (pe_op op_mul (pe_ix ix_list (pv 0) pe_int (fun _ _ => rfl)) pe_int) pe_int) pe_int) pa_nil)) (pv 1))))))))
        pss_nil)
      (pss_cons (ps_if (pt_cmpR op_gt (pe_ix ix_list (pv 0) pe_int (fun _ _ => rfl)) pe_int (nomark _))
        (pss_cons (ps_set (i := 3) scTake.nd rfl (Or.inl rfl) (pe_op op_mod (pe_callTy call_int1 (by rfl) T.int (by decide +kernel) (pa_cons (pe_ix ix_list (pv 0) pe_int (fun _ _ => rfl)) pa_nil)) (pv 1)))
        (pss_cons (ps_asg (pe_op op_fdivW (pe_ix ix_list (pv 0) pe_int (fun _ _ => rfl)) (pv 1)) (pg_sub (pv 0) pe_int set_list))
        (pss_one (ps_ret (pv 3)))))
        pss_nil)
      (pss_cons (ps_asg (pe_op op_mod (pe_callTy call_int1 (by rfl) T.int (by decide +kernel) (pa_cons (pe_op op_mul (pe_ix ix_list (pv 0) pe_int (fun _ _ => rfl)) pe_int) pa_nil)) pe_int) (pg_sub (pv 0) pe_int set_list))
      (pss_one (ps_ret (pe_op op_mod (pe_callTy call_int1 (by rfl) T.int (by decide +kernel) (pa_cons (pe_op op_fdiv (pe_ix ix_list (pv 0) pe_int (fun _ _ => rfl)) pe_int) pa_nil)) (pv 1)))))), ?_⟩
    -- bag[1] == 0 and len(bag) > 2
    refine ⟨_, rfl, b, _, _, _, rfl, rfl, SqL.of hb, (atI_nat (j := 1) rfl), rfl, _, rfl, ?_⟩
    refine ite2 (fun e => ?_) (fun e => ?_)
    · refine ⟨_, rfl, b, _, rfl, .inl (SqL.of hb), _, _, rfl, rfl, _, rfl, ?_⟩
      refine ite2 (fun e2 => ?_) (fun e2 => ?_)
      · -- cell = bag.pop(2)
        have hl : 2 < (z :: d :: r).length := by
          have q := of_decide_eq_true e2
          have q2 : ((2 : Int) < (((z :: d :: r).map V.int).length : Nat)) := q
          rw [List.length_map] at q2
          omega
        match r, hr0, hb, k, hl with
        | [], _, _, _, hl => exact absurd hl (by simp)
        | c :: r, hr0, hb, k, _ =>
        have hc0 : 0 ≤ c := hr0 c (List.mem_cons_self ..)
        have hr1 : ∀ x ∈ r, 0 ≤ x := fun x hx => hr0 x (List.mem_cons_of_mem _ hx)
        have hsq : seqIndex? (2 : Int) ((z :: d :: c :: r).map V.int).length = some 2 := by
          have q : ((z :: d :: c :: r).map V.int).length = r.length + 3 := by simp
          rw [q]
          unfold seqIndex?
          simp
          omega
        refine ⟨_, rfl, .inl ⟨rfl, _, SqL.of hb⟩, b, _, 2, 2, _, rfl, rfl, hb, by decide, by decide, hsq, rfl, ?_⟩
        refine ⟨_, rfl, _, _, rfl, rfl, ⟨by decide, by decide, by decide⟩, _, _, rfl, rfl, _, rfl, ?_⟩
        refine ite2 (fun e4 => ?_) (fun e4 => ?_)
        · refine ⟨_, rfl, _, rfl, b, _, _, 1, rfl, rfl, upd_same, ix_at (j := 1) (by simp), ?_⟩
          have hd1 : 0 ≤ c := hc0
          have hz1' := hz0
          have hz1'' := hz1
          have k1 : ∀ (L' : List Int) (x : Int), BagOk L' → 0 ≤ x → x < n → Q (.int x) (upd (upd (upd H b (HO.lst ((z :: d :: r).map V.int))) b (HO.lst ((z :: c :: r).map V.int))) b (.lst (L'.map V.int))) := fun L' x h1 h2 h3 => by
            rw [upd_upd, upd_upd]
            exact k L' x h1 h2 h3
          have hb1 : (upd (upd H b (HO.lst ((z :: d :: r).map V.int))) b (HO.lst ((z :: c :: r).map V.int))) b = some (.lst ((z :: c :: r).map V.int)) := upd_same
          refine ⟨_, rfl, b, _, _, _, rfl, rfl, SqL.of hb1, (atI_nat (j := 1) rfl), _, _, rfl, rfl, _, rfl, ?_⟩
          refine ite2 (fun e3 => ?_) (fun e3 => ?_)
          · refine ⟨_, rfl, b, _, _, _, rfl, rfl, SqL.of hb1, (atI_nat (j := 1) rfl), .inl ⟨_, rfl, ?_⟩⟩
            refine ⟨_, rfl, _, _, rfl, rfl, (by show (0 : Int) < n; omega), ?_⟩
            refine ⟨_, rfl, b, _, _, _, rfl, rfl, SqL.of hb1, (atI_nat (j := 1) rfl), _, rfl, _, _, rfl, rfl, wide_div (b := 20) (by show (0 : Int) < n; omega) (by show n.natAbs < 2 ^ 20; omega) (by decide) (by decide), ?_⟩
            refine ⟨_, rfl, b, _, _, 1, rfl, rfl, hb1, ix_at (j := 1) (by simp), ?_⟩
            refine ⟨_, rfl, ?_⟩
            exact k1 (z :: (c / n) :: r) _ ⟨_, _, _, rfl, hz1', hz1'', Int.ediv_nonneg hd1 (by omega), hr1⟩ (Int.emod_nonneg _ (by omega)) (Int.emod_lt_of_pos _ (by omega))
          · refine ⟨_, rfl, b, _, _, _, rfl, rfl, SqL.of hb1, (atI_nat (j := 0) rfl), _, _, rfl, rfl, .inl ⟨by show -(2 ^ 64) < z; omega, by show z < 2 ^ 64; omega⟩, .inl ⟨_, rfl, ?_⟩⟩
            refine ⟨_, _, rfl, rfl, (by show (0 : Int) < 2147483647; decide), ?_⟩
            refine ⟨_, rfl, b, _, _, 0, rfl, rfl, hb1, ix_at (j := 0) (by simp), ?_⟩
            refine ⟨_, rfl, b, _, _, _, rfl, rfl, SqL.of upd_same, (atI_nat (j := 0) rfl), _, _, rfl, rfl, ⟨by decide, by decide⟩, .inl ⟨_, rfl, ?_⟩⟩
            refine ⟨_, rfl, _, _, rfl, rfl, (by show (0 : Int) < n; omega), ?_⟩
            exact k1 (z * 48271 % 2147483647 :: c :: r) _ (BagOk.put0 _ hd1 hr1) (Int.emod_nonneg _ (by omega)) (Int.emod_lt_of_pos _ (by omega))
        · have hc1 : c < 10 ^ 18 := by
            have q := of_decide_eq_false (p := ((10 : Int) ^ (18 : Int).toNat ≤ c)) (by simpa using e4)
            have q2 : (10 : Int) ^ (18 : Int).toNat = 1000000000000000000 := by decide
            omega
          refine ⟨_, rfl, b, _, _, _, rfl, rfl, SqL.of upd_same, (atI_nat (j := 0) rfl), _, _, rfl, rfl, .inl ⟨by show -(2 ^ 64) < z; omega, by show z < 2 ^ 64; omega⟩, ?_⟩
          refine ⟨_, rfl, _, _, rfl, rfl, .inl ⟨by show -(2 ^ 64) < c; omega, by show c < 2 ^ 64; omega⟩, _, _, rfl, rfl, _, _, rfl, rfl, .inl ⟨_, rfl, ?_⟩⟩
          refine ⟨_, _, rfl, rfl, (by show (0 : Int) < 2147483647; decide), ?_⟩
          refine ⟨_, rfl, b, _, _, 0, rfl, rfl, upd_same, ix_at (j := 0) (by simp), ?_⟩
          refine ⟨_, rfl, b, _, _, _, rfl, rfl, SqL.of upd_same, (atI_nat (j := 0) rfl), _, _, rfl, rfl, .inl ⟨?_, ?_⟩, _, _, rfl, rfl, _, _, rfl, rfl, ⟨by decide, by decide⟩, .inl ⟨_, rfl, ?_⟩⟩
          · have q := Int.emod_nonneg (z * 48271 + c * 69621 + 11) (show (2147483647 : Int) ≠ 0 by decide)
            show -(2 ^ 64) < (z * 48271 + c * 69621 + 11) % 2147483647
            omega
          · have q := Int.emod_lt_of_pos (z * 48271 + c * 69621 + 11) (show (0 : Int) < 2147483647 by decide)
            show (z * 48271 + c * 69621 + 11) % 2147483647 < 2 ^ 64
            omega
          refine ⟨_, rfl, _, _, rfl, rfl, (by show (0 : Int) < n; omega), ?_⟩
          have q := k ((z * 48271 + c * 69621 + 11) % 2147483647 :: d :: r) _ (BagOk.put0 _ hd0 hr1) (Int.emod_nonneg (((z * 48271 + c * 69621 + 11) % 2147483647 * 16807 + 7919) / 16) (show n ≠ 0 by omega)) (Int.emod_lt_of_pos _ (by omega))
          rw [← upd_upd] at q
          exact q
      · have hb1 := hb
        have k1 := k
        have hz1' := hz0
        have hz1'' := hz1
        have hd1 := hd0
        have hr1 := hr0
        refine ⟨_, rfl, b, _, _, _, rfl, rfl, SqL.of hb1, (atI_nat (j := 1) rfl), _, _, rfl, rfl, _, rfl, ?_⟩
        refine ite2 (fun e3 => ?_) (fun e3 => ?_)
        · refine ⟨_, rfl, b, _, _, _, rfl, rfl, SqL.of hb1, (atI_nat (j := 1) rfl), .inl ⟨_, rfl, ?_⟩⟩
          refine ⟨_, rfl, _, _, rfl, rfl, (by show (0 : Int) < n; omega), ?_⟩
          refine ⟨_, rfl, b, _, _, _, rfl, rfl, SqL.of hb1, (atI_nat (j := 1) rfl), _, rfl, _, _, rfl, rfl, wide_div (b := 20) (by show (0 : Int) < n; omega) (by show n.natAbs < 2 ^ 20; omega) (by decide) (by decide), ?_⟩
          refine ⟨_, rfl, b, _, _, 1, rfl, rfl, hb1, ix_at (j := 1) (by simp), ?_⟩
          refine ⟨_, rfl, ?_⟩
          exact k1 (z :: (d / n) :: r) _ ⟨_, _, _, rfl, hz1', hz1'', Int.ediv_nonneg hd1 (by omega), hr1⟩ (Int.emod_nonneg _ (by omega)) (Int.emod_lt_of_pos _ (by omega))
        · refine ⟨_, rfl, b, _, _, _, rfl, rfl, SqL.of hb1, (atI_nat (j := 0) rfl), _, _, rfl, rfl, .inl ⟨by show -(2 ^ 64) < z; omega, by show z < 2 ^ 64; omega⟩, .inl ⟨_, rfl, ?_⟩⟩
          refine ⟨_, _, rfl, rfl, (by show (0 : Int) < 2147483647; decide), ?_⟩
          refine ⟨_, rfl, b, _, _, 0, rfl, rfl, hb1, ix_at (j := 0) (by simp), ?_⟩
          refine ⟨_, rfl, b, _, _, _, rfl, rfl, SqL.of upd_same, (atI_nat (j := 0) rfl), _, _, rfl, rfl, ⟨by decide, by decide⟩, .inl ⟨_, rfl, ?_⟩⟩
          refine ⟨_, rfl, _, _, rfl, rfl, (by show (0 : Int) < n; omega), ?_⟩
          exact k1 (z * 48271 % 2147483647 :: d :: r) _ (BagOk.put0 _ hd1 hr1) (Int.emod_nonneg _ (by omega)) (Int.emod_lt_of_pos _ (by omega))
    · have hb1 := hb
      have k1 := k
      have hz1' := hz0
      have hz1'' := hz1
      have hd1 := hd0
      have hr1 := hr0
      refine ⟨_, rfl, b, _, _, _, rfl, rfl, SqL.of hb1, (atI_nat (j := 1) rfl), _, _, rfl, rfl, _, rfl, ?_⟩
      refine ite2 (fun e3 => ?_) (fun e3 => ?_)
      · refine ⟨_, rfl, b, _, _, _, rfl, rfl, SqL.of hb1, (atI_nat (j := 1) rfl), .inl ⟨_, rfl, ?_⟩⟩
        refine ⟨_, rfl, _, _, rfl, rfl, (by show (0 : Int) < n; omega), ?_⟩
        refine ⟨_, rfl, b, _, _, _, rfl, rfl, SqL.of hb1, (atI_nat (j := 1) rfl), _, rfl, _, _, rfl, rfl, wide_div (b := 20) (by show (0 : Int) < n; omega) (by show n.natAbs < 2 ^ 20; omega) (by decide) (by decide), ?_⟩
        refine ⟨_, rfl, b, _, _, 1, rfl, rfl, hb1, ix_at (j := 1) (by simp), ?_⟩
        refine ⟨_, rfl, ?_⟩
        exact k1 (z :: (d / n) :: r) _ ⟨_, _, _, rfl, hz1', hz1'', Int.ediv_nonneg hd1 (by omega), hr1⟩ (Int.emod_nonneg _ (by omega)) (Int.emod_lt_of_pos _ (by omega))
      · refine ⟨_, rfl, b, _, _, _, rfl, rfl, SqL.of hb1, (atI_nat (j := 0) rfl), _, _, rfl, rfl, .inl ⟨by show -(2 ^ 64) < z; omega, by show z < 2 ^ 64; omega⟩, .inl ⟨_, rfl, ?_⟩⟩
        refine ⟨_, _, rfl, rfl, (by show (0 : Int) < 2147483647; decide), ?_⟩
        refine ⟨_, rfl, b, _, _, 0, rfl, rfl, hb1, ix_at (j := 0) (by simp), ?_⟩
        refine ⟨_, rfl, b, _, _, _, rfl, rfl, SqL.of upd_same, (atI_nat (j := 0) rfl), _, _, rfl, rfl, ⟨by decide, by decide⟩, .inl ⟨_, rfl, ?_⟩⟩
        refine ⟨_, rfl, _, _, rfl, rfl, (by show (0 : Int) < n; omega), ?_⟩
        exact k1 (z * 48271 % 2147483647 :: d :: r) _ (BagOk.put0 _ hd1 hr1) (Int.emod_nonneg _ (by omega)) (Int.emod_lt_of_pos _ (by omega))
end
end Dl

namespace Dl
open PySem L2
theorem Same.upd_new {H : Hp} {a : Addr} {o : HO} (h : H a = none) : Same H (upd H a o) := fun b u e => by
  rw [upd_ne (ne_of_none e h)]; exact e
def spBag (K : PySem.W.Frag) : Sp := fun vs H Q _ => ∃ (a : Addr) (ns : List Int), vs = [.ref a] ∧ SqL K H a (ns.map V.int) ∧ ns.length ≤ 63 ∧
  ∀ (H' : Hp) (p : Addr) (L : List Int), Same H H' → H p = none → H' p = some (.lst (L.map V.int)) → BagOk L → Q (.ref p) H'
section
variable {P : Program} {w : World} {K : PySem.W.Frag} {mg : Str → Option Value} {base : Heap}
theorem scBag : FnScope ["_law_script", "_law_cell"] ["_law_script"] (defScope sBag) := ⟨rfl, rfl, rfl, by decide +kernel, rfl, by decide +kernel, by decide +kernel⟩
theorem ok_bag {f : Addr} {fd : FuncData} (F : Fun K "_law_bag" "_law_bag" sBag f fd) (T : TxtB mg) : FnOk P w K mg base CX0 1 f fd ["_law_script"] (spBag K) := by
  refine F.ok scBag (fun vs H Q E h => ?_) (fun cdv A outer s H vs Q E hr h => ?_)
  · obtain ⟨b, L, rfl, _⟩ := h
    rfl
  · obtain ⟨a, ns, rfl, hS, hlen, k⟩ := h
    refine ⟨_, pss_one (ps_ret (pe_op op_cat (pe_lst (pa_cons pe_int (pa_cons pe_int pa_nil)))
      (pe_lc (own := [("_law_cell", 1)]) (g := gName 1) (tt := tYes) rfl scBag.nd (pi_list (pe_slice sl_list (pv 0) po_none (po_some pe_int))) (blkOk_by (N := ["_law_script", "_law_cell"]) (sc := defScope sBag) (by decide +kernel))
        (fun _ _ _ _ _ => pg_name (i := 1) scBag.nd rfl (Or.inl rfl)) (fun _ _ _ _ _ => pts_nil) (fun _ _ _ _ _ => pe_callB call_abs (by rfl) T.abs (by decide +kernel) (pa_cons (pv 1) pa_nil))))), ?_⟩
    refine ⟨by show 2 ≤ sizeLine; decide, fun l hl => ?_⟩
    refine ⟨_, rfl, 63, rfl, a, _, rfl, Same.seq (Same.upd_new hl) hS, fun q hq => ?_⟩
    have hcut : ∃ ms : List Int, cutV (ns.map V.int) none (some 63) = ms.map V.int ∧ ms.length ≤ 63 := by
      refine ⟨(ns.drop (HT.sIx (ns.map V.int).length 0 none)).take (HT.sIx (ns.map V.int).length (ns.map V.int).length (some 63) - HT.sIx (ns.map V.int).length 0 none), ?_, ?_⟩
      · unfold cutV
        rw [← List.map_drop, ← List.map_take]
      · rw [List.length_take, List.length_drop]
        omega
    obtain ⟨ms, em, hm⟩ := hcut
    rw [em]
    refine ⟨q, rfl, ⟨_, SqL.of upd_same⟩, fun D hD => lc_list (xs := ms.map V.int) (fun i H' => ∃ M : List Int, H' = upd (upd (upd H l (.lst [.int 0, .int 0])) q (.lst (ms.map V.int))) D (.lst (M.map V.int)) ∧ M.length = i ∧ ∀ x ∈ M, 0 ≤ x)
      ⟨[], rfl, rfl, fun x hx => absurd hx (by simp)⟩ ?_ ?_ ?_⟩
    · rintro i H' _ ⟨M, rfl, _, _⟩
      have nqD : q ≠ D := ne_of_none (H := upd (upd H l (.lst [.int 0, .int 0])) q (.lst (ms.map V.int))) upd_same hD
      exact SqL.of (by rw [upd_ne nqD]; exact upd_same)
    · rintro i x H' hi ⟨M, rfl, hM, hx⟩
      rw [List.getElem?_map] at hi
      cases e : ms[i]? with
      | none => rw [e] at hi; cases hi
      | some u =>
      rw [e] at hi
      obtain rfl : V.int u = x := Option.some.inj hi
      refine ⟨rfl, _, rfl, u, rfl, _, upd_same, ?_, M ++ [if u < 0 then -u else u], ?_, ?_, ?_⟩
      · rw [List.length_map, hM]
        have := (List.getElem?_eq_some_iff.mp e).1
        exact small1000 (by omega)
      · rw [upd_upd, List.map_append]
        rfl
      · rw [List.length_append, hM]
        rfl
      · intro y hy
        rcases List.mem_append.mp hy with h | h
        · exact hx y h
        · obtain rfl := List.mem_singleton.mp h
          split <;> omega
    · rintro H' ⟨M, rfl, hM, hx⟩
      have nlq : l ≠ q := fun e => by rw [e, upd_same] at hq; cases hq
      have nlD : l ≠ D := fun e => by rw [← e, upd_ne nlq, upd_same] at hD; cases hD
      rw [List.length_map] at hM
      refine ⟨l, D, _, _, rfl, rfl, by rw [upd_ne nlD, upd_ne nlq, upd_same], upd_same, ?_, fun p hp => ?_⟩
      · rw [List.length_map]
        exact Nat.le_of_lt (small1000 (by simp; omega))
      · have hp0 : H p = none := by
          have npD : p ≠ D := fun e => by rw [e, upd_same] at hp; cases hp
          have npq : p ≠ q := fun e => by rw [upd_ne npD, e, upd_same] at hp; cases hp
          have npl : p ≠ l := fun e => by rw [upd_ne npD, upd_ne npq, e, upd_same] at hp; cases hp
          rw [upd_ne npD, upd_ne npq, upd_ne npl] at hp
          exact hp
        have s1 : Same H (upd H l (.lst [.int 0, .int 0])) := Same.upd_new hl
        refine k _ p (0 :: 0 :: M) ((s1.trans (Same.upd_new hq)).trans ((Same.upd_new hD).trans (Same.upd_new hp))) hp0 (by rw [upd_same]; rfl) ⟨0, 0, M, rfl, by decide, by decide, by decide, hx⟩
end
end Dl

namespace Dl
open PySem L2
/-! ### names -/
def SG : Str := "abcdefghijklmnopqrstuvwxyz0123456789"
def validN (z : Str) : Bool := decide (1 ≤ z.length) && (decide (z.length ≤ 12) && z.cps.toList.all fun c => decide (c ∈ SG.cps.toList))
def isNm : V → Bool
  | .str z => validN z
  | _ => false
/-- what may be passed as a name: a text, an int, None, a list -/
def NmOk (H : Hp) : V → Prop
  | .str z => z.length ≤ sizeLine
  | .int _ => True
  | .non => True
  | .ref p => ∃ xs, H p = some (.lst xs)
  | _ => False
structure TxtN (mg : Str → Option Value) : Prop where
  isi : mg "isinstance" = none
  str : mg "str" = none
  len : mg "len" = none
  all : mg "all" = none
  longest : ∃ t, mg "LONGEST" = some (.int 12 t)
  signs : ∃ t, mg "SIGNS" = some (.str SG t)
theorem nm_type (K : PySem.W.Frag) {H : Hp} {v : V} (hv : NmOk H v) : ∃ (ty : String) (b : Bool), TyX K H v (.type ty) ∧ PySem.W.kitOne K (.type ty) (.type "str") = some b ∧ ((b = false ∧ isNm v = false ∧ ∀ z, v ≠ .str z) ∨ (b = true ∧ ∃ z, v = .str z ∧ z.length ≤ sizeLine)) := by
  cases v with
  | int i => exact ⟨"int", false, .base (.int i), kit_ty (by decide +kernel), .inl ⟨rfl, rfl, fun z h => by cases h⟩⟩
  | non => exact ⟨"NoneType", false, .base .non, kit_ty (by decide +kernel), .inl ⟨rfl, rfl, fun z h => by cases h⟩⟩
  | ref p => obtain ⟨xs, hp⟩ := hv; exact ⟨"list", false, .base (.lst hp), kit_ty (by decide +kernel), .inl ⟨rfl, rfl, fun z h => by cases h⟩⟩
  | str z => exact ⟨"str", true, .base (.str z), kit_ty (by decide +kernel), .inr ⟨rfl, z, rfl, hv⟩⟩
  | bl _ => exact hv.elim
  | byt _ => exact hv.elim
  | flt _ => exact hv.elim
  | ty _ => exact hv.elim
def Dfn (P : Program) (w : World) (K : PySem.W.Frag) (mg : Str → Option Value) (base : Heap) (CX : CXT) (k : Nat) (x : Str) (ps : List Str) (sp : Sp) : Prop :=
  ∃ f fd, mg x = some (.ref f) ∧ PySem.W.keepIn K (.ref f) = true ∧ Binds K fd ps [] ∧ FnOk P w K mg base CX k f fd ps sp
open PySem.Spec PyProof.Rows in
theorem Same.tup {K : PySem.W.Frag} {H H' : Hp} {a : Addr} {xs : List V} (e : Same H H') (h : SqT K H a xs) : SqT K H' a xs := by
  rcases h with (h | ⟨o, h⟩) | h
  · exact .inl (.inl (e _ _ h))
  · exact .inl (.inr ⟨o, e _ _ h⟩)
  · exact .inr h
def knows (v : V) (es : List Str) : Bool :=
  match v with
  | .str z => decide (z ∈ es)
  | _ => false
def strOf : V → Str
  | .str z => z
  | _ => ""
open PySem.Spec PyProof.Rows in
theorem Same.either {K : PySem.W.Frag} {H H' : Hp} {a : Addr} {xs : List V} (e : Same H H') (h : SqL K H a xs ∨ SqT K H a xs) : SqL K H' a xs ∨ SqT K H' a xs := h.imp (Same.seq e) (Same.tup e)
open PySem.Spec PyProof.Rows in
theorem inV_str {z : Str} {es : List Str} : inV (.str z) (es.map V.str) = decide (z ∈ es) := by
  unfold inV
  rw [List.any_map]
  induction es with
  | nil => simp
  | cons a r ih =>
    rw [List.any_cons, ih]
    have e : ((fun y => eqV y (V.str z)) ∘ V.str) a = decide (a = z) := by
      show eqV (V.str a) (V.str z) = decide (a = z)
      unfold eqV
      first | rfl | simp
    rw [e]
    by_cases h : a = z
    · subst h; simp
    · have h2 : ¬ z = a := fun q => h q.symm
      simp [h, h2]
open PySem.Spec PyProof.Rows in
theorem flat_strs (es : List Str) : (es.map V.str).all flatV = true := by
  rw [List.all_map]
  induction es with
  | nil => rfl
  | cons a r ih => rw [List.all_cons, ih]; rfl
end Dl

namespace Dl
open PySem PySem.Spec PyProof.Rows L2
/-! ### the drawn names: one to three letters, and the number of the names before where it was there -/
def LT : Str := "abcdefghijklmnopqrstuvwxyz"
def isLet (c : Nat) : Prop := 97 ≤ c ∧ c ≤ 122
def dg (n : Nat) : List Nat := (Str.ofString (toString (n : Int))).cps.toList
theorem lt_facts : ∀ c ∈ LT.cps.toList, 97 ≤ c ∧ c ≤ 122 := by decide +kernel
theorem lt_len : LT.cps.toList.length = 26 := by decide +kernel
theorem dg_facts : ∀ k, k < 25 → dg k ≠ [] ∧ (dg k).length ≤ 2 ∧ ∀ c ∈ dg k, ¬ (97 ≤ c ∧ c ≤ 122) ∧ c ∈ SG.cps.toList ∧ c < 1114112 := by decide +kernel
theorem dg_inj : ∀ j, j < 25 → ∀ k, k < 25 → dg j = dg k → j = k := by decide +kernel
theorem let_sg : ∀ c, c < 123 → 97 ≤ c → c ∈ SG.cps.toList ∧ c < 1114112 := by decide +kernel
theorem sg_small' : ∀ c ∈ SG.cps.toList, c < 1114112 := by decide +kernel
theorem nil_codes : ("" : Str).cps.toList = [] := by decide +kernel
/-- the name that was drawn as number i -/
structure NameAt (i : Nat) (z : Str) : Prop where
  ex : ∃ l : List Nat, l ≠ [] ∧ l.length ≤ 3 ∧ (∀ c ∈ l, isLet c) ∧ (z.cps.toList = l ∨ z.cps.toList = l ++ dg i)
structure NamesOk (zs : List Str) : Prop where
  at_ : ∀ i z, zs[i]? = some z → NameAt i z
  nd : zs.Nodup
  few : zs.length ≤ 24
theorem codes_ext {a b : Str} (h : a.cps.toList = b.cps.toList) : a = b := by
  cases a; cases b
  congr
  exact Array.ext' h
theorem let_dg {l l' : List Nat} {j k : Nat} (hj : j < 25) (hk : k < 25) (hl : ∀ c ∈ l, isLet c) (hl' : ∀ c ∈ l', isLet c) (h : l' ++ dg j = l ++ dg k) : j = k := by
  have tw : ∀ (m d : List Nat), (∀ c ∈ m, isLet c) → (∀ c ∈ d, ¬ isLet c) → (m ++ d).dropWhile (fun c => decide (97 ≤ c ∧ c ≤ 122)) = d := by
    intro m
    induction m with
    | nil =>
      intro d _ hd
      cases d with
      | nil => rfl
      | cons a r =>
        have q : ¬ (97 ≤ a ∧ a ≤ 122) := hd a (List.mem_cons_self ..)
        simp only [List.nil_append, List.dropWhile]
        rw [decide_eq_false q]
    | cons a r ih =>
      intro d hm hd
      have q : 97 ≤ a ∧ a ≤ 122 := hm a (List.mem_cons_self ..)
      rw [List.cons_append, List.dropWhile, decide_eq_true q]
      exact ih d (fun c hc => hm c (List.mem_cons_of_mem _ hc)) hd
  have e := congrArg (List.dropWhile fun c => decide (97 ≤ c ∧ c ≤ 122)) h
  rw [tw l' (dg j) hl' fun c hc => ((dg_facts j hj).2.2 c hc).1, tw l (dg k) hl fun c hc => ((dg_facts k hk).2.2 c hc).1] at e
  exact dg_inj j hj k hk e
theorem fresh_tail {zs : List Str} {l : List Nat} {z : Str} (ok : NamesOk zs) (h23 : zs.length ≤ 23) (hl : ∀ c ∈ l, isLet c) (hz : z.cps.toList = l ++ dg zs.length) : z ∉ zs := by
  intro hm
  obtain ⟨i, hi⟩ := List.getElem?_of_mem hm
  have hlt : i < zs.length := (List.getElem?_eq_some_iff.mp hi).1
  obtain ⟨l', _, _, hl', e⟩ := (ok.at_ i z hi).ex
  rcases e with e | e
  · rw [hz] at e
    have d := dg_facts zs.length (by omega)
    cases hd : dg zs.length with
    | nil => exact d.1 hd
    | cons c r =>
      have m1 : c ∈ l' := by rw [← e, hd]; simp
      have m2 : c ∈ dg zs.length := by rw [hd]; simp
      exact (d.2.2 c m2).1 (hl' c m1)
  · rw [hz] at e
    have := let_dg (by omega) (by omega) hl hl' e.symm
    omega
theorem NameAt.sg {i : Nat} {z : Str} (h : NameAt i z) (hi : i < 25) : (∀ c ∈ z.cps.toList, c ∈ SG.cps.toList) ∧ 1 ≤ z.length ∧ z.length ≤ 5 := by
  obtain ⟨l, h1, h2, h3, h4⟩ := h.ex
  have zl : z.length = z.cps.toList.length := by simp [Str.length]
  have l1 : 1 ≤ l.length := by cases l with | nil => exact absurd rfl h1 | cons _ _ => simp
  have d := dg_facts i hi
  rcases h4 with e | e
  · refine ⟨fun c hc => ?_, by rw [zl, e]; exact l1, by rw [zl, e]; omega⟩
    rw [e] at hc
    exact (let_sg c (by have := (h3 c hc).2; omega) (h3 c hc).1).1
  · refine ⟨fun c hc => ?_, by rw [zl, e, List.length_append]; omega, by rw [zl, e, List.length_append]; omega⟩
    rw [e] at hc
    rcases List.mem_append.mp hc with hc | hc
    · exact (let_sg c (by have := (h3 c hc).2; omega) (h3 c hc).1).1
    · exact (d.2.2 c hc).2.1
theorem NameAt.valid {i : Nat} {z : Str} (h : NameAt i z) (hi : i < 25) : validN z = true := by
  obtain ⟨h1, h2, h3⟩ := h.sg hi
  unfold validN
  rw [decide_eq_true h2, decide_eq_true (show z.length ≤ 12 by omega), List.all_eq_true.mpr fun c hc => decide_eq_true (h1 c hc)]
  rfl
theorem NamesOk.valid {zs : List Str} (ok : NamesOk zs) {z : Str} (hz : z ∈ zs) : validN z = true := by
  obtain ⟨i, hi⟩ := List.getElem?_of_mem hz
  have hlt : i < zs.length := (List.getElem?_eq_some_iff.mp hi).1
  exact (ok.at_ i z hi).valid (by have := ok.few; omega)
theorem valid_small {z : Str} (h : validN z = true) : z.length ≤ 12 ∧ (∀ c ∈ z.cps.toList, c < 1114112) := by
  unfold validN at h
  simp only [Bool.and_eq_true, decide_eq_true_eq] at h
  exact ⟨h.2.1, fun c hc => sg_small' c (of_decide_eq_true (List.all_eq_true.mp h.2.2 c hc))⟩
/-- everything but the bag at b stands -/
def SameB (b : Addr) (H H' : Hp) : Prop := ∀ c o, c ≠ b → H c = some o → H' c = some o
theorem SameB.refl (b : Addr) (H : Hp) : SameB b H H := fun _ _ _ h => h
theorem SameB.trans {b : Addr} {H H1 H2 : Hp} (s : SameB b H H1) (t : SameB b H1 H2) : SameB b H H2 := fun c o n h => t c o n (s c o n h)
theorem SameB.upd {b : Addr} {H : Hp} {o : HO} : SameB b H (upd H b o) := fun c u n h => by rw [upd_ne n]; exact h
theorem SameB.of {b : Addr} {H H' : Hp} (s : Same H H') : SameB b H H' := fun c o _ h => s c o h
theorem SameB.free {b : Addr} {H H' : Hp} (s : SameB b H H') {c : Addr} (n : c ≠ b) (h : H' c = none) : H c = none := by
  cases e : H c with
  | none => rfl
  | some o => rw [s c o n e] at h; cases h
theorem upd_none {H : Hp} {b c : Addr} {o : HO} (h : upd H b o c = none) : H c = none ∧ c ≠ b := by
  by_cases e : c = b
  · subst e; rw [upd_same] at h; cases h
  · rw [upd_ne e] at h; exact ⟨h, e⟩
structure TxtM (mg : Str → Option Value) : Prop where
  range : mg "range" = none
  len : mg "len" = none
  str : mg "str" = none
def spName : Sp := fun vs H Q _ => ∃ (b u : Addr) (L : List Int) (zs : List Str), vs = [.ref b, .ref u] ∧ H b = some (.lst (L.map V.int)) ∧ BagOk L ∧ u ≠ b ∧ H u = some (.lst (zs.map V.str)) ∧ NamesOk zs ∧ zs.length ≤ 23 ∧
  ∀ (L' : List Int) (z : Str), BagOk L' → NameAt zs.length z → z ∉ zs → Q (.str z) (upd H b (.lst (L'.map V.int)))
def spNames : Sp := fun vs H Q _ => ∃ (b : Addr) (L : List Int) (n : Int), vs = [.ref b, .int n] ∧ H b = some (.lst (L.map V.int)) ∧ BagOk L ∧ 0 ≤ n ∧ n ≤ 24 ∧
  ∀ (H' : Hp) (u : Addr) (L' : List Int) (zs : List Str), SameB b H H' → H u = none → H' u = some (.lst (zs.map V.str)) → H' b = some (.lst (L'.map V.int)) → BagOk L' → NamesOk zs → zs.length = n.toNat → Q (.ref u) H'
theorem cat_codes (a b : Str) : (a ++ b).cps.toList = a.cps.toList ++ b.cps.toList := by
  show (a.cps ++ b.cps).toList = _
  simp
theorem cat_len (a b : Str) : (a ++ b).length = a.length + b.length := by
  show (a.cps ++ b.cps).size = _
  rw [Array.size_append]
  rfl
section
variable {P : Program} {w : World} {K : PySem.W.Frag} {mg : Str → Option Value} {base : Heap}
theorem scName : FnScope ["_law_bag_here", "_law_used", "_law_letters", "_law_name_here", "_law_k"] ["_law_bag_here", "_law_used"] (defScope sLawName) := ⟨rfl, rfl, rfl, by decide +kernel, rfl, by decide +kernel, by decide +kernel⟩
theorem ok_name {f : Addr} {fd : FuncData} (F : Fun K "_law_name" "_law_name" sLawName f fd) (T : TxtM mg) (gT : Dfn P w K mg base CX0 1 "_law_take" ["_law_bag_here", "_law_size"] spTake) :
    FnOk P w K mg base CX0 2 f fd ["_law_bag_here", "_law_used"] spName := by
  obtain ⟨fT, dT, mT, kT, bT, GT⟩ := gT
  refine F.ok scName (fun vs H Q E h => ?_) (fun cdv A outer s H vs Q E hr h => ?_)
  · obtain ⟨a, u, L, zs, rfl, _⟩ := h
    rfl
  · obtain ⟨b, u, L, zs, rfl, hb, hok, hub, hu, ok, hlen, k⟩ := h
    have hr1 : Room 1 _ := hr
    refine ⟨_, (pss_cons (ps_set (i := 2) scName.nd rfl (Or.inl rfl) pe_str)
        (pss_cons (ps_set (i := 3) scName.nd rfl (Or.inl rfl) pe_str)
        (pss_cons (ps_for PassesOwn.never rfl (pi_range1 (by rfl) T.range (pa_cons (pe_op op_add pe_int (pe_call GT hr1 (by rfl) mT kT bT .nil pass0 (pa_cons (pv 0) (pa_cons pe_int pa_nil)))) pa_nil)) (pg_name (i := 4) scName.nd rfl (Or.inl rfl)) (pss_one (ps_set (i := 3) scName.nd rfl (Or.inl rfl) (pe_op op_add_str (pv 3) (pe_ix ix_str (pv 2) (pe_call GT hr1 (by rfl) mT kT bT .nil pass0 (pa_cons (pv 0) (pa_cons pe_int pa_nil))) (fun _ _ => rfl))))))
        (pss_cons (ps_if (pt_cmpR op_in_seq (pv 3) (pv 1) (by rfl)) (pss_one (ps_set (i := 3) scName.nd rfl (Or.inl rfl) (pe_op op_add_str (pv 3) (pe_callTy call_str_int (by rfl) T.str (by decide +kernel) (pa_cons (pe_callB call_len_seq (by rfl) T.len PySem.boot_len (pa_cons (pv 1) pa_nil)) pa_nil))))) pss_nil)
        (pss_one (ps_ret (pv 3))))))), ?_⟩
    refine ⟨_, rfl, b, L, 3, rfl, hb, hok, by decide, by decide, fun L1 r ok1 r0 r1 => ⟨_, _, rfl, rfl, _, rfl, by omega, by omega, for_range (n := (1 + r).toNat) (lo := 0)
      (fun i σ H' => ∃ (z : Str) (x : Option V) (L2 : List Int), σ = [some (.ref b), some (.ref u), some (.str LT), some (.str z), x] ∧ H' = upd H b (.lst (L2.map V.int)) ∧ BagOk L2 ∧ z.cps.toList.length = i ∧ ∀ c ∈ z.cps.toList, isLet c)
      ⟨_, none, L1, rfl, rfl, ok1, by decide +kernel, fun c hc => absurd hc (by rw [nil_codes]; exact List.not_mem_nil)⟩ ?_ ?_⟩⟩
    · rintro i σ H2 hi ⟨z, x, L2, rfl, rfl, ok2, hz, hzc⟩
      refine ⟨_, rfl, _, rfl, _, rfl, b, L2, 26, rfl, upd_same, ok2, by decide, by decide, fun L3 q ok3 q0 q1 => ?_⟩
      have hq3 : q.toNat < LT.cps.toList.length := by rw [lt_len]; omega
      refine ⟨LT, q, LT.cps.toList[q.toNat], rfl, rfl, by decide +kernel, ?_, ?_⟩
      · have e := atI_nat (xs := LT.cps.toList) (j := q.toNat) (List.getElem?_eq_getElem hq3)
        rw [Int.toNat_of_nonneg q0] at e
        exact e
      · have ez : z.length = i := hz
        refine ⟨z, _, rfl, rfl, ?_, ?_⟩
        · rw [ez]
          exact Nat.le_of_lt (small1000 (by show i + 1 ≤ 1000; omega))
        · refine ⟨_, _, L3, rfl, upd_upd, ok3, ?_, ?_⟩
          · rw [cat_codes, List.length_append, hz]
            rfl
          · intro c hc
            rw [cat_codes] at hc
            rcases List.mem_append.mp hc with h | h
            · exact hzc c h
            · obtain rfl : c = LT.cps.toList[q.toNat] := by simpa using h
              exact lt_facts _ (List.getElem_mem hq3)
    · rintro σ H2 ⟨z, x, L2, rfl, rfl, ok2, hz, hzc⟩
      have zl : z.length = (1 + r).toNat := hz
      have hne : z.cps.toList ≠ [] := by
        intro e
        rw [e] at hz
        simp at hz
        omega
      have at0 : NameAt zs.length z := ⟨z.cps.toList, hne, by omega, hzc, .inl rfl⟩
      refine ⟨_, rfl, _, rfl, u, _, rfl, .inl (SqL.of (by rw [upd_ne hub]; exact hu)), rfl, flat_strs zs, _, rfl, ?_⟩
      show if (inV (.str z) (zs.map V.str)) = true then _ else _
      rw [inV_str]
      by_cases hm : z ∈ zs
      · rw [decide_eq_true hm]
        refine iteT ⟨_, rfl, _, rfl, u, _, rfl, .inl (SqL.of (by rw [upd_ne hub]; exact hu)), _, rfl, ?_, z, _, rfl, rfl, ?_, _, rfl, ?_⟩
        · rw [List.length_map]
          have : ((zs.length : Nat) : Int).natAbs = zs.length := by simp
          rw [this]
          exact Nat.lt_of_le_of_lt (Nat.log2_le_self _) (by omega)
        · have d := (dg_facts zs.length (by omega)).2.1
          have e : (Str.ofString (toString ((((zs.map V.str).length : Nat) : Int)))).length = (dg zs.length).length := by
            rw [List.length_map]
            simp [dg, Str.length]
          show z.length + (Str.ofString (toString ((((zs.map V.str).length : Nat) : Int)))).length ≤ sizeLine
          rw [e, zl]
          exact Nat.le_of_lt (small1000 (by omega))
        · have ez : (z ++ (Str.ofString (toString ((((zs.map V.str).length : Nat) : Int))))).cps.toList = z.cps.toList ++ dg zs.length := by
            rw [cat_codes, List.length_map]
            rfl
          exact k L2 _ ok2 ⟨z.cps.toList, hne, by omega, hzc, .inr ez⟩ (fresh_tail ok hlen hzc ez)
      · rw [decide_eq_false hm]
        exact iteF ⟨_, rfl, k L2 z ok2 at0 hm⟩
theorem scNames : FnScope ["_law_bag_here", "_law_count", "_law_names_here", "_law_k"] ["_law_bag_here", "_law_count"] (defScope sLawNames) := ⟨rfl, rfl, rfl, by decide +kernel, rfl, by decide +kernel, by decide +kernel⟩
theorem ok_names {f : Addr} {fd : FuncData} (F : Fun K "_law_names" "_law_names" sLawNames f fd) (T : TxtM mg) (gN : Dfn P w K mg base CX0 2 "_law_name" ["_law_bag_here", "_law_used"] spName) :
    FnOk P w K mg base CX0 3 f fd ["_law_bag_here", "_law_count"] spNames := by
  obtain ⟨fNm, dNm, mNm, kNm, bNm, GNm⟩ := gN
  refine F.ok scNames (fun vs H Q E h => ?_) (fun cdv A outer s H vs Q E hr h => ?_)
  · obtain ⟨a, L, n, rfl, _⟩ := h
    rfl
  · obtain ⟨b, L, n, rfl, hb, hok, hn0, hn1, k⟩ := h
    have hr2 : Room 2 _ := hr
    refine ⟨_, (pss_cons (ps_set (i := 2) scNames.nd rfl (Or.inl rfl) (pe_lst pa_nil))
        (pss_cons (ps_for PassesOwn.never rfl (pi_range1 (by rfl) T.range (pa_cons (pv 1) pa_nil)) (pg_name (i := 3) scNames.nd rfl (Or.inl rfl)) (pss_one (ps_expr (pe_bm PySem.F.plainAttrs_list PySem.F.slot_list_append PySem.F.type_list_append mt_append (pv 2) (pa_cons (pe_call GNm hr2 (by rfl) mNm kNm bNm .nil pass0 (pa_cons (pv 0) (pa_cons (pv 2) pa_nil))) pa_nil)))))
        (pss_one (ps_ret (pv 2))))), ?_⟩
    refine ⟨Nat.zero_le _, fun u hu => ?_⟩
    have nub : u ≠ b := fun e => by rw [e, hb] at hu; cases hu
    refine ⟨_, rfl, _, rfl, by omega, by omega, for_range (n := n.toNat) (lo := 0)
      (fun i σ H' => ∃ (zs : List Str) (x : Option V) (L2 : List Int), σ = [some (.ref b), some (.int n), some (.ref u), x] ∧ SameB b H H' ∧ H' b = some (.lst (L2.map V.int)) ∧ BagOk L2 ∧ H' u = some (.lst (zs.map V.str)) ∧ NamesOk zs ∧ zs.length = i)
      ⟨[], none, L, rfl, SameB.of (Same.upd_new hu), by rw [upd_ne nub.symm]; exact hb, hok, upd_same, ⟨fun i z h => by simp at h, by simp, by simp⟩, rfl⟩ ?_ ?_⟩
    · rintro i σ H2 hi ⟨zs, x, L2, rfl, s2, hb2, ok2, hu2, okz, hz⟩
      refine ⟨_, rfl, .inl ⟨rfl, _, SqL.of hu2⟩, _, rfl, _, rfl, b, u, L2, zs, rfl, hb2, ok2, nub, hu2, okz, by omega, fun L3 z ok3 hat hnz => ?_⟩
      refine ⟨u, _, _, rfl, rfl, by rw [upd_ne nub]; exact hu2, ?_, ?_⟩
      · rw [List.length_map]
        exact small1000 (by omega)
      · refine ⟨zs ++ [z], _, L3, rfl, fun c o n h => ?_, ?_, ok3, ?_, ⟨fun j y h => ?_, ?_, ?_⟩, ?_⟩
        · have ncu : c ≠ u := ne_of_none h hu
          rw [upd_ne ncu, upd_ne n]
          exact s2 c o n h
        · rw [upd_ne nub.symm, upd_same]
        · rw [upd_same, List.map_append]
          rfl
        · by_cases hj : j < zs.length
          · rw [List.getElem?_append_left hj] at h
            exact okz.at_ j y h
          · rw [List.getElem?_append_right (by omega)] at h
            have hj0 : j - zs.length = 0 := by
              have := (List.getElem?_eq_some_iff.mp h).1
              simp at this
              omega
            rw [hj0] at h
            obtain rfl : z = y := by simpa using h
            have : j = zs.length := by omega
            rw [this]
            exact hat
        · rw [List.nodup_append]
          refine ⟨okz.nd, by simp, fun a ha c hc => ?_⟩
          obtain rfl := List.mem_singleton.mp hc
          exact fun e => hnz (e ▸ ha)
        · rw [List.length_append]
          simp
          omega
        · rw [List.length_append, hz]
          rfl
    · rintro σ H2 ⟨zs, x, L2, rfl, s2, hb2, ok2, hu2, okz, hz⟩
      exact ⟨_, rfl, k H2 u L2 zs s2 hu hu2 hb2 ok2 okz hz⟩
end
end Dl

namespace Dl
open PySem PySem.Spec PyProof.Rows L2
/-! ### texts: what is a valid name -/
theorem len_pos {z : Str} (h : ¬ z = ("" : Str)) : 1 ≤ z.length := by
  have e0 : ("" : Str) = ⟨#[]⟩ := by decide +kernel
  cases z with
  | mk cps =>
    by_cases q : cps.size = 0
    · exfalso
      apply h
      rw [e0, Array.eq_empty_of_size_eq_zero q]
    · show 1 ≤ cps.size
      omega
theorem valid_of {z : Str} (h1 : 1 ≤ z.length) (h : ∀ c ∈ z.cps.toList, c ∈ SG.cps.toList) : validN z = decide (z.length ≤ 12) := by
  unfold validN
  rw [decide_eq_true h1, List.all_eq_true.mpr fun c hc => decide_eq_true (h c hc)]
  simp
theorem invalid_of {z : Str} {c : Nat} (hc : c ∈ z.cps.toList) (h : c ∉ SG.cps.toList) : validN z = false := by
  unfold validN
  have q : (z.cps.toList.all fun c => decide (c ∈ SG.cps.toList)) = false := by
    rw [List.all_eq_false]
    exact ⟨c, hc, by simpa using h⟩
  rw [q]
  simp
end Dl

/-! C(e, ..) in a try's body: what the class's __init__ lets out is wished for at the caller's slots; lists of texts as data -/
namespace Dl
open PySem PySem.Spec PyProof.Rows L2
def tMakeS (C : Addr) (sp : Sp) (E : L2.St → XK) (t : TA) : TE := fun σ H Q => t σ H fun vs H1 =>
  ∀ x dx, H1 x = none → H1 dx = none → dx ≠ x → sp (.ref x :: vs) (upd (upd H1 dx (.own x)) x (.ins C dx [])) (fun v H2 => v = .non ∧ Q (.ref x) H2) (E σ)
theorem make_slots {X : Cx} {CX : CXT} {k : Nat} {f C : Addr} {fd : FuncData} {ps : List Str} {sp : Sp} {E : XK} {σ : L2.St} {pins : List (Addr × Obj)} {H : Hp} {s : Shared} {Q : VK} {us : List Value} {vs : List V}
    (M : Mk X.K C f) (F : FnOk X.prog X.w X.K X.mg X.base CX k f fd ps sp) (hr : Room (k + 1) X.A) (hb : Binds X.K fd ps []) (hx : PassesAt CX X σ E) (I : Inv X pins σ H s) (r : Vals vs us)
    (h : ∀ x dx, H x = none → H dx = none → dx ≠ x → sp (.ref x :: vs) (upd (upd H dx (.own x)) x (.ins C dx [])) (fun v H2 => v = .non ∧ Q (.ref x) H2) E) :
    wpAny (model X.prog X.w) X.A (call (.ref C) us) (EP X pins σ Q) X.xe s := by
  have at0 : H s.heap.objs.size = none := I.hok.fresh (Nat.le_refl _)
  have at1 : H (s.heap.objs.size + 1) = none := I.hok.fresh (Nat.le_succ _)
  have want := h _ _ at1 at0 (Nat.ne_of_lt (Nat.lt_succ_self _))
  have J := Inv.made (C := C) I
  have rv : Vals (V.ref (s.heap.objs.size + 1) :: vs) (Value.ref (s.heap.objs.size + 1) :: us) := .cons rfl r
  have len : (Value.ref (s.heap.objs.size + 1) :: us).length = ps.length := by rw [← rv.length]; exact F.len _ _ _ _ want
  have bind := hb _ (Value.ref (s.heap.objs.size + 1) :: us) J.kIn (by rw [List.append_nil]; exact len)
  rw [List.append_nil] at bind
  have body := F.run _ X.stack _ _ ⟨Value.ref (s.heap.objs.size + 1) :: us, []⟩ _ _ _ E (hr.make C us []) (J.env0.make C us []) bind rv want
  apply wpAny_call
  apply make_map (f := f) I.kIn M.makes M.init (beq_iff_eq.mp M.fn)
  apply codeAny_mono body
  intro out s2 hout
  match out, hout with
  | .error er, hout => exact hx pins _ _ er s2 J hout
  | .ok (.ret u), hout =>
    obtain ⟨v, H2, J2, rel, ev, q⟩ := J.after hout
    cases ev
    exact ⟨rel, V.ref (s.heap.objs.size + 1), H2, J2, rfl, q⟩
theorem pe_makeS {X : Cx} {CX : CXT} {k : Nat} {f C : Addr} {fd : FuncData} {ps : List Str} {sp : Sp} {E : L2.St → XK} {x : Str} {p pos : Pos} {e : Expr} {es : List Expr} {t : TA}
    (M : Mk X.K C f) (F : FnOk X.prog X.w X.K X.mg X.base CX k f fd ps sp) (hr : Room (k + 1) X.A) (hg : Gl X x) (hm : X.mg x = some (.ref C)) (hb : Binds X.K fd ps []) (hx : ∀ σ, PassesAt CX X σ (E σ)) (ha : PA X (e :: es) t)
    (hdb : (x == ("__debug__" : Str)) = false := by decide) (he : starEach (e :: es) X.env = (false, eval e X.env) :: starEach es X.env := by rfl) (hpl : (backTo pos (starEach es X.env)).any (·.1) = false := by rfl) :
    PE X (.Call (.Name x p) (e :: es) [] pos) (tMakeS C sp E t) := by
  constructor
  intro pins s σ H Q I h
  apply wpAny_Call_Name_kw
  apply ld_glob I hg hm _ hdb
  apply PySem.W.callWith_K (h₀ := X.base) I.ok.mod.kin M.kp _ he hpl
  apply thn (ha.run pos pins s σ H _ I h)
  rintro us s1 ⟨vs, H1, I1, r, q⟩
  exact ⟨I1.kIn, make_slots M F hr hb (hx σ) I1 r q⟩
/-! ### lists and tuples of texts as data -/
theorem canAll_strs : ∀ {zs : List Str}, (∀ z ∈ zs, PyData.canLay0 (.str z) = true) → PyData.canLayAll0 (zs.map PyData.str) = true
  | [], _ => by simp [PyData.canLayAll0]
  | z :: r, h => by
    rw [List.map_cons, PyData.canLayAll0, Bool.and_eq_true]
    exact ⟨h z (List.mem_cons_self ..), canAll_strs fun y hy => h y (List.mem_cons_of_mem _ hy)⟩
theorem depthAll_strs : ∀ zs : List Str, PyData.depthAll (zs.map PyData.str) = 0
  | [] => by simp [PyData.depthAll]
  | z :: r => by rw [List.map_cons, PyData.depthAll, depthAll_strs r]; simp [PyData.depth]
theorem shaped_strs {zs : List Str} (h : ∀ z ∈ zs, PyData.canLay0 (.str z) = true) : SeqAt.shaped (.list (zs.map PyData.str)) = true := by
  unfold SeqAt.shaped
  rw [Bool.and_eq_true, PyData.canLay0, PyData.depth, depthAll_strs]
  exact ⟨canAll_strs h, by decide⟩
theorem dpAll_strs {K : PySem.W.Frag} {H : Hp} : ∀ zs : List Str, DpAll K H (zs.map V.str) (zs.map PyData.str)
  | [] => .nil
  | z :: r => .cons (.str z) (dpAll_strs r)
theorem eqvAll_strs : ∀ zs ys : List Str, PyData.eqvAll (zs.map PyData.str) (ys.map PyData.str) = decide (zs = ys)
  | [], [] => by simp [PyData.eqvAll]
  | [], _ :: _ => by simp [PyData.eqvAll]
  | _ :: _, [] => by simp [PyData.eqvAll]
  | z :: r, y :: q => by
    rw [List.map_cons, List.map_cons, PyData.eqvAll, eqvAll_strs r q, PyData.eqv]
    by_cases h1 : z = y <;> by_cases h2 : r = q <;> simp [h1, h2]
end Dl

namespace Dl
open PySem PySem.Spec PyProof.Rows L2
/-! ### names and texts as data -/
def canS (z : Str) : Prop := PyData.canLay0 (.str z) = true
theorem can_of {z : Str} (h : ∀ c ∈ z.cps.toList, c < 1114112) : canS z := by
  unfold canS PyData.canLay0 PyData.strOk
  rw [Array.all_eq_true]
  intro i hi
  exact decide_eq_true (h _ (by simp))
/-- a value that is passed as a name, as data -/
def NmD (H : Hp) : V → Prop
  | .str z => canS z ∧ z.length ≤ 1000
  | .int _ => True
  | .non => True
  | .ref p => ∃ zs : List Str, H p = some (.lst (zs.map V.str)) ∧ ∀ z ∈ zs, canS z
  | _ => False
theorem NmD.ok {H : Hp} {v : V} (h : NmD H v) : NmOk H v := by
  cases v with
  | str z => exact Nat.le_of_lt (small1000 h.2)
  | int i => trivial
  | non => trivial
  | ref p => obtain ⟨zs, e, _⟩ := h; exact ⟨_, e⟩
  | bl _ => exact h.elim
  | byt _ => exact h.elim
  | flt _ => exact h.elim
  | ty _ => exact h.elim
theorem NmD.of {H H' : Hp} {v : V} (s : Same H H') (h : NmD H v) : NmD H' v := by
  cases v with
  | str z => exact h
  | int i => trivial
  | non => trivial
  | ref p => obtain ⟨zs, e, q⟩ := h; exact ⟨zs, s _ _ e, q⟩
  | bl _ => exact h.elim
  | byt _ => exact h.elim
  | flt _ => exact h.elim
  | ty _ => exact h.elim
theorem any_str (es : List Str) (y : Str) : (es.map PyData.str).any (fun z => PyData.eqv z (.str y)) = decide (y ∈ es) := by
  rw [List.any_map]
  induction es with
  | nil => simp
  | cons a r ih =>
    rw [List.any_cons, ih]
    show (PyData.eqv (.str a) (.str y) || decide (y ∈ r)) = _
    rw [PyData.eqv]
    by_cases h : a = y
    · subst h; simp
    · have h2 : ¬ y = a := fun q => h q.symm
      simp [h, h2]
theorem any_no (es : List Str) {d : PyData} (h : ∀ z : Str, PyData.eqv (.str z) d = false) : (es.map PyData.str).any (fun z => PyData.eqv z d) = false := by
  rw [List.any_map, List.any_eq_false]
  intro z _
  show ¬ PyData.eqv (.str z) d = true
  rw [h z]
  decide
/-- the data of a name -/
theorem NmD.dat (K : PySem.W.Frag) {H : Hp} {v : V} (h : NmD H v) : ∃ d, Dp K H v d ∧ PyData.canLay0 d = true ∧ d.depth ≤ 1 ∧ ∀ es : List Str, (es.map PyData.str).any (fun z => PyData.eqv z d) = knows v es := by
  cases v with
  | str z => exact ⟨.str z, .str z, h.1, by simp [PyData.depth], fun es => any_str es z⟩
  | int i => exact ⟨.int i, .int i, by simp [PyData.canLay0], by simp [PyData.depth], fun es => any_no es fun z => by rw [PyData.eqv]⟩
  | non => exact ⟨.none, .non, by simp [PyData.canLay0], by simp [PyData.depth], fun es => any_no es fun z => by rw [PyData.eqv]⟩
  | ref p =>
    obtain ⟨zs, e, q⟩ := h
    refine ⟨.list (zs.map PyData.str), .lst (SqL.of e) (dpAll_strs zs), ?_, ?_, fun es => any_no es fun z => by rw [PyData.eqv]⟩
    · rw [PyData.canLay0]; exact canAll_strs q
    · rw [PyData.depth, depthAll_strs]; decide
  | bl _ => exact h.elim
  | byt _ => exact h.elim
  | flt _ => exact h.elim
  | ty _ => exact h.elim
theorem shaped_of {d : PyData} (h : PyData.canLay0 d = true) (h2 : d.depth ≤ 1) : SeqAt.shaped d = true := by
  unfold SeqAt.shaped
  rw [h, Bool.true_and]
  exact decide_eq_true (by omega)
theorem room65 {k : Nat} {A : Around} (r : Room k A) : A.units + 65 < cLine := by
  have := r.un
  omega
theorem valid_can {z : Str} (h : validN z = true) : canS z := can_of (valid_small h).2
end Dl

/-! Notes: the methods of the operators -/
namespace Dl
open PySem PySem.Spec PyProof.Rows L2
section
variable {X : Cx}
def rInT (K : PySem.W.Frag) (neg : Bool) : R2 := fun x y H Q => ∃ d ds, Dp K H x d ∧ Dp K H y (.tuple ds) ∧ SeqAt.shaped d = true ∧ SeqAt.shaped (.tuple ds) = true ∧ Q (.bl (if neg = true then !ds.any fun z => PyData.eqv z d else ds.any fun z => PyData.eqv z d)) H
theorem tup_can {ds : List PyData} (h : SeqAt.shaped (.tuple ds) = true) : PyData.canLayAll0 ds = true := by
  unfold SeqAt.shaped at h
  rw [Bool.and_eq_true, PyData.canLay0] at h
  exact h.1
theorem op_inT (hu : X.A.units + 65 < cLine) : OpR X (compareOp .In) (rInT X.K false) := by
  intro pins s σ H x y v u Q I rx ry h
  obtain ⟨d, ds, hd, he, sd, se, q⟩ := h
  obtain ⟨as, r1⟩ := Dp.reads I d x v hd rx
  obtain ⟨bs, r2⟩ := Dp.reads I (.tuple ds) y u he ry
  exact SeqAt.in_tuple_reads r2 r1 (tup_can se) (SeqAt.canLay_of_shaped sd) (room_in_shaped sd hu) ⟨.bl _, H, I, rfl, q⟩
theorem op_notInT (hu : X.A.units + 65 < cLine) : OpR X (compareOp .NotIn) (rInT X.K true) := by
  intro pins s σ H x y v u Q I rx ry h
  obtain ⟨d, ds, hd, he, sd, se, q⟩ := h
  obtain ⟨as, r1⟩ := Dp.reads I d x v hd rx
  obtain ⟨bs, r2⟩ := Dp.reads I (.tuple ds) y u he ry
  exact SeqAt.notIn_tuple_reads r2 r1 (tup_can se) (SeqAt.canLay_of_shaped sd) (room_in_shaped sd hu) ⟨.bl _, H, I, rfl, q⟩
end
end Dl

namespace Dl
open PySem PySem.Spec PyProof.Rows L2
theorem int_nd {i j : Int} (h : i ≠ j) : decide (V.int i = V.int j) = false := decide_eq_false fun q => h (V.int.inj q)
theorem int_yd {i : Int} : decide (V.int i = V.int i) = true := decide_eq_true rfl
theorem iteY {c : Bool} {A B : Prop} (e : c = true) (h : A) : if c = true then A else B := by rw [if_pos e]; exact h
theorem iteZ {c : Bool} {A B : Prop} (e : c = false) (h : B) : if c = true then A else B := by rw [if_neg (by rw [e]; decide)]; exact h
end Dl

namespace Dl
open PySem PySem.Spec PyProof.Rows L2
/-- a walk over a list or a tuple -/
def iLT (K : PySem.W.Frag) (tl : TE) : TI := fun σ H R => tl σ H fun x H1 => ∃ a, x = .ref a ∧ (((∃ xs, SqL K H1 a xs) ∧ R (Itl K a) H1) ∨ ((∃ xs, SqT K H1 a xs) ∧ R (Itt K a) H1))
theorem pi_lt {X : Cx} {tg l : Expr} {tl : TE} (seq : PE X l tl) : PI X tg l (iLT X.K tl) := by
  constructor
  intro qs t τ G R J want
  have go := seq.run qs t τ G _ J want
  apply thn go
  rintro v t1 ⟨x, G1, J1, rel, a, rfl, far⟩
  cases rel
  have new : FpOk X qs G1 t1.heap.objs.size := J1.fpOk (Nat.le_refl _) (J1.hok.fresh (Nat.le_refl _))
  have only : ∀ c ∈ [t1.heap.objs.size], FpOk X qs G1 c := fun c hc => by
    rw [List.mem_singleton.mp hc]
    exact new
  rcases far with ⟨⟨xs, sq⟩, r⟩ | ⟨⟨xs, sq⟩, r⟩
  · obtain ⟨items, _, whole, _⟩ := J1.list sq
    apply wpAny_pyIter_list whole.isList
    exact ⟨_, [t1.heap.objs.size], _, _, G1, rfl, J1.kept (t' := t1.toks) fun c o z => Heap.get?_push_of_some _ z, turn_list a _, ⟨_, Heap.get?_push_size _ rfl, rfl, rfl⟩, only, r⟩
  · obtain ⟨items, _, whole, _⟩ := J1.tuple sq
    apply wpAny_pyIter_tuple (show t1.heap.IsTuple a items.toArray from whole)
    exact ⟨_, [t1.heap.objs.size], _, _, G1, rfl, J1.kept (t' := t1.toks) fun c o z => Heap.get?_push_of_some _ z, turn_tuple a _, ⟨_, Heap.get?_push_size _ rfl, rfl, rfl⟩, only, r⟩
end Dl

/-! rules for nodes: a method of one of several classes; not in a list of instances without an own __eq__; t[::-1] of a tuple -/
namespace Dl
open PySem PySem.Spec PyProof.Rows L2
section
variable {X : Cx} {CX : CXT} {k : Nat} {fd : FuncData} {ps : List Str} {E : XK}
/-- o.m(..), o an instance of one of the classes of D -/
def tMethD (D : Addr → Prop) (m : Str) (sp : Addr → Sp) (E : XK) (ta : TE) (t : TA) : TE := fun σ H Q => ta σ H fun x H1 => ∃ a C dx fs, x = .ref a ∧ H1 a = some (.ins C dx fs) ∧ D C ∧ fs.lookup m = none ∧
  t σ H1 fun vs H2 => sp C (x :: vs) H2 Q E
structure HasM (P : Program) (w : World) (K : PySem.W.Frag) (mg : Str → Option Value) (base : Heap) (CX : CXT) (k : Nat) (m : Str) (ps : List Str) (sp : Addr → Sp) (C : Addr) : Prop where
  cl : Cls K C
  ex : ∃ f fd, Meth K C m f ∧ Binds K fd ps [] ∧ FnOk P w K mg base CX k f fd ps (sp C)
theorem pe_methD {D : Addr → Prop} {sp : Addr → Sp} {o e : Expr} {es : List Expr} {ta : TE} {t : TA} {m : Str} {apos pos : Pos} {pl : Sem Bool} (he : PE X o ta) (hD : ∀ C, D C → HasM X.prog X.w X.K X.mg X.base CX k m ps sp C) (hr : Room k X.A) (hx : Passes CX X E) (ha : PA X (e :: es) t)
    (hst : starEach (e :: es) X.env = (false, eval e X.env) :: starEach es X.env := by rfl) (hpl : (backTo pos (starEach es X.env)).any (·.1) = false := by rfl)
    (ht : eval (.Call (.Attribute o m apos) (e :: es) [] pos) X.env = (do
      let ov ← eval o X.env
      standAt apos.atName
      let (f, first) ← holding [ov] (getMethod ov m pl)
      callWith pos f first (backTo pos (starEach (e :: es) X.env)) (backToKw pos (keywordEach [] X.env))) := by rfl) :
    PE X (.Call (.Attribute o m apos) (e :: es) [] pos) (tMethD D m sp E ta t) := by
  refine ⟨fun pins s σ H Q I h => ?_⟩
  refine PySem.W.methodCall_KW (pl := pl) (thn (he.run pins s σ H _ I h) fun u s1 ⟨x, H1, I1, rx, a, C, dx, fs, ex, ea, dC, l, q⟩ => ?_) ht
  subst ex
  obtain rfl : u = Value.ref a := rx
  obtain ⟨c, f, fd, hm, hb, F⟩ := hD C dC
  refine getmeth_ok I1 ea c hm l ?_
  refine PySem.W.callWith_K (first := [.ref a]) (h₀ := X.base) I.ok.mod.kin hm.kp (thn (ha.run pos pins s1 σ H1 _ I1 q) fun us s2 ⟨vs, H2, I2, r, q2⟩ => ⟨I2.kIn, ?_⟩) hst hpl
  exact run_fn (us := .ref a :: us) (vs := .ref a :: vs) F hr hb (dvs := []) .nil hx I2 (.cons rfl r) (by rw [List.append_nil]; exact q2)
theorem pe_methD0 {D : Addr → Prop} {sp : Addr → Sp} {o : Expr} {ta : TE} {m : Str} {apos pos : Pos} {pl : Sem Bool} (he : PE X o ta) (hD : ∀ C, D C → HasM X.prog X.w X.K X.mg X.base CX k m ps sp C) (hr : Room k X.A) (hx : Passes CX X E)
    (ht : eval (.Call (.Attribute o m apos) [] [] pos) X.env = (do
      let ov ← eval o X.env
      standAt apos.atName
      let (f, first) ← holding [ov] (getMethod ov m pl)
      callWith pos f first (backTo pos (starEach [] X.env)) (backToKw pos (keywordEach [] X.env))) := by rfl) :
    PE X (.Call (.Attribute o m apos) [] [] pos) (tMethD D m sp E ta tNil) := by
  refine ⟨fun pins s σ H Q I h => ?_⟩
  refine PySem.W.methodCall_KW (pl := pl) (thn (he.run pins s σ H _ I h) fun u s1 ⟨x, H1, I1, rx, a, C, dx, fs, ex, ea, dC, l, q⟩ => ?_) ht
  subst ex
  obtain rfl : u = Value.ref a := rx
  obtain ⟨c, f, fd, hm, hb, F⟩ := hD C dC
  refine getmeth_ok I1 ea c hm l ?_
  exact PySem.W.callWith_K0 (first := [.ref a]) I1.kIn hm.kp (run_fn (us := [.ref a]) (vs := [.ref a]) F hr hb (dvs := []) .nil hx I1 (.cons rfl .nil) q)
end
end Dl

/-! x not in a list of instances whose classes have no own __eq__ -/
namespace Dl
open PySem PySem.Spec PyProof.Rows L2
structure PlainEq (K : PySem.W.Frag) (D : Addr → Prop) : Prop where
  eq : ∀ C, D C → PySem.W.findIn K (.ref C) "__eq__" = some (some (.builtin "object.__eq__"))
  mro : ∀ C, D C → PySem.W.mroIn K C (.type "object") = some true
  nf : ∀ C C', D C → D C' → PySem.W.notFirst K C (.ref C') = true
section
variable {A : Around} {E : Value → Shared → Prop} {s : Shared} {K : PySem.W.Frag}
theorem check_slot_K2 {M : Model} {id n : String} {rest : List Value} {x C : Addr} {ox : Obj} {od : Option Obj} {Q : Unit → Shared → Prop} (X : K.In s.heap) (I : PySem.W.InstAt s.heap x ox C od) (hm : PySem.W.mroIn K C (.type "object") = some true) (hk : builtinKind id = some .slot) (hs : splitId id = some ("object", n))
    (ha : argsOk id ⟨.ref x :: rest, []⟩) (hq : Q () s) : wpAny M A (checkBuiltinCall id ⟨.ref x :: rest, []⟩) Q E s := by
  simp only [checkBuiltinCall, hk, hs]
  refine wpAny_bind ?_
  unfold isInstance
  refine wpAny_bind (I.type.here ((PySem.W.looks_mroIn X hm).here ?_))
  repeat wp_step
  cases hsig : Manifest.signature? id with
  | none => exact wpAny_pure hq
  | some sig =>
    simp only [argsOk, hsig] at ha
    have h2 : Bind.checkArgs id sig ⟨.ref x :: rest, []⟩ = pure () := ha
    show wpAny M A (Bind.checkArgs id sig ⟨.ref x :: rest, []⟩) Q E _
    rw [h2]; exact wpAny_pure hq
theorem ifBoundB_K2 {M : Model} {x C : Addr} {ox : Obj} {od : Option Obj} {args : List Value} {name : Str} {id : String} {Q : Option Value → Shared → Prop} (X : K.In s.heap) (I : PySem.W.InstAt s.heap x ox C od) (hs : PySem.W.findIn K (.ref C) name = some (some (.builtin id))) {B : String} (S : Slot B name id)
    (h : wpAny M A (call (.builtin id) (.ref x :: args)) (fun v => Q (some v)) E s) : wpAny M A (callSpecialIfBound? (.ref x) name args) Q E s := by
  simp only [callSpecialIfBound?, bindSpecialIfBound?]
  refine wpAny_holding (wpAny_bind (wpAny_bind (wpAny_bind (I.type.here ((PySem.W.looks_findIn X hs).here ?_)))))
  simp only [S.bind]
  refine wpAny_bind (wpAny_askSetting (wpAny_ite ?_))
  have fin : wpAny M A (call (.builtin id) ([.ref x] ++ args) >>= fun v => pure (some v)) Q E s := wpAny_bind (wpAny_mono h (fun v s' h' => wpAny_pure h') fun _ _ h' => h')
  split
  · exact wpAny_bind (wpAny_pure (wpAny_pure fin))
  · exact wpAny_tryCatch (wpAny_bind (wpAny_pure (wpAny_pure fin)))
theorem try_inst {prog : Program} {w : World} {x y C : Addr} {ox oy : Obj} {od od' : Option Obj} {C' : Addr} {Q : Option Value → Shared → Prop} (X : K.In s.heap) (I : PySem.W.InstAt s.heap x ox C od) (J : PySem.W.InstAt s.heap y oy C' od')
    (he : PySem.W.findIn K (.ref C) "__eq__" = some (some (.builtin "object.__eq__"))) (hm : PySem.W.mroIn K C (.type "object") = some true) (hxy : x ≠ y) (h : Q none s) : wpAny (model prog w) A (tryCompare (.ref x) "__eq__" (.ref y)) Q E s := by
  unfold tryCompare
  have nt : ox.cls ≠ .type "tuple" := by rw [I.cls]; intro e; cases e
  refine wpAny_bind (ifBoundB_K2 X I he PySem.F.cmp_object.eq (wpAny_call (codeAny_call_builtin PySem.F.cmp_object.eq.plain PySem.F.cmpEntry_eq
      (check_slot_K2 X I hm PySem.F.cmpKind_eq PySem.F.cmpSplit_eq (PySem.F.cmpArgs_eq _ _) (objEq_entry_other hxy I.at_ J.at_ nt ?_)))))
  exact wpAny_pure h
theorem eq_inst {prog : Program} {w : World} {x y C C' : Addr} {ox oy : Obj} {od od' : Option Obj} {Q : Value → Shared → Prop} (hu : A.units < cLine) (X : K.In s.heap) (I : PySem.W.InstAt s.heap x ox C od) (J : PySem.W.InstAt s.heap y oy C' od')
    (he : PySem.W.findIn K (.ref C) "__eq__" = some (some (.builtin "object.__eq__"))) (hm : PySem.W.mroIn K C (.type "object") = some true)
    (he' : PySem.W.findIn K (.ref C') "__eq__" = some (some (.builtin "object.__eq__"))) (hm' : PySem.W.mroIn K C' (.type "object") = some true) (hn : PySem.W.notFirst K C (.ref C') = true) (hxy : x ≠ y)
    (h : Q (.bool false) s) : wpAny (model prog w) A (richCompare .Eq (.ref x) (.ref y)) Q E s := by
  have nt : ox.cls ≠ .type "tuple" := by rw [I.cls]; intro e; cases e
  have last : wpAny (model prog w) A (isSame (.ref x) (.ref y) >>= fun b => pure (Value.bool b)) Q E s := wpAny_bind (wpAny_isSame_ref_other hxy I.at_ J.at_ nt (wpAny_pure h))
  have two : wpAny (model prog w) A (tryCompare (.ref y) "__eq__" (.ref x)) (fun r s' => r = none ∧ s' = s) E s := try_inst X J I he' hm' hxy.symm ⟨rfl, rfl⟩
  have one : wpAny (model prog w) A (tryCompare (.ref x) "__eq__" (.ref y)) (fun r s' => r = none ∧ s' = s) E s := try_inst X I J he hm hxy ⟨rfl, rfl⟩
  unfold richCompare
  simp only [oneThing_ref]
  refine wpAny_holding (wpAny_bind (wpAny_cRoomFor hu ?_))
  show wpAny _ _ (typeOf (.ref x) >>= _) _ _ s
  refine wpAny_bind (I.type.here (wpAny_bind (J.type.here ?_)))
  split
  · rename_i q
    have e : PySem.W.subIn K (.ref C') (.ref C) = some false := by
      rcases Bool.or_eq_true_iff.mp hn with e | e
      · rw [beq_iff_eq.mp e] at q; simp at q
      · exact beq_iff_eq.mp e
    refine wpAny_bind ((PySem.W.looks_subIn X e).here ?_)
    simp only [Bool.false_eq_true, if_false]
    refine wpAny_bind (wpAny_mono one (fun r s' z => ?_) fun _ _ e => e)
    obtain ⟨rfl, rfl⟩ := z
    refine wpAny_bind (wpAny_mono two (fun r s' z => ?_) fun _ _ e => e)
    obtain ⟨rfl, rfl⟩ := z
    first | exact last | exact wpAny_bind (wpAny_rule (wpAny_pure last)) | exact wpAny_rule last | exact wpAny_bind (wpAny_rule last)
  · refine wpAny_bind (wpAny_pure ?_)
    simp only [Bool.false_eq_true, if_false]
    refine wpAny_bind (wpAny_mono one (fun r s' z => ?_) fun _ _ e => e)
    obtain ⟨rfl, rfl⟩ := z
    refine wpAny_bind (wpAny_mono two (fun r s' z => ?_) fun _ _ e => e)
    obtain ⟨rfl, rfl⟩ := z
    first | exact last | exact wpAny_bind (wpAny_rule (wpAny_pure last)) | exact wpAny_rule last | exact wpAny_bind (wpAny_rule last)
end
section
variable {X : Cx}
def InsOf (D : Addr → Prop) (H : Hp) (a : Addr) : Prop := ∃ C dx fs, H a = some (.ins C dx fs) ∧ D C
def rNotInI (K : PySem.W.Frag) (D : Addr → Prop) : R2 := fun x y H Q => ∃ (a p : Addr) (ls : List Addr), x = .ref a ∧ y = .ref p ∧ SqL K H p (ls.map V.ref) ∧ InsOf D H a ∧ (∀ b ∈ ls, InsOf D H b) ∧ Q (.bl (!decide (a ∈ ls))) H
theorem vals_refs : ∀ {ls : List Addr} {us : List Value}, Vals (ls.map V.ref) us → us = ls.map Value.ref
  | [], _, .nil => rfl
  | a :: r, _ :: us, .cons h t => by
    cases h
    rw [List.map_cons, vals_refs t]
theorem any_refs (a : Addr) : ∀ ls : List Addr, (ls.map Value.ref).any (fun u => decide (u = Value.ref a)) = decide (a ∈ ls)
  | [] => by simp
  | b :: r => by
    rw [List.map_cons, List.any_cons, any_refs a r]
    by_cases e : b = a
    · simp [e]
    · have e2 : ¬ a = b := fun q => e q.symm
      simp [e, e2]
theorem op_notInI {D : Addr → Prop} (pe : PlainEq X.K D) (hu : X.A.units + 1 < cLine) : OpR X (compareOp .NotIn) (rNotInI X.K D) := by
  intro pins s σ H x y v u Q I rx ry h
  obtain ⟨a, p, ls, rfl, rfl, hq, ha, hb, q⟩ := h
  cases rx
  cases ry
  obtain ⟨its, r, pl, hz⟩ := I.list hq
  obtain rfl := vals_refs r
  obtain ⟨C, dx, fs, ea, dC⟩ := ha
  obtain ⟨mA, JA, _⟩ := ins_get I.hok ea
  obtain ⟨od, JA, _⟩ := JA.look
  refine SeqAt.notIn_listAt (fun u => decide (u = Value.ref a)) pl.isList (fun w hw => ?_) ⟨.bl _, H, I, rfl, ?_⟩
  · obtain ⟨b, hbm, rfl⟩ := List.mem_map.mp (by simpa using hw)
    by_cases e : b = a
    · subst e
      rw [decide_eq_true rfl]
      exact SeqAt.EqAt.same _
    · rw [decide_eq_false (fun z => e (by injection z))]
      obtain ⟨C', dy, gs, eb, dC'⟩ := hb b hbm
      obtain ⟨mB, JB, _⟩ := ins_get I.hok eb
      obtain ⟨od', JB, _⟩ := JB.look
      exact SeqAt.EqAt.of_refs e fun prog w E Q hq => eq_inst hu I.kIn JB JA (pe.eq _ dC') (pe.mro _ dC') (pe.eq _ dC) (pe.mro _ dC) (pe.nf _ _ dC' dC) e hq
  · have e : (ls.map Value.ref).toArray.any (fun u => decide (u = Value.ref a)) = decide (a ∈ ls) := by
      rw [List.any_toArray, any_refs]
    rw [e]
    exact q
end
end Dl

/-! t[::-1] of a tuple -/
namespace HT2
open PySem PySem.Spec PyProof.Rows HT
section
variable {prog : Program} {w : World} {A : Around} {E : Value → Shared → Prop} {s : Shared}
theorem adjust_rev (n : Nat) : Builtin.Slice.sliceAdjust none none (-1) (n : Int) = ((n : Int) - 1, -1) := by
  unfold Builtin.Slice.sliceAdjust
  simp
theorem places_rev (n : Nat) : Builtin.Slice.slicePlaces ((n : Int) - 1) (-1) (-1) = n := by
  unfold Builtin.Slice.slicePlaces
  have h1 : ¬ ((-1 : Int) > 0) := by omega
  have e : (-(-1 : Int)) = 1 := by decide
  simp only [h1, if_false, e, Int.ediv_one]
  split <;> omega
theorem sliceApplied_rev {sl : Addr} {vs : Value} {n : Nat} {Q : Int × Int × Nat → Shared → Prop} (hs : s.heap.IsSliceOf sl .none .none vs) (ps : IsPart vs (some (-1)))
    (h : Q ((n : Int) - 1, -1, n) s) : wpAny (model prog w) A (Builtin.Slice.sliceApplied (.ref sl) (pure (n : Int))) Q E s := by
  obtain ⟨os, hos, hcs, hds⟩ := id hs
  unfold Builtin.Slice.sliceApplied Builtin.Slice.sliceFields
  refine wpAny_bind (wpAny_bind (wpAny_field hos hds (x := .none) rfl (wpAny_bind (wpAny_field hos hds (x := .none) rfl (wpAny_bind (wpAny_field hos hds (x := vs) rfl (wpAny_pure ?_)))))))
  refine wpAny_bind (slicePart_ ps ?_)
  show wpAny _ _ (if ((-1 : Int) == 0) = true then _ else _) _ _ s
  rw [if_neg (by decide)]
  refine wpAny_bind (slicePart_none (wpAny_bind (slicePart_none (wpAny_bind (wpAny_pure ?_)))))
  show wpAny _ _ (match Builtin.Slice.sliceAdjust none none (-1) (n : Int) with | (lo, hi) => pure (lo, (-1 : Int), Builtin.Slice.slicePlaces lo hi (-1))) _ _ s
  rw [adjust_rev n]
  show wpAny _ _ (pure ((n : Int) - 1, (-1 : Int), Builtin.Slice.slicePlaces ((n : Int) - 1) (-1) (-1))) _ _ s
  rw [places_rev]
  exact wpAny_pure h
theorem pick_rev (xs : Array Value) : ((List.range xs.size).filterMap fun (m : Nat) => xs[((xs.size : Int) - 1 + (m : Int) * (-1)).toNat]?).toArray = xs.toList.reverse.toArray := by
  have e : ((List.range xs.size).filterMap fun (m : Nat) => xs[((xs.size : Int) - 1 + (m : Int) * (-1)).toNat]?) = ((List.range xs.size).map fun k => xs.size - 1 - k).filterMap (xs[·]?) := by
    have e1 : ((List.range xs.size).map fun (m : Nat) => ((xs.size : Int) - 1 + (m : Int) * (-1)).toNat) = (List.range xs.size).map fun k => xs.size - 1 - k := by
      apply List.map_congr_left
      intro m hm
      have := List.mem_range.mp hm
      omega
    rw [← e1, List.filterMap_map]
    rfl
  rw [e, PySem.W.krv_range, List.filterMap_reverse, PySem.W.krv_all]
theorem getItem_tuple_rev {t sl : Addr} {items : Array Value} {vs : Value} {Q : Value → Shared → Prop} (ht : IsTup s.heap t items) (hs : s.heap.IsSliceOf sl .none .none vs) (ps : IsPart vs (some (-1)))
    (h : Q (.ref s.heap.objs.size) { s with heap := s.heap.push { cls := .type "tuple", data := .seq items.toList.reverse.toArray } })
    (hsz : items.size ≤ sizeLine) : wpAny (model prog w) A (getItem (.ref t) (.ref sl)) Q E s := by
  have htake : sizeOk (.seq items.toList.reverse.toArray) := by
    show items.toList.reverse.toArray.size ≤ sizeLine
    rw [List.size_toArray, List.length_reverse, Array.length_toList]
    exact hsz
  obtain ⟨os, hos, hcs, hds⟩ := id hs
  have hTs : s.TypeIs (.ref sl) "slice" := ⟨os, hos, hcs⟩
  unfold getItem
  try with_reducible refine wpAny_holding ?_
  first | refine wpAny_bind (wpAny_pure ?_) | skip
  refine wpAny_bind (wpAny_sequenceKey ht.typeIs (by decide) ?_)
  refine wpAny_bind (wpAny_callSpecial?_slot (name := Str.ofString "__getitem__") ht.typeIs PyProof.Rows.slot_tuple_getitem
    (wpAny_call_entry PyProof.Rows.slot_tuple_getitem ht.typeIs entry_tuple_getitem ?_ (args_tuple_getitem _ _)))
  show wpAny _ _ (Builtin.Tuple.tupleItemsOf (.ref t) >>= _) _ _ s
  refine wpAny_bind (tupleItemsOf_ ht ?_)
  refine wpAny_bind (wpAny_typeOf hTs ?_)
  rw [if_pos (by decide)]
  refine wpAny_bind (sliceApplied_rev hs ps ?_)
  have hno : ¬ ((((items.size : Int) - 1) == 0 && (-1 : Int) == 1 && items.size == items.size) = true) := by
    simp
  show wpAny _ _ (if (((items.size : Int) - 1) == 0 && (-1 : Int) == 1 && items.size == items.size) = true then _ else _) _ _ s
  rw [if_neg hno, pick_rev]
  first
    | exact wpAny_bind (m := Builtin.Tuple.tupleExact _) (wpAny_newObj_type (wpAny_pure ⟨_, rfl, wpAny_pure h⟩) htake)
    | exact wpAny_bind (m := Builtin.Tuple.tupleExact _) (wpAny_newObj_type (wpAny_bind (wpAny_pure (wpAny_pure ⟨_, rfl, wpAny_pure h⟩))) htake)
    | exact wpAny_bind (wpAny_bind (m := Builtin.Tuple.tupleExact _) (wpAny_newObj_type (wpAny_pure (wpAny_pure ⟨_, rfl, wpAny_pure h⟩)) htake))
    | exact wpAny_bind (wpAny_bind (m := Builtin.Tuple.tupleExact _) (wpAny_newObj_type (wpAny_pure ⟨_, rfl, wpAny_pure h⟩) htake))
end
end HT2
namespace Dl
open PySem PySem.Spec PyProof.Rows L2
section
variable {X : Cx}
def tRevT (K : PySem.W.Frag) (te ts : TE) : TE := fun σ H Q => te σ H fun x H1 => ts σ H1 fun y H2 => y = .int (-1) ∧ ∃ a xs, x = .ref a ∧ SqT K H2 a xs ∧ ∀ p, H2 p = none → Q (.ref p) (upd H2 p (.tup xs.reverse))
theorem pe_revT {e st : Expr} {te ts : TE} {pos p2 : Pos} (he : PE X e te) (hs : PE X st ts) : PE X (.Subscript e (.Slice none none (some st) p2) pos) (tRevT X.K te ts) := by
  refine ⟨fun pins s σ H Q I h => ?_⟩
  refine Subscript_ (thn (he.run pins s σ H _ I h) fun v s1 ⟨x, H1, I1, r1, q1⟩ => ?_)
  refine wpAny_Slice ?_
  rw [evalPart_none]
  refine wpAny_pure (wpAny_pure ?_)
  rw [evalPart_some]
  refine thn (hs.run pins s1 σ H1 _ I1 q1) fun vs s3 ⟨y, H2, I3, r2, ey, a, xs, ex, hx, q⟩ => ?_
  subst ex
  subst ey
  obtain rfl : v = Value.ref a := r1
  obtain ⟨t, rfl⟩ := r2
  have I4 : Inv X pins σ H2 { s3 with heap := s3.heap.push { cls := .type "slice", data := .fields #[.none, .none, .int (-1) t] } } := I3.kept (t' := s3.toks) fun b ob q => Heap.get?_push_of_some _ q
  obtain ⟨its, r, ht, hz⟩ := I4.tuple hx
  show wpAny (model X.prog X.w) X.A (subscriptTail e (.Slice none none (some st) p2) (.ref a) (.ref s3.heap.objs.size)) (EP X pins σ Q) X.xe { s3 with heap := s3.heap.push { cls := .type "slice", data := .fields #[.none, .none, .int (-1) t] } }
  refine tail_any (ops := [.ref a, .ref s3.heap.objs.size]) ht.typeIs PyProof.Rows.slot_tuple_getitem.lookup ?_ (by with_unfolding_all rfl)
  have hlen : its.toArray.size = xs.length := by rw [List.size_toArray]; exact r.length.symm
  refine HT2.getItem_tuple_rev ht (Heap.IsSliceOf.new ..) (.int (-1) t) ?_ (by rw [hlen]; exact hz)
  refine ⟨.ref _, _, I4.laid (t' := s3.toks) (o := .tup xs.reverse) (fun b ob q => Heap.get?_push_of_some _ q) (Nat.le_refl _) ?_, rfl, q _ (I4.hok.fresh (Nat.le_refl _))⟩
  have rr : Vals xs.reverse its.reverse := by
    have go : ∀ {xs : List V} {its : List Value} {ys : List V} {js : List Value}, Vals xs its → Vals ys js → Vals (xs.reverse ++ ys) (its.reverse ++ js) := by
      intro xs its ys js h
      induction h generalizing ys js with
      | nil => intro q; exact q
      | cons a b ih => intro q; rw [List.reverse_cons, List.reverse_cons, List.append_assoc, List.append_assoc]; exact ih (.cons a q)
    have := go r .nil
    rwa [List.append_nil, List.append_nil] at this
  exact ⟨by rw [List.length_reverse]; exact hz, _, rr, IsTup.new _ _⟩
end
end Dl

/-! shapes, their orders, and what begins an order -/
namespace Dl
open PySem
inductive Sh where
  | leaf (n : Str)
  | br (row : Bool) (ps : List Sh)
mutual
def Sh.leaves : Sh → List Str
  | .leaf n => [n]
  | .br _ ps => Sh.leavesL ps
def Sh.leavesL : List Sh → List Str
  | [] => []
  | p :: r => p.leaves ++ Sh.leavesL r
end
mutual
def Sh.depth : Sh → Nat
  | .leaf _ => 0
  | .br _ ps => Sh.depthL ps + 1
def Sh.depthL : List Sh → Nat
  | [] => 0
  | p :: r => max p.depth (Sh.depthL r)
end
theorem leavesL_eq : ∀ ps : List Sh, Sh.leavesL ps = ps.flatMap Sh.leaves
  | [] => rfl
  | p :: r => by rw [Sh.leavesL, leavesL_eq r, List.flatMap_cons]
theorem leaves_br (row : Bool) (ps : List Sh) : (Sh.br row ps).leaves = ps.flatMap Sh.leaves := by rw [Sh.leaves, leavesL_eq]
theorem depth_mem : ∀ {ps : List Sh} {p : Sh}, p ∈ ps → p.depth ≤ Sh.depthL ps
  | q :: r, p, h => by
    rw [Sh.depthL]
    rcases List.mem_cons.mp h with rfl | h
    · omega
    · have := depth_mem h
      omega
theorem depthL_le : ∀ {ps : List Sh} {d : Nat}, (∀ p ∈ ps, p.depth ≤ d) → Sh.depthL ps ≤ d
  | [], d, _ => Nat.zero_le _
  | q :: r, d, h => by
    rw [Sh.depthL]
    have h1 := h q (List.mem_cons_self ..)
    have h2 := depthL_le (ps := r) (d := d) fun p hp => h p (List.mem_cons_of_mem _ hp)
    omega
inductive Sh.Ok : Sh → Prop where
  | leaf (n : Str) : Ok (.leaf n)
  | br (row : Bool) (ps : List Sh) : 2 ≤ ps.length → ps.length ≤ 4 → (row = true → 3 ≤ ps.length) → (∀ p ∈ ps, Ok p) → Ok (.br row ps)
/-- all ways to write one of each behind the other -/
def prodO : List (List (List Str)) → List (List Str) := fun xss => xss.foldl (fun (made inner : List (List Str)) => made.flatMap fun o => inner.map fun i => o ++ i) [[]]
def waysN (n : Nat) : Nat → List (List Nat)
  | 0 => [[]]
  | t + 1 => (waysN n t).flatMap fun w => ((List.range n).filter fun k => decide (k ∉ w)).map fun k => w ++ [k]
def ways : Bool → Nat → List (List Nat)
  | true, n => [List.range n, (List.range n).map fun k => n - 1 - k]
  | false, n => waysN n n
mutual
def Sh.orders : Sh → List (List Str)
  | .leaf n => [[n]]
  | .br row ps => (ways row ps.length).flatMap fun w => prodO (w.map fun k => (Sh.ordersL ps).getD k [])
def Sh.ordersL : List Sh → List (List (List Str))
  | [] => []
  | p :: r => p.orders :: Sh.ordersL r
end
theorem ordersL_eq : ∀ ps : List Sh, Sh.ordersL ps = ps.map Sh.orders
  | [] => rfl
  | p :: r => by rw [Sh.ordersL, ordersL_eq r, List.map_cons]
def begO (os : List (List Str)) (pre : List Str) : Bool := os.any fun o => decide (o.take pre.length = pre)
def Sh.begins (s : Sh) (pre : List Str) : Bool := begO s.orders pre
def beginsL (ps : List Sh) (pre : List Str) : Bool := begO (prodO (ps.map Sh.orders)) pre
theorem begO_iff {os : List (List Str)} {pre : List Str} : begO os pre = true ↔ ∃ o ∈ os, o.take pre.length = pre := by
  unfold begO
  rw [List.any_eq_true]
  constructor
  · rintro ⟨o, h, e⟩; exact ⟨o, h, of_decide_eq_true e⟩
  · rintro ⟨o, h, e⟩; exact ⟨o, h, decide_eq_true e⟩
/-! the product -/
theorem prod_from : ∀ (xss : List (List (List Str))) (acc : List (List Str)) (o : List Str), o ∈ xss.foldl (fun (made inner : List (List Str)) => made.flatMap fun o => inner.map fun i => o ++ i) acc ↔ ∃ a ∈ acc, ∃ b ∈ prodO xss, o = a ++ b
  | [], acc, o => by
    show o ∈ acc ↔ ∃ a ∈ acc, ∃ b ∈ ([[]] : List (List Str)), o = a ++ b
    constructor
    · intro h; exact ⟨o, h, [], List.mem_singleton.mpr rfl, by simp⟩
    · rintro ⟨a, ha, b, hb, rfl⟩
      rw [List.mem_singleton.mp hb, List.append_nil]; exact ha
  | x :: r, acc, o => by
    have two : ∀ (acc : List (List Str)) (o : List Str), o ∈ (x :: r).foldl (fun (made inner : List (List Str)) => made.flatMap fun o => inner.map fun i => o ++ i) acc ↔ ∃ a ∈ acc, ∃ i ∈ x, ∃ b ∈ prodO r, o = a ++ i ++ b := fun acc o => by
      rw [List.foldl_cons, prod_from r]
      constructor
      · rintro ⟨a, ha, b, hb, rfl⟩
        obtain ⟨c, hc, h⟩ := List.mem_flatMap.mp ha
        obtain ⟨i, hi, rfl⟩ := List.mem_map.mp h
        exact ⟨c, hc, i, hi, b, hb, rfl⟩
      · rintro ⟨a, ha, i, hi, b, hb, rfl⟩
        exact ⟨a ++ i, List.mem_flatMap.mpr ⟨a, ha, List.mem_map.mpr ⟨i, hi, rfl⟩⟩, b, hb, rfl⟩
    rw [two]
    constructor
    · rintro ⟨a, ha, i, hi, b, hb, rfl⟩
      exact ⟨a, ha, i ++ b, (two [[]] (i ++ b)).mpr ⟨[], List.mem_singleton.mpr rfl, i, hi, b, hb, by simp⟩, by simp⟩
    · rintro ⟨a, ha, c, hc, rfl⟩
      obtain ⟨z, hz, i, hi, b, hb, rfl⟩ := (two [[]] c).mp hc
      rw [List.mem_singleton.mp hz]
      exact ⟨a, ha, i, hi, b, hb, by simp⟩
theorem mem_prod_cons {x : List (List Str)} {r : List (List (List Str))} {o : List Str} : o ∈ prodO (x :: r) ↔ ∃ i ∈ x, ∃ b ∈ prodO r, o = i ++ b := by
  show o ∈ r.foldl _ (([[]] : List (List Str)).flatMap fun o => x.map fun i => o ++ i) ↔ _
  rw [prod_from]
  constructor
  · rintro ⟨a, ha, b, hb, rfl⟩
    obtain ⟨c, hc, h⟩ := List.mem_flatMap.mp ha
    obtain ⟨i, hi, rfl⟩ := List.mem_map.mp h
    rw [List.mem_singleton.mp hc]
    exact ⟨i, hi, b, hb, by simp⟩
  · rintro ⟨i, hi, b, hb, rfl⟩
    exact ⟨i, List.mem_flatMap.mpr ⟨[], List.mem_singleton.mpr rfl, List.mem_map.mpr ⟨i, hi, by simp⟩⟩, b, hb, rfl⟩
theorem mem_prod_nil {o : List Str} : o ∈ prodO [] ↔ o = [] := by
  show o ∈ ([[]] : List (List Str)) ↔ _
  exact List.mem_singleton
theorem mem_prod_append {xs ys : List (List (List Str))} {o : List Str} : o ∈ prodO (xs ++ ys) ↔ ∃ a ∈ prodO xs, ∃ b ∈ prodO ys, o = a ++ b := by
  show o ∈ (xs ++ ys).foldl _ [[]] ↔ _
  rw [List.foldl_append, prod_from]
  rfl
/-! the ways -/
theorem mem_waysN {n : Nat} : ∀ {t : Nat} {w : List Nat}, w ∈ waysN n t ↔ w.length = t ∧ w.Nodup ∧ ∀ k ∈ w, k < n
  | 0, w => by
    show w ∈ ([[]] : List (List Nat)) ↔ _
    rw [List.mem_singleton]
    constructor
    · rintro rfl; simp
    · rintro ⟨h, _⟩; exact List.eq_nil_of_length_eq_zero h
  | t + 1, w => by
    unfold waysN
    rw [List.mem_flatMap]
    constructor
    · rintro ⟨v, hv, h⟩
      obtain ⟨k, hk, rfl⟩ := List.mem_map.mp h
      obtain ⟨k1, k2⟩ := List.mem_filter.mp hk
      have k2 := of_decide_eq_true k2
      obtain ⟨a1, a2, a3⟩ := mem_waysN.mp hv
      refine ⟨by simp [a1], List.nodup_append.mpr ⟨a2, by simp, fun a ha b hb e => k2 (by rw [List.mem_singleton] at hb; rw [← hb, ← e]; exact ha)⟩, fun j hj => ?_⟩
      rcases List.mem_append.mp hj with h | h
      · exact a3 j h
      · rw [List.mem_singleton.mp h]; exact List.mem_range.mp k1
    · rintro ⟨h1, h2, h3⟩
      rcases List.eq_nil_or_concat w with rfl | ⟨v, k, rfl⟩
      · simp at h1
      · simp only [List.concat_eq_append] at h1 h2 h3 ⊢
        obtain ⟨n1, _, n3⟩ := List.nodup_append.mp h2
        refine ⟨v, mem_waysN.mpr ⟨by simpa using h1, n1, fun j hj => h3 j (by simp [hj])⟩, List.mem_map.mpr ⟨k, List.mem_filter.mpr ⟨List.mem_range.mpr (h3 k (by simp)), decide_eq_true fun hk => n3 k hk k (by simp) rfl⟩, rfl⟩⟩
theorem perm_range {n : Nat} {w : List Nat} (hl : w.length = n) (nd : w.Nodup) (lt : ∀ k ∈ w, k < n) : w.Perm (List.range n) := by
  have sub : w ⊆ List.range n := fun k hk => List.mem_range.mpr (lt k hk)
  refine (List.perm_ext_iff_of_nodup nd List.nodup_range).mpr fun k => ⟨fun h => sub h, fun h => ?_⟩
  by_cases m : k ∈ w
  · exact m
  · have := List.Nodup.length_le_of_subset (l₁ := k :: w) (l₂ := List.range n) (List.nodup_cons.mpr ⟨m, nd⟩) fun j hj => by
      rcases List.mem_cons.mp hj with rfl | hj
      · exact h
      · exact sub hj
    rw [List.length_cons, List.length_range] at this
    omega
theorem getD_at {α : Type} {xs : List α} {k : Nat} (h : k < xs.length) (d : α) : xs.getD k d = xs[k] := by
  rw [List.getD_eq_getElem?_getD, List.getElem?_eq_getElem h]
  rfl
theorem map_getD {α : Type} (xs : List α) (d : α) : (List.range xs.length).map (fun k => xs.getD k d) = xs := by
  apply List.ext_getElem
  · simp
  · intro i h1 h2
    rw [List.getElem_map, List.getElem_range, getD_at h2]
theorem way_perm {row : Bool} {n : Nat} {w : List Nat} (h : w ∈ ways row n) : w.Perm (List.range n) := by
  cases row with
  | false =>
    obtain ⟨a, b, c⟩ := mem_waysN.mp h
    exact perm_range a b c
  | true =>
    unfold ways at h
    rcases List.mem_cons.mp h with rfl | h
    · exact .refl _
    · rw [List.mem_singleton.mp h, PySem.W.krv_range]
      exact List.reverse_perm _
/-- the parts in the order of a way -/
def partsBy (ps : List Sh) (w : List Nat) : List Sh := w.map fun k => ps.getD k (.leaf "")
theorem partsBy_perm {row : Bool} {ps : List Sh} {w : List Nat} (h : w ∈ ways row ps.length) : (partsBy ps w).Perm ps := by
  have := (way_perm h).map fun k => ps.getD k (.leaf "")
  rwa [map_getD] at this
theorem getD_orders {ps : List Sh} {w : List Nat} (h : ∀ k ∈ w, k < ps.length) : (w.map fun k => (Sh.ordersL ps).getD k []) = (partsBy ps w).map Sh.orders := by
  unfold partsBy
  rw [List.map_map, ordersL_eq]
  refine List.map_congr_left fun k hk => ?_
  have := h k hk
  show (ps.map Sh.orders).getD k [] = (ps.getD k (.leaf "")).orders
  rw [getD_at (show k < (ps.map Sh.orders).length by simpa using this), getD_at this, List.getElem_map]
theorem way_lt {row : Bool} {n : Nat} {w : List Nat} (h : w ∈ ways row n) : ∀ k ∈ w, k < n := fun k hk => List.mem_range.mp ((way_perm h).mem_iff.mp hk)
theorem mem_orders_br {row : Bool} {ps : List Sh} {o : List Str} : o ∈ (Sh.br row ps).orders ↔ ∃ w ∈ ways row ps.length, o ∈ prodO ((partsBy ps w).map Sh.orders) := by
  rw [Sh.orders, List.mem_flatMap]
  constructor
  · rintro ⟨w, hw, h⟩
    rw [getD_orders (way_lt hw)] at h
    exact ⟨w, hw, h⟩
  · rintro ⟨w, hw, h⟩
    refine ⟨w, hw, ?_⟩
    rw [getD_orders (way_lt hw)]
    exact h
/-- every permutation of the parts is a way of a group -/
theorem way_of_perm {α : Type} {d : α} {ps qs : List α} (h : qs.Perm ps) : ∃ w ∈ ways false ps.length, (w.map fun k => ps.getD k d) = qs := by
  induction h with
  | nil => exact ⟨[], List.mem_singleton.mpr rfl, rfl⟩
  | @cons a l1 l2 p ih =>
    obtain ⟨w, hw, e⟩ := ih
    obtain ⟨a1, a2, a3⟩ := mem_waysN.mp hw
    refine ⟨0 :: w.map (· + 1), mem_waysN.mpr ⟨by simp [a1], List.nodup_cons.mpr ⟨by simp, List.Pairwise.map _ (fun x y ne e => ne (Nat.succ.inj e)) a2⟩, fun k hk => ?_⟩, ?_⟩
    · rw [List.length_cons]
      rcases List.mem_cons.mp hk with rfl | hk
      · omega
      · obtain ⟨j, hj, rfl⟩ := List.mem_map.mp hk
        have := a3 j hj
        omega
    · rw [List.map_cons, List.map_map]
      show (a :: l2).getD 0 d :: _ = _
      rw [← e]
      rfl
  | @swap a b l =>
    refine ⟨1 :: 0 :: (List.range l.length).map (· + 2), mem_waysN.mpr ⟨by simp, List.nodup_cons.mpr ⟨by simp, List.nodup_cons.mpr ⟨by simp, List.Pairwise.map _ (fun x y ne e => ne (by omega)) List.nodup_range⟩⟩, fun k hk => ?_⟩, ?_⟩
    · rw [List.length_cons, List.length_cons]
      rcases List.mem_cons.mp hk with rfl | hk
      · omega
      rcases List.mem_cons.mp hk with rfl | hk
      · omega
      · obtain ⟨j, hj, rfl⟩ := List.mem_map.mp hk
        have := List.mem_range.mp hj
        omega
    · rw [List.map_cons, List.map_cons, List.map_map]
      have e : (List.range l.length).map ((fun k => (a :: b :: l).getD k d) ∘ (· + 2)) = l := by
        rw [show ((fun k => (a :: b :: l).getD k d) ∘ (· + 2)) = fun k => l.getD k d from rfl, map_getD]
      rw [e]
      rfl
  | @trans l1 l2 l3 p q ih1 ih2 =>
    obtain ⟨w1, h1, e1⟩ := ih1
    obtain ⟨w2, h2, e2⟩ := ih2
    have l12 := q.length_eq
    obtain ⟨a1, a2, a3⟩ := mem_waysN.mp h1
    have p2 := way_perm h2
    rw [l12] at a1 a3
    have r1 := perm_range a1 a2 a3
    have l2w : w2.length = l3.length := by rw [p2.length_eq, List.length_range]
    have pp : (w1.map fun k => w2.getD k 0).Perm (List.range l3.length) := by
      have := r1.map fun k => w2.getD k 0
      rw [← l2w, map_getD] at this
      rw [← l2w]
      exact this.trans (by rw [l2w]; exact p2)
    refine ⟨w1.map fun k => w2.getD k 0, mem_waysN.mpr ⟨by simp [a1], pp.nodup_iff.mpr List.nodup_range, fun k hk => List.mem_range.mp (pp.mem_iff.mp hk)⟩, ?_⟩
    rw [List.map_map, ← e1, ← e2]
    refine List.map_congr_left fun k hk => ?_
    have := a3 k hk
    show l3.getD (w2.getD k 0) d = (w2.map fun k => l3.getD k d).getD k d
    rw [getD_at (xs := w2) (by omega), getD_at (xs := w2.map _) (by simp; omega), List.getElem_map]
end Dl

/-! what begins an order, part by part -/
namespace Dl
open PySem
theorem Sh.ind {M : Sh → Prop} (hl : ∀ n, M (.leaf n)) (hb : ∀ row ps, (∀ p ∈ ps, M p) → M (.br row ps)) : ∀ s, M s
  | .leaf n => hl n
  | .br row ps => hb row ps (indL hl hb ps)
where indL {M : Sh → Prop} (hl : ∀ n, M (.leaf n)) (hb : ∀ row ps, (∀ p ∈ ps, M p) → M (.br row ps)) : ∀ ps : List Sh, ∀ p ∈ ps, M p
  | [], _, h => absurd h (by simp)
  | q :: r, p, h => by
    rcases List.mem_cons.mp h with e | h
    · rw [e]; exact Sh.ind hl hb q
    · exact indL hl hb r p h
/-- an order of concatenated parts is a permutation of their leaves -/
theorem prod_perm : ∀ {ps : List Sh} {o : List Str}, (∀ p ∈ ps, ∀ o ∈ p.orders, o.Perm p.leaves) → o ∈ prodO (ps.map Sh.orders) → o.Perm (ps.flatMap Sh.leaves)
  | [], o, _, h => by rw [mem_prod_nil.mp h]; exact .refl _
  | p :: r, o, ih, h => by
    obtain ⟨a, ha, b, hb, rfl⟩ := mem_prod_cons.mp h
    rw [List.flatMap_cons]
    exact (ih p (List.mem_cons_self ..) a ha).append (prod_perm (fun q hq => ih q (List.mem_cons_of_mem _ hq)) hb)
theorem flatMap_perm {ps qs : List Sh} (h : ps.Perm qs) : (ps.flatMap Sh.leaves).Perm (qs.flatMap Sh.leaves) := by
  induction h with
  | nil => exact .refl _
  | cons a _ ih => rw [List.flatMap_cons, List.flatMap_cons]; exact ih.append_left _
  | swap a b l =>
    simp only [List.flatMap_cons]
    rw [← List.append_assoc, ← List.append_assoc]
    exact List.perm_append_comm.append_right _
  | trans _ _ h1 h2 => exact h1.trans h2
theorem order_perm (s : Sh) : ∀ o ∈ s.orders, o.Perm s.leaves := by
  induction s using Sh.ind with
  | hl n => intro o h; rw [Sh.orders, List.mem_singleton] at h; rw [h]; exact .refl _
  | hb row ps ih =>
    intro o h
    obtain ⟨w, hw, h⟩ := mem_orders_br.mp h
    rw [leaves_br]
    have pp := partsBy_perm hw
    exact (prod_perm (fun p hp => ih p (pp.mem_iff.mp hp)) h).trans (flatMap_perm pp)
theorem order_len {s : Sh} {o : List Str} (h : o ∈ s.orders) : o.length = s.leaves.length := (order_perm s o h).length_eq
theorem prod_some : ∀ {ps : List Sh}, (∀ p ∈ ps, ∃ o, o ∈ p.orders) → ∃ o, o ∈ prodO (ps.map Sh.orders)
  | [], _ => ⟨[], mem_prod_nil.mpr rfl⟩
  | p :: r, h => by
    obtain ⟨a, ha⟩ := h p (List.mem_cons_self ..)
    obtain ⟨b, hb⟩ := prod_some (ps := r) fun q hq => h q (List.mem_cons_of_mem _ hq)
    exact ⟨a ++ b, mem_prod_cons.mpr ⟨a, ha, b, hb, rfl⟩⟩
theorem order_some (s : Sh) : ∃ o, o ∈ s.orders := by
  induction s using Sh.ind with
  | hl n => exact ⟨[n], by rw [Sh.orders]; exact List.mem_singleton.mpr rfl⟩
  | hb row ps ih =>
    have one : ∃ w, w ∈ ways row ps.length := by
      cases row with
      | true => exact ⟨_, List.mem_cons_self ..⟩
      | false => exact ⟨List.range ps.length, mem_waysN.mpr ⟨List.length_range, List.nodup_range, fun k hk => List.mem_range.mp hk⟩⟩
    obtain ⟨w, hw⟩ := one
    have pp := partsBy_perm hw
    obtain ⟨o, ho⟩ := prod_some (ps := partsBy ps w) fun p hp => ih p (pp.mem_iff.mp hp)
    exact ⟨o, mem_orders_br.mpr ⟨w, hw, ho⟩⟩
/-! the slice of each part -/
theorem take_split {a b pre : List Str} : (a ++ b).take pre.length = pre ↔ a.take (pre.take a.length).length = pre.take a.length ∧ b.take (pre.drop a.length).length = pre.drop a.length := by
  have e1 : (pre.take a.length).length = min a.length pre.length := List.length_take
  have e2 : (pre.drop a.length).length = pre.length - a.length := List.length_drop
  have e3 : a.take (min a.length pre.length) = a.take pre.length := by
    by_cases h : a.length ≤ pre.length
    · rw [Nat.min_eq_left h, List.take_of_length_le (Nat.le_refl _), List.take_of_length_le h]
    · rw [Nat.min_eq_right (by omega)]
  rw [e1, e2, e3, List.take_append]
  constructor
  · intro h
    have h2 : a.take pre.length ++ b.take (pre.length - a.length) = pre.take a.length ++ pre.drop a.length := by rw [List.take_append_drop]; exact h
    exact List.append_inj h2 (by rw [List.length_take, List.length_take, Nat.min_comm])
  · rintro ⟨h1, h2⟩
    rw [h1, h2, List.take_append_drop]
theorem begL_cons (p : Sh) (r : List Sh) (pre : List Str) : beginsL (p :: r) pre = (p.begins (pre.take p.leaves.length) && beginsL r (pre.drop p.leaves.length)) := by
  rw [Bool.eq_iff_iff, Bool.and_eq_true]
  unfold beginsL Sh.begins
  rw [begO_iff, begO_iff, begO_iff, List.map_cons]
  constructor
  · rintro ⟨o, h, e⟩
    obtain ⟨a, ha, b, hb, rfl⟩ := mem_prod_cons.mp h
    obtain ⟨e1, e2⟩ := take_split.mp e
    rw [order_len ha] at e1 e2
    exact ⟨⟨a, ha, e1⟩, ⟨b, hb, e2⟩⟩
  · rintro ⟨⟨a, ha, e1⟩, ⟨b, hb, e2⟩⟩
    refine ⟨a ++ b, mem_prod_cons.mpr ⟨a, ha, b, hb, rfl⟩, take_split.mpr ?_⟩
    rw [order_len ha]
    exact ⟨e1, e2⟩
theorem begL_nil (pre : List Str) : beginsL [] pre = decide (pre = []) := by
  rw [Bool.eq_iff_iff]
  unfold beginsL
  rw [begO_iff, decide_eq_true_iff]
  constructor
  · rintro ⟨o, h, e⟩
    rw [mem_prod_nil.mp h] at e
    simpa using e.symm
  · rintro rfl
    exact ⟨[], mem_prod_nil.mpr rfl, rfl⟩
/-- a leaf -/
theorem begins_leaf (n : Str) (pre : List Str) : (Sh.leaf n).begins pre = decide (pre = [] ∨ pre = [n]) := by
  rw [Bool.eq_iff_iff]
  unfold Sh.begins
  rw [begO_iff, decide_eq_true_iff, Sh.orders]
  constructor
  · rintro ⟨o, h, e⟩
    rw [List.mem_singleton.mp h] at e
    match pre, e with
    | [], _ => exact .inl rfl
    | [x], e => exact .inr (by simpa using e.symm)
    | x :: y :: r, e => simp at e
  · rintro (rfl | rfl)
    · exact ⟨_, List.mem_singleton.mpr rfl, rfl⟩
    · exact ⟨_, List.mem_singleton.mpr rfl, rfl⟩
/-- a row -/
theorem begins_row (ps : List Sh) (pre : List Str) : (Sh.br true ps).begins pre = (beginsL ps pre || beginsL ps.reverse pre) := by
  have e1 : partsBy ps (List.range ps.length) = ps := map_getD ps _
  have e2 : partsBy ps ((List.range ps.length).map fun k => ps.length - 1 - k) = ps.reverse := by
    rw [PySem.W.krv_range]
    unfold partsBy
    rw [List.map_reverse, map_getD]
  rw [Bool.eq_iff_iff, Bool.or_eq_true]
  unfold beginsL Sh.begins
  rw [begO_iff, begO_iff, begO_iff]
  constructor
  · rintro ⟨o, h, e⟩
    obtain ⟨w, hw, h⟩ := mem_orders_br.mp h
    rcases List.mem_cons.mp hw with rfl | hw
    · rw [e1] at h; exact .inl ⟨o, h, e⟩
    · rw [List.mem_singleton.mp hw, e2] at h; exact .inr ⟨o, h, e⟩
  · rintro (⟨o, h, e⟩ | ⟨o, h, e⟩)
    · exact ⟨o, mem_orders_br.mpr ⟨_, List.mem_cons_self .., by rw [e1]; exact h⟩, e⟩
    · exact ⟨o, mem_orders_br.mpr ⟨_, List.mem_cons_of_mem _ (List.mem_singleton.mpr rfl), by rw [e2]; exact h⟩, e⟩
/-! a group: the parts that the prefix names -/
abbrev Parts := List (Nat × Sh)
def nameS (x : Str) (acc : Parts) (q : Nat × Sh) : Parts := if x ∈ q.2.leaves ∧ q.1 ∉ acc.map (·.1) then acc ++ [q] else acc
def nameT (L acc : Parts) (x : Str) : Parts := L.foldl (nameS x) acc
def namedL (L acc : Parts) (pre : List Str) : Parts := pre.foldl (nameT L) acc
structure PartsOk (L : Parts) : Prop where
  ids : (L.map (·.1)).Nodup
  names : (L.flatMap fun q => q.2.leaves).Nodup
  some_ : ∀ q ∈ L, q.2.leaves ≠ []
theorem one_owner : ∀ {L : Parts}, (L.flatMap fun q => q.2.leaves).Nodup → ∀ {q q' : Nat × Sh} {x : Str}, q ∈ L → q' ∈ L → x ∈ q.2.leaves → x ∈ q'.2.leaves → q = q'
  | [], _, q, _, _, h, _, _, _ => absurd h (by simp)
  | p :: r, nd, q, q', x, h, h', hx, hx' => by
    rw [List.flatMap_cons] at nd
    obtain ⟨_, nd2, dis⟩ := List.nodup_append.mp nd
    rcases List.mem_cons.mp h with e | h1 <;> rcases List.mem_cons.mp h' with e' | h1'
    · rw [e, e']
    · exact absurd rfl (dis x (by rw [← e]; exact hx) x (List.mem_flatMap.mpr ⟨q', h1', hx'⟩))
    · exact absurd rfl (dis x (by rw [← e']; exact hx') x (List.mem_flatMap.mpr ⟨q, h1, hx⟩))
    · exact one_owner nd2 h1 h1' hx hx'
/-- a turn over parts of which none has the name, or the one that has it was named -/
theorem foldS_skip (x : Str) : ∀ (L acc : Parts), (∀ q ∈ L, x ∈ q.2.leaves → q.1 ∈ acc.map (·.1)) → L.foldl (nameS x) acc = acc
  | [], _, _ => rfl
  | q :: r, acc, h => by
    rw [List.foldl_cons]
    have e : nameS x acc q = acc := by
      unfold nameS
      rw [if_neg]
      rintro ⟨a, b⟩
      exact b (h q (List.mem_cons_self ..) a)
    rw [e]
    exact foldS_skip x r acc fun p hp => h p (List.mem_cons_of_mem _ hp)
theorem nameT_old {L acc : Parts} (ok : PartsOk L) {q : Nat × Sh} {x : Str} (hq : q ∈ L) (hx : x ∈ q.2.leaves) (old : q.1 ∈ acc.map (·.1)) : nameT L acc x = acc :=
  foldS_skip x L acc fun p hp hpx => by rw [one_owner ok.names hp hq hpx hx]; exact old
theorem nameT_none {L acc : Parts} {x : Str} (h : ∀ q ∈ L, x ∉ q.2.leaves) : nameT L acc x = acc := foldS_skip x L acc fun p hp hpx => absurd hpx (h p hp)
theorem nameT_new {L acc : Parts} (ok : PartsOk L) {q : Nat × Sh} {x : Str} (hq : q ∈ L) (hx : x ∈ q.2.leaves) (new : q.1 ∉ acc.map (·.1)) : nameT L acc x = acc ++ [q] := by
  obtain ⟨l1, l2, e⟩ := List.append_of_mem hq
  have all : ∀ p ∈ L, x ∈ p.2.leaves → p = q := fun p hp hpx => one_owner ok.names hp hq hpx hx
  have once : ∀ p ∈ l1, x ∉ p.2.leaves := fun p hp hpx => by
    have ids := ok.ids
    rw [e, List.map_append, List.map_cons] at ids
    have := (List.nodup_append.mp ids).2.2 p.1 (List.mem_map_of_mem hp) q.1 (List.mem_cons_self ..)
    rw [all p (by rw [e]; exact List.mem_append_left _ hp) hpx] at this
    exact this rfl
  unfold nameT
  rw [e, List.foldl_append, foldS_skip x l1 acc fun p hp hpx => absurd hpx (once p hp), List.foldl_cons]
  have e1 : nameS x acc q = acc ++ [q] := by
    unfold nameS
    rw [if_pos ⟨hx, new⟩]
  rw [e1]
  refine foldS_skip x l2 _ fun p hp hpx => ?_
  rw [all p (by rw [e]; exact List.mem_append_right _ (List.mem_cons_of_mem _ hp)) hpx]
  simp
theorem named_old {L acc : Parts} (ok : PartsOk L) {q : Nat × Sh} (hq : q ∈ L) (old : q.1 ∈ acc.map (·.1)) : ∀ xs : List Str, (∀ x ∈ xs, x ∈ q.2.leaves) → namedL L acc xs = acc
  | [], _ => rfl
  | x :: r, h => by
    show namedL L (nameT L acc x) r = acc
    rw [nameT_old ok hq (h x (List.mem_cons_self ..)) old]
    exact named_old ok hq old r fun y hy => h y (List.mem_cons_of_mem _ hy)
theorem named_new {L acc : Parts} (ok : PartsOk L) {q : Nat × Sh} (hq : q ∈ L) (new : q.1 ∉ acc.map (·.1)) {xs : List Str} (ne : xs ≠ []) (h : ∀ x ∈ xs, x ∈ q.2.leaves) : namedL L acc xs = acc ++ [q] := by
  match xs, ne with
  | x :: r, _ =>
    show namedL L (nameT L acc x) r = _
    rw [nameT_new ok hq (h x (List.mem_cons_self ..)) new]
    exact named_old ok hq (by simp) r fun y hy => h y (List.mem_cons_of_mem _ hy)
theorem named_append (L acc : Parts) (xs ys : List Str) : namedL L acc (xs ++ ys) = namedL L (namedL L acc xs) ys := by
  unfold namedL
  rw [List.foldl_append]
/-- the beginning of an order names its first parts, which begin with it -/
theorem named_pre {L : Parts} (ok : PartsOk L) : ∀ (M acc : Parts) (o : List Str) (m : Nat), (∀ q ∈ M, q ∈ L) → (M.map (·.1)).Nodup → (∀ q ∈ M, q.1 ∉ acc.map (·.1)) → o ∈ prodO ((M.map (·.2)).map Sh.orders) →
    ∃ k, namedL L acc (o.take m) = acc ++ M.take k ∧ beginsL ((M.take k).map (·.2)) (o.take m) = true
  | [], acc, o, m, _, _, _, ho => ⟨0, by rw [mem_prod_nil.mp ho]; simp [namedL], by rw [mem_prod_nil.mp ho]; simp [begL_nil]⟩
  | q :: r, acc, o, m, sub, nd, new, ho => by
    obtain ⟨a, ha, b, hb, rfl⟩ := mem_prod_cons.mp ho
    by_cases m0 : m = 0
    · subst m0
      exact ⟨0, by simp [namedL], by simp [begL_nil]⟩
    · have hq := sub q (List.mem_cons_self ..)
      have al := order_len ha
      have an : a ≠ [] := fun e => ok.some_ q hq (List.eq_nil_of_length_eq_zero (by rw [← al, e]; rfl))
      have nd := List.nodup_cons.mp nd
      have hn := new q (List.mem_cons_self ..)
      have first : namedL L acc (a.take m) = acc ++ [q] := by
        refine named_new ok hq hn ?_ fun x hx => (order_perm q.2 a ha).mem_iff.mp (List.mem_of_mem_take hx)
        intro e
        have := congrArg List.length e
        rw [List.length_take] at this
        have l1 := List.length_pos_iff.mpr an
        simp only [List.length_nil] at this
        omega
      obtain ⟨k, e1, e2⟩ := named_pre ok r (acc ++ [q]) b (m - a.length) (fun p hp => sub p (List.mem_cons_of_mem _ hp)) nd.2 (fun p hp h => by
        rw [List.map_append] at h
        rcases List.mem_append.mp h with h | h
        · exact new p (List.mem_cons_of_mem _ hp) h
        · have : p.1 = q.1 := by simpa using h
          exact nd.1 (by show q.1 ∈ _; rw [← this]; exact List.mem_map_of_mem hp)) hb
      refine ⟨k + 1, ?_, ?_⟩
      · rw [List.take_append, named_append, first, e1, List.append_assoc]
        rfl
      · rw [List.take_succ_cons, List.map_cons, begL_cons, Bool.and_eq_true]
        have t1 : ((a ++ b).take m).take q.2.leaves.length = a.take m := by
          rw [← al, List.take_append, List.take_append]
          rw [List.take_take]
          by_cases h : m ≤ a.length
          · rw [Nat.min_eq_right h, show m - a.length = 0 by omega]
            simp
          · rw [Nat.min_eq_left (by omega), List.take_of_length_le (Nat.le_refl _), List.take_of_length_le (show a.length ≤ m by omega)]
            simp
        have t2 : ((a ++ b).take m).drop q.2.leaves.length = b.take (m - a.length) := by
          rw [← al, List.drop_take, List.drop_left]
        rw [t1, t2]
        refine ⟨begO_iff.mpr ⟨a, ha, ?_⟩, e2⟩
        rw [List.length_take]
        by_cases h : m ≤ a.length
        · rw [Nat.min_eq_left h]
        · rw [Nat.min_eq_right (by omega), List.take_of_length_le (Nat.le_refl _), List.take_of_length_le (by omega)]
theorem nameS_sub (x : Str) {L acc : Parts} (h : ∀ q ∈ acc, q ∈ L) {p : Nat × Sh} (hp : p ∈ L) : ∀ q ∈ nameS x acc p, q ∈ L := by
  unfold nameS
  split
  · intro q hq
    rcases List.mem_append.mp hq with h1 | h1
    · exact h q h1
    · rw [List.mem_singleton.mp h1]; exact hp
  · exact h
theorem nameS_nd (x : Str) {acc : Parts} (h : (acc.map (·.1)).Nodup) (p : Nat × Sh) : ((nameS x acc p).map (·.1)).Nodup := by
  unfold nameS
  split
  · rename_i c
    rw [List.map_append]
    exact List.nodup_append.mpr ⟨h, by simp, fun a ha b hb e => c.2 (by
      have hb : b = p.1 := by simpa using hb
      rw [← hb, ← e]
      exact ha)⟩
  · exact h
theorem foldS_ok (x : Str) (L : Parts) : ∀ (L' acc : Parts), (∀ p ∈ L', p ∈ L) → (∀ q ∈ acc, q ∈ L) → (acc.map (·.1)).Nodup → (∀ q ∈ L'.foldl (nameS x) acc, q ∈ L) ∧ ((L'.foldl (nameS x) acc).map (·.1)).Nodup
  | [], _, _, h, nd => ⟨h, nd⟩
  | p :: r, acc, sub, h, nd => foldS_ok x L r (nameS x acc p) (fun q hq => sub q (List.mem_cons_of_mem _ hq)) (nameS_sub x h (sub p (List.mem_cons_self ..))) (nameS_nd x nd p)
theorem named_ok (L : Parts) : ∀ (xs : List Str) (acc : Parts), (∀ q ∈ acc, q ∈ L) → (acc.map (·.1)).Nodup → (∀ q ∈ namedL L acc xs, q ∈ L) ∧ ((namedL L acc xs).map (·.1)).Nodup
  | [], _, h, nd => ⟨h, nd⟩
  | x :: r, acc, h, nd => by
    obtain ⟨a, b⟩ := foldS_ok x L L acc (fun _ q => q) h nd
    exact named_ok L r (nameT L acc x) a b
/-- the rest behind some of the parts -/
theorem rest_perm {L M : Parts} (sub : ∀ q ∈ M, q ∈ L) (nd : (M.map (·.1)).Nodup) (ndL : (L.map (·.1)).Nodup) : ∃ R, (M ++ R).Perm L := by
  have nM : M.Nodup := List.Pairwise.of_map (·.1) (fun a b h e => h (by rw [e])) nd
  have nL : L.Nodup := List.Pairwise.of_map (·.1) (fun a b h e => h (by rw [e])) ndL
  have dM : ∀ q : Nat × Sh, Decidable (q ∈ M) := fun q => Classical.propDecidable _
  refine ⟨L.filter fun q => decide (q ∉ M), (List.perm_ext_iff_of_nodup ?_ nL).mpr fun q => ?_⟩
  · exact List.nodup_append.mpr ⟨nM, nL.sublist (List.filter_sublist), fun a ha b hb e => of_decide_eq_true (List.mem_filter.mp hb).2 (by rw [← e]; exact ha)⟩
  · rw [List.mem_append, List.mem_filter]
    constructor
    · rintro (h | ⟨h, _⟩)
      · exact sub q h
      · exact h
    · intro h
      by_cases m : q ∈ M
      · exact .inl m
      · exact .inr ⟨h, decide_eq_true m⟩
theorem begins_group {L : Parts} (ok : PartsOk L) (pre : List Str) : (Sh.br false (L.map (·.2))).begins pre = beginsL ((namedL L [] pre).map (·.2)) pre := by
  rw [Bool.eq_iff_iff]
  constructor
  · intro h
    obtain ⟨o, ho, e⟩ := begO_iff.mp h
    obtain ⟨w, hw, ho⟩ := mem_orders_br.mp ho
    rw [List.length_map] at hw
    have e1 : partsBy (L.map (·.2)) w = (w.map fun k => L.getD k (0, .leaf "")).map (·.2) := by
      unfold partsBy
      rw [List.map_map]
      refine List.map_congr_left fun k hk => ?_
      have := way_lt hw k hk
      show (L.map (·.2)).getD k _ = (L.getD k (0, .leaf "")).2
      rw [getD_at (show k < (L.map (·.2)).length by simpa using this), getD_at this, List.getElem_map]
    have pp : (w.map fun k => L.getD k (0, .leaf "")).Perm L := by
      have := (way_perm hw).map fun k => L.getD k (0, .leaf "")
      rwa [map_getD] at this
    rw [e1] at ho
    obtain ⟨k, a, b⟩ := named_pre ok _ [] o pre.length (fun q hq => pp.mem_iff.mp hq) ((pp.map (·.1)).nodup_iff.mpr ok.ids) (fun q hq => by simp) ho
    rw [e, List.nil_append] at a
    rw [e] at b
    rw [a]
    exact b
  · intro h
    obtain ⟨o, ho, e⟩ := begO_iff.mp h
    obtain ⟨sub, nd⟩ := named_ok L pre [] (by simp) (by simp)
    obtain ⟨R, pp⟩ := rest_perm sub nd ok.ids
    obtain ⟨o2, h2⟩ := prod_some (ps := R.map (·.2)) fun p _ => order_some p
    have p2 : ((namedL L [] pre).map (·.2) ++ R.map (·.2)).Perm (L.map (·.2)) := by rw [← List.map_append]; exact pp.map _
    obtain ⟨w, hw, ew⟩ := way_of_perm (d := Sh.leaf "") p2
    refine begO_iff.mpr ⟨o ++ o2, mem_orders_br.mpr ⟨w, hw, ?_⟩, ?_⟩
    · unfold partsBy
      rw [ew, List.map_append]
      exact mem_prod_append.mpr ⟨o, ho, o2, h2, rfl⟩
    · have l1 : pre.length ≤ o.length := by
        have := congrArg List.length e
        rw [List.length_take] at this
        omega
      rw [List.take_append_of_le_length l1]
      exact e
end Dl

/-! how many orders a shape has -/
namespace Dl
open PySem
def fct : Nat → Nat
  | 0 => 1
  | n + 1 => (n + 1) * fct n
def prodN : List Nat → Nat
  | [] => 1
  | n :: r => n * prodN r
mutual
def Sh.many : Sh → Nat
  | .leaf _ => 1
  | .br row ps => Sh.manyL ps * (if row then 2 else fct ps.length)
def Sh.manyL : List Sh → Nat
  | [] => 1
  | p :: r => p.many * Sh.manyL r
end
theorem manyL_eq : ∀ ps : List Sh, Sh.manyL ps = prodN (ps.map Sh.many)
  | [] => rfl
  | p :: r => by rw [Sh.manyL, manyL_eq r]; rfl
theorem fct_pos : ∀ n, 1 ≤ fct n
  | 0 => Nat.le_refl _
  | n + 1 => Nat.mul_pos (Nat.succ_pos _) (fct_pos n)
theorem fct_mono {a b : Nat} (h : a ≤ b) : fct a ≤ fct b := by
  induction h with
  | refl => exact Nat.le_refl _
  | @step m _ ih => exact Nat.le_trans ih (Nat.le_mul_of_pos_left _ (Nat.succ_pos _))
theorem prodN_append : ∀ a b : List Nat, prodN (a ++ b) = prodN a * prodN b
  | [], b => by simp [prodN]
  | x :: r, b => by
    show x * prodN (r ++ b) = x * prodN r * prodN b
    rw [prodN_append r b, Nat.mul_assoc]
theorem prodN_perm {a b : List Nat} (h : a.Perm b) : prodN a = prodN b := by
  induction h with
  | nil => rfl
  | cons x _ ih => exact congrArg (x * ·) ih
  | swap x y l =>
    show y * (x * prodN l) = x * (y * prodN l)
    rw [← Nat.mul_assoc, ← Nat.mul_assoc, Nat.mul_comm y x]
  | trans _ _ h1 h2 => exact h1.trans h2
theorem prodN_pos : ∀ {a : List Nat}, (∀ x ∈ a, 1 ≤ x) → 1 ≤ prodN a
  | [], _ => Nat.le_refl _
  | x :: r, h => Nat.mul_pos (h x (List.mem_cons_self ..)) (prodN_pos fun y hy => h y (List.mem_cons_of_mem _ hy))
theorem prodN_take {a : List Nat} (h : ∀ x ∈ a, 1 ≤ x) (j : Nat) : prodN (a.take j) ≤ prodN a := by
  have e := prodN_append (a.take j) (a.drop j)
  rw [List.take_append_drop] at e
  rw [e]
  exact Nat.le_mul_of_pos_right _ (prodN_pos fun x hx => h x (List.mem_of_mem_drop hx))
theorem flatMap_len {α β : Type} {f : α → List β} {n : Nat} : ∀ {l : List α}, (∀ x ∈ l, (f x).length = n) → (l.flatMap f).length = l.length * n
  | [], _ => by simp
  | x :: r, h => by
    rw [List.flatMap_cons, List.length_append, h x (List.mem_cons_self ..), flatMap_len fun y hy => h y (List.mem_cons_of_mem _ hy), List.length_cons, Nat.add_mul, Nat.one_mul, Nat.add_comm]
theorem prod_len_from : ∀ (xss : List (List (List Str))) (acc : List (List Str)), (xss.foldl (fun (made inner : List (List Str)) => made.flatMap fun o => inner.map fun i => o ++ i) acc).length = acc.length * prodN (xss.map List.length)
  | [], acc => by simp [prodN]
  | x :: r, acc => by
    rw [List.foldl_cons, prod_len_from r, flatMap_len (n := x.length) fun o _ => List.length_map .., List.map_cons]
    show _ = acc.length * (x.length * _)
    rw [Nat.mul_assoc]
theorem prod_len (xss : List (List (List Str))) : (prodO xss).length = prodN (xss.map List.length) := by
  unfold prodO
  rw [prod_len_from]
  simp
theorem ways_len {row : Bool} {n : Nat} (h2 : 2 ≤ n) (h4 : n ≤ 4) : (ways row n).length = if row then 2 else fct n := by
  have : n = 2 ∨ n = 3 ∨ n = 4 := by omega
  cases row <;> rcases this with rfl | rfl | rfl <;> decide +kernel
theorem by_len {row : Bool} {ps : List Sh} {w : List Nat} (hw : w ∈ ways row ps.length) (ih : ∀ p ∈ ps, p.orders.length = p.many) : prodN (((partsBy ps w).map Sh.orders).map List.length) = Sh.manyL ps := by
  rw [manyL_eq, List.map_map]
  have pp := partsBy_perm hw
  rw [← prodN_perm (pp.map Sh.many)]
  refine congrArg prodN (List.map_congr_left fun p hp => ih p (pp.mem_iff.mp hp))
theorem orders_len {s : Sh} (ok : s.Ok) : s.orders.length = s.many := by
  induction s using Sh.ind with
  | hl n => rfl
  | hb row ps ih =>
    cases ok with
    | br _ _ h2 h4 _ hp =>
      have ih := fun p hm => ih p hm (hp p hm)
      rw [Sh.orders, flatMap_len (n := Sh.manyL ps) fun w hw => by rw [getD_orders (way_lt hw), prod_len, by_len hw ih], ways_len h2 h4, Sh.many, Nat.mul_comm]
theorem many_pos {s : Sh} (ok : s.Ok) : 1 ≤ s.many := by
  rw [← orders_len ok]
  obtain ⟨o, ho⟩ := order_some s
  exact List.length_pos_of_mem ho
theorem leaves_pos {s : Sh} (ok : s.Ok) : 1 ≤ s.leaves.length := by
  induction s using Sh.ind with
  | hl n => exact Nat.le_refl _
  | hb row ps ih =>
    cases ok with
    | br _ _ h2 h4 _ hp =>
      rw [leaves_br]
      match ps, h2 with
      | p :: r, _ =>
        have := ih p (List.mem_cons_self ..) (hp p (List.mem_cons_self ..))
        rw [List.flatMap_cons, List.length_append]
        omega
theorem fct_mul (s : Nat) : ∀ a, 1 ≤ a → (s + 1) * (fct s * fct a) ≤ fct (s + a)
  | 1, _ => by
    show (s + 1) * (fct s * (1 * 1)) ≤ (s + 1) * fct s
    simp
  | a + 2, _ => by
    have ih := fct_mul s (a + 1) (by omega)
    show (s + 1) * (fct s * ((a + 1 + 1) * fct (a + 1))) ≤ (s + (a + 1) + 1) * fct (s + (a + 1))
    have e : (s + 1) * (fct s * ((a + 1 + 1) * fct (a + 1))) = (a + 1 + 1) * ((s + 1) * (fct s * fct (a + 1))) := by
      rw [Nat.mul_left_comm (fct s), Nat.mul_left_comm (s + 1)]
    rw [e]
    exact Nat.mul_le_mul (by omega) ih
theorem many_parts : ∀ (ps : List Sh), (∀ p ∈ ps, p.many ≤ fct p.leaves.length ∧ 1 ≤ p.leaves.length) → ps.length ≤ (ps.flatMap Sh.leaves).length ∧ fct ps.length * Sh.manyL ps ≤ fct (ps.flatMap Sh.leaves).length
  | [], _ => ⟨Nat.zero_le _, Nat.le_refl _⟩
  | p :: r, h => by
    obtain ⟨h1, h2⟩ := h p (List.mem_cons_self ..)
    obtain ⟨i1, i2⟩ := many_parts r fun q hq => h q (List.mem_cons_of_mem _ hq)
    rw [List.flatMap_cons, List.length_append, List.length_cons]
    refine ⟨by omega, ?_⟩
    have f := fct_mul (r.flatMap Sh.leaves).length p.leaves.length h2
    rw [Nat.add_comm p.leaves.length]
    refine Nat.le_trans ?_ f
    show (r.length + 1) * fct r.length * (p.many * Sh.manyL r) ≤ _
    have e : (r.length + 1) * fct r.length * (p.many * Sh.manyL r) = (r.length + 1) * ((fct r.length * Sh.manyL r) * p.many) := by
      rw [Nat.mul_assoc, Nat.mul_comm p.many, Nat.mul_assoc]
    rw [e]
    exact Nat.mul_le_mul (by omega) (Nat.mul_le_mul i2 h1)
theorem many_le {s : Sh} (ok : s.Ok) : s.many ≤ fct s.leaves.length := by
  induction s using Sh.ind with
  | hl n => exact Nat.le_refl _
  | hb row ps ih =>
    cases ok with
    | br _ _ h2 h4 h3 hp =>
      rw [leaves_br, Sh.many]
      refine Nat.le_trans ?_ (many_parts ps fun p hm => ⟨ih p hm (hp p hm), leaves_pos (hp p hm)⟩).2
      rw [Nat.mul_comm]
      refine Nat.mul_le_mul ?_ (Nat.le_refl _)
      cases row with
      | false => exact Nat.le_refl _
      | true => exact fct_mono (a := 2) h2
theorem many_720 {s : Sh} (ok : s.Ok) (h : s.leaves.length ≤ 6) : s.many ≤ 720 := Nat.le_trans (many_le ok) (fct_mono (b := 6) h)
end Dl

/-! nodes in the heap; their leaves -/
namespace Dl
open PySem PySem.Spec PyProof.Rows L2
structure NCls where
  L : Addr
  G : Addr
  R : Addr
def NCls.of (c : NCls) (row : Bool) : Addr := if row then c.R else c.G
def NCls.D (c : NCls) (C : Addr) : Prop := C = c.L ∨ C = c.G ∨ C = c.R
theorem NCls.of_D (c : NCls) (row : Bool) : c.D (c.of row) := by
  cases row
  · exact .inr (.inl rfl)
  · exact .inr (.inr rfl)
inductive NodeAt (c : NCls) (H : Hp) : Addr → Sh → Prop where
  | leaf (p dx : Addr) (n : Str) : H p = some (.ins c.L dx [("name", .str n)]) → NodeAt c H p (.leaf n)
  | br (row : Bool) (p dx t : Addr) (L : Parts) : H p = some (.ins (c.of row) dx [("parts", .ref t)]) → H t = some (.tup (L.map fun q => V.ref q.1)) → (L.map (·.1)).Nodup → (∀ q ∈ L, NodeAt c H q.1 q.2) → NodeAt c H p (.br row (L.map (·.2)))
theorem NodeAt.of {c : NCls} {H H' : Hp} {p : Addr} {s : Sh} (h : NodeAt c H p s) (k : Same H H') : NodeAt c H' p s := by
  induction h with
  | leaf p dx n h => exact .leaf p dx n (k _ _ h)
  | br row p dx t L h1 h2 nd _ ih => exact .br row p dx t L (k _ _ h1) (k _ _ h2) nd ih
theorem lookN {f m : Str} {v : V} (e : (m == f) = false) : List.lookup m [(f, v)] = none := by rw [List.lookup_cons, e]; rfl
theorem lookS (f : Str) (v : V) : List.lookup f [(f, v)] = some v := by rw [List.lookup_cons, beq_self_eq_true]
theorem NodeAt.ins {c : NCls} {H : Hp} {p : Addr} {s : Sh} (h : NodeAt c H p s) : ∃ C dx f v, H p = some (.ins C dx [(f, v)]) ∧ c.D C ∧ (f = "name" ∨ f = "parts") := by
  cases h with
  | leaf p dx n h => exact ⟨_, _, _, _, h, .inl rfl, .inl rfl⟩
  | br row p dx t L h1 _ _ _ => exact ⟨_, _, _, _, h1, c.of_D row, .inr rfl⟩
/-- what the classes have -/
structure NFacts (K : PySem.W.Frag) (c : NCls) : Prop where
  cl : ∀ C, c.D C → Cls K C
  name : NoAttr K c.L "name"
  parts : ∀ row, NoAttr K (c.of row) "parts"
  eq : PlainEq K c.D
  lg : c.L ≠ c.G
  lr : c.L ≠ c.R
  gr : c.G ≠ c.R
theorem NFacts.lof {K : PySem.W.Frag} {c : NCls} (F : NFacts K c) (row : Bool) : c.of row ≠ c.L := by
  cases row
  · exact F.lg.symm
  · exact F.lr.symm
theorem NFacts.inj {K : PySem.W.Frag} {c : NCls} (F : NFacts K c) {a b : Bool} (h : c.of a = c.of b) : a = b := by
  cases a <;> cases b
  · rfl
  · exact absurd h F.gr
  · exact absurd h F.gr.symm
  · rfl
theorem nd_at {L : Parts} {i : Nat} {v : V} (h : (L.map fun q => V.ref q.1)[i]? = some v) : ∃ q, L[i]? = some q ∧ q ∈ L ∧ v = .ref q.1 := by
  rw [List.getElem?_map] at h
  cases e : L[i]? with
  | none => rw [e] at h; cases h
  | some q => rw [e] at h; exact ⟨q, rfl, List.mem_of_getElem? e, (Option.some.inj h).symm⟩
theorem st_at {L : List Str} {i : Nat} {v : V} (h : (L.map V.str)[i]? = some v) : ∃ q, L[i]? = some q ∧ q ∈ L ∧ v = .str q := by
  rw [List.getElem?_map] at h
  cases e : L[i]? with
  | none => rw [e] at h; cases h
  | some q => rw [e] at h; exact ⟨q, rfl, List.mem_of_getElem? e, (Option.some.inj h).symm⟩
theorem take_one {α : Type} {l : List α} {i : Nat} {x : α} (h : l[i]? = some x) : l.take (i + 1) = l.take i ++ [x] := by rw [List.take_succ, h]; rfl
/-- the walk of a clause -/
theorem in_it {J : It} {n : Nat} {G : Hp → Prop} {Y : Nat → Hp → V → Hp → Prop} (w : Walk J n G Y) {g : TG} {tt : TT} {vs : List Nat} {σ0 : L2.St} {H1 : Hp} {Qd : Hp → Prop} {tb : L2.St → Hp → (Hp → Prop) → Prop} (Pv : Nat → Hp → Prop) (h0 : Pv 0 H1) (hG : ∀ i H, i ≤ n → Pv i H → G H)
    (hs : ∀ i x H H', i < n → Pv i H → Y i H x H' → g x σ0 H' fun σ2 H2 => wipe σ2 vs = σ0 ∧ tt σ2 H2 fun b H3 => if b = true then tb σ2 H3 (Pv (i + 1)) else Pv (i + 1) H3) (hd : ∀ H, Pv n H → Qd H) :
    ∃ W : Nat → Nat → Hp → Prop, (∃ m, W 0 m H1) ∧ ∀ i m H, W i m H →
      (J.stop i H ∧ Qd H) ∨ (J.go i H ∧ ∃ Nx : Hp → Prop, (∀ H', Nx H' → ∃ m', m' < m ∧ W (i + 1) m' H') ∧ ∀ x H', J.yld i H x H' → g x σ0 H' fun σ2 H2 => wipe σ2 vs = σ0 ∧ tt σ2 H2 fun b H3 => if b = true then tb σ2 H3 Nx else Nx H3) := by
  refine ⟨fun i m H => m + i = n ∧ Pv i H, ⟨n, Nat.add_zero n, h0⟩, ?_⟩
  rintro i m H ⟨e, p⟩
  have here := hG i H (by omega) p
  rcases Nat.lt_or_ge i n with lt | ge
  · exact .inr ⟨w.goes i H lt here, Pv (i + 1), fun H' p' => ⟨m - 1, by omega, by omega, p'⟩, fun x H' y => hs i x H H' lt p (w.yields i H x H' lt here y)⟩
  · have e2 : i = n := by omega
    subst e2
    exact .inl ⟨w.stops H here, hd H p⟩
def PartsAt (c : NCls) (H : Hp) (d : Nat) (L : Parts) : Prop := ∀ q ∈ L, NodeAt c H q.1 q.2 ∧ q.2.depth ≤ d
theorem PartsAt.of {c : NCls} {H H' : Hp} {d : Nat} {L : Parts} (h : PartsAt c H d L) (s : Same H H') : PartsAt c H' d L := fun q hq => ⟨(h q hq).1.of s, (h q hq).2⟩
def lvs (L : Parts) : List Str := L.flatMap fun q => q.2.leaves
theorem lvs_map (L : Parts) : (L.map (·.2)).flatMap Sh.leaves = lvs L := by
  unfold lvs
  rw [List.flatMap_map]
theorem lvs_part {L : Parts} {q : Nat × Sh} (h : q ∈ L) : q.2.leaves.length ≤ (lvs L).length := by
  obtain ⟨a, b, rfl⟩ := List.append_of_mem h
  unfold lvs
  rw [List.flatMap_append, List.flatMap_cons, List.length_append, List.length_append]
  omega
theorem lvs_take (L : Parts) (i : Nat) : (lvs (L.take i)).length ≤ (lvs L).length := by
  have e : lvs L = lvs (L.take i) ++ lvs (L.drop i) := by
    unfold lvs
    rw [← List.flatMap_append, List.take_append_drop]
  rw [e, List.length_append]
  omega
def spLeaves (c : NCls) (d : Nat) (C : Addr) : Sp := fun vs H Q _ => ∃ p s dx fs, vs = [.ref p] ∧ H p = some (.ins C dx fs) ∧ NodeAt c H p s ∧ s.depth ≤ d ∧ s.leaves.length ≤ 720 ∧ ∀ H' t, Same H H' → H' t = some (.tup (s.leaves.map V.str)) → Q (.ref t) H'
def spLeavesOf (K : PySem.W.Frag) (c : NCls) (d : Nat) : Sp := fun vs H Q _ => ∃ t L, vs = [.ref t] ∧ SqT K H t (L.map fun q => V.ref q.1) ∧ PartsAt c H d L ∧ (lvs L).length ≤ 720 ∧ ∀ H' t, Same H H' → H' t = some (.tup ((lvs L).map V.str)) → Q (.ref t) H'
structure TxtNd (mg : Str → Option Value) : Prop where
  tuple : mg "tuple" = none
  list : mg "list" = none
  len : mg "len" = none
section
variable {P : Program} {w : World} {K : PySem.W.Frag} {mg : Str → Option Value} {base : Heap} {c : NCls}
theorem scLeafLeaves : FnScope ["self"] ["self"] (defScope sLeafLeaves) := ⟨rfl, rfl, rfl, by decide +kernel, rfl, by decide +kernel, by decide +kernel⟩
theorem ok_leafleaves {f : Addr} {fd : FuncData} (F : Fun K "leaves" "Leaf.leaves" sLeafLeaves f fd) (N : NFacts K c) (d : Nat) : FnOk P w K mg base CX0 1 f fd ["self"] (spLeaves c d c.L) := by
  refine F.ok scLeafLeaves (fun vs H Q E h => ?_) (fun cdv A outer s H vs Q E hr h => ?_)
  · obtain ⟨p, s, dx, fs, rfl, _⟩ := h
    rfl
  · obtain ⟨p, s, dx, fs, rfl, hp, nd, _, _, k⟩ := h
    refine ⟨_, pss_one (ps_ret (pe_tup (pa_cons (pe_fld (pv 0) rfl) pa_nil))), ?_⟩
    cases nd with
    | br row _ dx' t L h1 _ _ _ =>
      rw [h1] at hp
      injection (Option.some.inj hp) with e
      exact absurd e (N.lof row)
    | leaf _ dx' n h1 =>
      exact ⟨_, rfl, p, c.L, dx', _, _, rfl, h1, N.cl _ (.inl rfl), N.name, lookS _ _, by show 1 ≤ sizeLine; decide, fun t ht => k _ t (Same.upd_new ht) upd_same⟩
theorem scLeavesOf : FnScope ["parts", "part", "name"] ["parts"] (defScope sLeavesOf) := ⟨rfl, rfl, rfl, by decide +kernel, rfl, by decide +kernel, by decide +kernel⟩
theorem ok_leavesof {f : Addr} {fd : FuncData} {d k : Nat} (F : Fun K "_leaves_of" "_leaves_of" sLeavesOf f fd) (T : TxtNd mg) (hD : ∀ C, c.D C → HasM P w K mg base CX0 k "leaves" ["self"] (spLeaves c d) C) : FnOk P w K mg base CX0 (k + 1) f fd ["parts"] (spLeavesOf K c d) := by
  refine F.ok scLeavesOf (fun vs H Q E h => ?_) (fun cdv A outer s H vs Q E hr h => ?_)
  · obtain ⟨t, L, rfl, _⟩ := h
    rfl
  · obtain ⟨t, L, rfl, ht, pa, few, k⟩ := h
    refine ⟨_, pss_one (ps_ret (pe_callTy call_tuple_of (by rfl) T.tuple (by decide +kernel) (pa_cons
      (pe_lc2 (own := [("part", 1), ("name", 2)]) (vs1 := [2]) (g := gName 1) (g1 := gName 2) (tt := tYes) (tt1 := tYes) (wi1 := iTup K (tMethD c.D "leaves" (spLeaves c d) E0 (tVar 1) tNil)) (te := tVar 2) rfl scLeavesOf.nd (pi_tup (pv 0))
        (blkOk_by (N := ["parts", "part", "name"]) (sc := defScope sLeavesOf) (by decide +kernel)) (by decide) (fun _ _ _ _ _ => pg_name (i := 1) scLeavesOf.nd rfl (Or.inl rfl)) (fun _ _ _ _ _ => pts_nil)
        (fun _ _ _ _ _ => by exact pi_tup (pe_methD0 (pv 1) hD hr pass0)) (fun _ _ _ _ _ => pg_name (i := 2) scLeavesOf.nd rfl (Or.inl rfl)) (fun _ _ _ _ _ => pts_nil) (fun _ _ _ _ _ => pv 2)) pa_nil))), ?_⟩
    refine ⟨_, rfl, t, rfl, ⟨_, ht⟩, fun D hD0 => in_it (walk_tup (K := K) (a := t) (xs := L.map fun q => V.ref q.1)) (fun i H' => Same H H' ∧ H' D = some (.lst ((lvs (L.take i)).map V.str))) ⟨Same.upd_new hD0, upd_same⟩ (fun i H' _ ⟨s, _⟩ => Same.tup s ht) ?_ ?_⟩
    · rintro i v H1 H2 hi ⟨s1, hl⟩ ⟨rfl, hv⟩
      obtain ⟨q, hq, hqm, rfl⟩ := nd_at hv
      obtain ⟨C, dx, fn, fv, hi1, dC, fe⟩ := ((pa q hqm).1.of s1).ins
      have l1 := lvs_take L (i + 1)
      have e1 : lvs (L.take (i + 1)) = lvs (L.take i) ++ q.2.leaves := by
        rw [take_one hq]
        unfold lvs
        rw [List.flatMap_append, List.flatMap_cons, List.flatMap_nil, List.append_nil]
      refine ⟨rfl, _, rfl, q.1, C, dx, _, rfl, hi1, dC, lookN (by rcases fe with rfl | rfl <;> decide +kernel), q.1, q.2, dx, _, rfl, hi1, (pa q hqm).1.of s1, (pa q hqm).2, Nat.le_trans (lvs_part hqm) few, fun H3 u s3 hu => ?_⟩
      refine ⟨u, rfl, ⟨_, SqT.of hu⟩, in_it (walk_tup (K := K) (a := u) (xs := q.2.leaves.map V.str)) (fun j H' => Same H H' ∧ H' u = some (.tup (q.2.leaves.map V.str)) ∧ H' D = some (.lst ((lvs (L.take i) ++ q.2.leaves.take j).map V.str))) ⟨s1.trans s3, hu, by rw [List.take_zero, List.append_nil]; exact s3 _ _ hl⟩ (fun j H' _ ⟨_, h, _⟩ => SqT.of h) ?_ ?_⟩
      · rintro j v H4 H5 hj ⟨s4, hu4, hl4⟩ ⟨rfl, hv⟩
        obtain ⟨n, hn, hnm, rfl⟩ := st_at hv
        refine ⟨rfl, _, rfl, _, hl4, ?_, fun b o e => ?_, ?_, ?_⟩
        · rw [List.length_map, List.length_append, List.length_take]
          rw [e1, List.length_append] at l1
          exact small1000 (by omega)
        · rw [upd_ne (ne_of_none e hD0)]
          exact s4 _ _ e
        · rw [upd_ne (by intro e; rw [e, hl4] at hu4; cases hu4)]
          exact hu4
        · rw [upd_same, take_one hn, List.map_append, List.map_append, List.map_append, List.append_assoc]
          rfl
      · rintro H4 ⟨s4, _, hl4⟩
        rw [List.length_map, List.take_length, ← e1] at hl4
        exact ⟨s4, hl4⟩
    · rintro H1 ⟨s1, hl⟩
      rw [List.length_map, List.take_length] at hl
      refine ⟨D, _, rfl, .inl ⟨SqL.of hl, fun t ht => k _ t (s1.trans (Same.upd_new ht)) upd_same⟩⟩
theorem scGroupLeaves : FnScope ["self"] ["self"] (defScope sGroupLeaves) := ⟨rfl, rfl, rfl, by decide +kernel, rfl, by decide +kernel, by decide +kernel⟩
theorem scRowLeaves : FnScope ["self"] ["self"] (defScope sRowLeaves) := ⟨rfl, rfl, rfl, by decide +kernel, rfl, by decide +kernel, by decide +kernel⟩
theorem ok_groupleaves {f : Addr} {fd : FuncData} {d k : Nat} (F : Fun K "leaves" "Group.leaves" sGroupLeaves f fd) (N : NFacts K c) (g : Dfn P w K mg base CX0 k "_leaves_of" ["parts"] (spLeavesOf K c d)) : FnOk P w K mg base CX0 (k + 1) f fd ["self"] (spLeaves c (d + 1) c.G) := by
  obtain ⟨fO, dO, mO, kO, bO, GO⟩ := g
  refine F.ok scGroupLeaves (fun vs H Q E h => ?_) (fun cdv A outer s H vs Q E hr h => ?_)
  · obtain ⟨p, s, dx, fs, rfl, _⟩ := h
    rfl
  · obtain ⟨p, s, dx, fs, rfl, hp, nd, hd, few, k⟩ := h
    refine ⟨_, pss_one (ps_ret (pe_call GO hr (by rfl) mO kO bO .nil pass0 (pa_cons (pe_fld (pv 0) rfl) pa_nil))), ?_⟩
    cases nd with
    | leaf _ dx' n h1 =>
      rw [h1] at hp
      injection (Option.some.inj hp) with e
      exact absurd e N.lg
    | br row _ dx' t L h1 h2 h3 h4 =>
      rw [leaves_br, lvs_map] at few k
      rw [Sh.depth] at hd
      exact ⟨_, rfl, p, c.of row, dx', _, _, rfl, h1, N.cl _ (c.of_D row), N.parts row, lookS _ _, t, L, rfl, SqT.of h2, fun q hq => ⟨h4 q hq, by have := depth_mem (List.mem_map_of_mem (f := (·.2)) hq); omega⟩, few, k⟩
theorem ok_rowleaves {f : Addr} {fd : FuncData} {d k : Nat} (F : Fun K "leaves" "Row.leaves" sRowLeaves f fd) (N : NFacts K c) (g : Dfn P w K mg base CX0 k "_leaves_of" ["parts"] (spLeavesOf K c d)) : FnOk P w K mg base CX0 (k + 1) f fd ["self"] (spLeaves c (d + 1) c.R) := by
  obtain ⟨fO, dO, mO, kO, bO, GO⟩ := g
  refine F.ok scRowLeaves (fun vs H Q E h => ?_) (fun cdv A outer s H vs Q E hr h => ?_)
  · obtain ⟨p, s, dx, fs, rfl, _⟩ := h
    rfl
  · obtain ⟨p, s, dx, fs, rfl, hp, nd, hd, few, k⟩ := h
    refine ⟨_, pss_one (ps_ret (pe_call GO hr (by rfl) mO kO bO .nil pass0 (pa_cons (pe_fld (pv 0) rfl) pa_nil))), ?_⟩
    cases nd with
    | leaf _ dx' n h1 =>
      rw [h1] at hp
      injection (Option.some.inj hp) with e
      exact absurd e N.lr
    | br row _ dx' t L h1 h2 h3 h4 =>
      rw [leaves_br, lvs_map] at few k
      rw [Sh.depth] at hd
      exact ⟨_, rfl, p, c.of row, dx', _, _, rfl, h1, N.cl _ (c.of_D row), N.parts row, lookS _ _, t, L, rfl, SqT.of h2, fun q hq => ⟨h4 q hq, by have := depth_mem (List.mem_map_of_mem (f := (·.2)) hq); omega⟩, few, k⟩
end
end Dl

/-! what begins an order of a node -/
namespace Dl
open PySem PySem.Spec PyProof.Rows L2
section
variable {X : Cx}
def rSlW (K : PySem.W.Frag) : V → Option Int → Option Int → Hp → VK → Prop := fun x lo hi H Q => ∃ a xs, x = .ref a ∧ SqT K H a xs ∧ ∀ H' p, Same H H' → SqT K H' p (cutV xs lo hi) → Q (.ref p) H'
theorem sl_tupW : SlR X (rSlW X.K) := by
  intro pins s σ H x v vl vu lo hi sl Q I rx hs pl pu h
  obtain ⟨a, xs, rfl, hx, q⟩ := h
  refine sl_tupA pins s σ H _ v vl vu lo hi sl Q I rx hs pl pu ⟨a, xs, rfl, hx, fun hw => ?_, fun _ p hp => q _ p (Same.upd_new hp) (SqT.of upd_same)⟩
  have e : cutV xs lo hi = xs := by
    unfold cutV
    rw [hw.1, hw.2]
    simp
  exact q H a (Same.refl H) (by rw [e]; exact hx)
def rCatW (K : PySem.W.Frag) : R2 := fun x y H Q => ∃ a b xs ys, x = .ref a ∧ y = .ref b ∧ SqT K H a xs ∧ SqT K H b ys ∧ xs.length + ys.length ≤ sizeLine ∧ ∀ H' p, Same H H' → SqT K H' p (xs ++ ys) → Q (.ref p) H'
theorem op_catW : OpR X (binaryOp .Add) (rCatW X.K) := by
  intro pins s σ H x y v u Q I rx ry h
  obtain ⟨a, b, xs, ys, rfl, rfl, ha, hb, hz, q⟩ := h
  refine op_catA pins s σ H _ _ v u Q I rx ry ⟨a, b, xs, ys, rfl, rfl, ha, hb, hz, fun e => ?_, fun _ e => ?_, fun _ _ p hp => q _ p (Same.upd_new hp) (SqT.of upd_same)⟩
  · subst e; exact q H b (Same.refl H) hb
  · subst e; exact q H a (Same.refl H) (by rw [List.append_nil]; exact ha)
end
theorem cut_nat {xs : List V} {s e : Nat} (h : s ≤ e) : cutV xs (some (s : Int)) (some (e : Int)) = (xs.drop s).take (e - s) := by
  unfold cutV
  rw [HT.sIx_nat, HT.sIx_nat]
  by_cases h1 : e ≤ xs.length
  · rw [Nat.min_eq_left h1, Nat.min_eq_left (show s ≤ xs.length by omega)]
  · by_cases h2 : s ≤ xs.length
    · rw [Nat.min_eq_left h2, Nat.min_eq_right (show xs.length ≤ e by omega), List.take_of_length_le (by rw [List.length_drop]; omega), List.take_of_length_le (by rw [List.length_drop]; omega)]
    · rw [Nat.min_eq_right (show xs.length ≤ s by omega), Nat.min_eq_right (show xs.length ≤ e by omega), List.drop_of_length_le (Nat.le_refl _), List.drop_of_length_le (by omega)]
      simp
structure GoodS (s : Sh) : Prop where
  ok : s.Ok
  nd : s.leaves.Nodup
  can : ∀ z ∈ s.leaves, canS z
  few : s.leaves.length ≤ 720
theorem nodup_part {L : Parts} (h : (lvs L).Nodup) {q : Nat × Sh} (hq : q ∈ L) : q.2.leaves.Nodup := by
  obtain ⟨a, b, rfl⟩ := List.append_of_mem hq
  unfold lvs at h
  rw [List.flatMap_append, List.flatMap_cons] at h
  exact (List.nodup_append.mp (List.nodup_append.mp h).2.1).1
theorem lvs_mem {L : Parts} {q : Nat × Sh} (hq : q ∈ L) {z : Str} (h : z ∈ q.2.leaves) : z ∈ lvs L := List.mem_flatMap.mpr ⟨q, hq, h⟩
theorem GoodS.parts {row : Bool} {L : Parts} (g : GoodS (.br row (L.map (·.2)))) : (lvs L).Nodup ∧ (lvs L).length ≤ 720 ∧ ∀ q ∈ L, GoodS q.2 := by
  have nd := g.nd
  have few := g.few
  have can := g.can
  rw [leaves_br, lvs_map] at nd few can
  refine ⟨nd, few, fun q hq => ?_⟩
  have ok := g.ok
  cases ok with
  | br _ _ _ _ _ hp => exact ⟨hp _ (List.mem_map_of_mem hq), nodup_part nd hq, fun z hz => can z (lvs_mem hq hz), Nat.le_trans (lvs_part hq) few⟩
theorem GoodS.pok {row : Bool} {L : Parts} (g : GoodS (.br row (L.map (·.2)))) (ids : (L.map (·.1)).Nodup) : PartsOk L :=
  ⟨ids, g.parts.1, fun q hq e => by have := leaves_pos (g.parts.2.2 q hq).ok; rw [e] at this; exact absurd this (by decide)⟩
theorem eqv_leaf (n : Str) (pre : List Str) : ([PyData.list [], .list [.str n]].any fun z => PyData.eqv z (.list (pre.map PyData.str))) = decide (pre = [] ∨ pre = [n]) := by
  have e0 : ∀ ds : List PyData, PyData.eqv (.list []) (.list ds) = ds.isEmpty := fun ds => by cases ds <;> simp [PyData.eqv, PyData.eqvAll]
  match pre with
  | [] => simp [e0]
  | [x] =>
    simp only [List.any_cons, List.any_nil, Bool.or_false, List.map_cons, List.map_nil, e0]
    simp only [PyData.eqv, PyData.eqvAll]
    by_cases h : n = x
    · simp [h]
    · have h2 : ¬ x = n := fun e => h e.symm
      simp [h, h2]
  | x :: y :: r =>
    simp only [List.any_cons, List.any_nil, Bool.or_false, List.map_cons, e0]
    simp [PyData.eqv, PyData.eqvAll]
end Dl

/-! the drawn shape -/
namespace Dl
open PySem PySem.Spec PyProof.Rows L2
def kindS (row : Bool) : Str := if row then "row" else "group"
inductive ShAt (H : Hp) : V → Sh → Prop where
  | leaf (n : Str) : ShAt H (.str n) (.leaf n)
  | br (row : Bool) (a : Addr) (L : List (V × Sh)) : H a = some (.tup (.str (kindS row) :: L.map (·.1))) → (∀ q ∈ L, ShAt H q.1 q.2) → ShAt H (.ref a) (.br row (L.map (·.2)))
theorem ShAt.imp {H H' : Hp} {v : V} {s : Sh} (h : ShAt H v s) (k : ∀ a xs, H a = some (.tup xs) → H' a = some (.tup xs)) : ShAt H' v s := by
  induction h with
  | leaf n => exact .leaf n
  | br row a L h1 _ ih => exact .br row a L (k _ _ h1) ih
theorem ShAt.of {H H' : Hp} {v : V} {s : Sh} (h : ShAt H v s) (k : Same H H') : ShAt H' v s := h.imp fun a xs e => k _ _ e
theorem ShAt.ofB {H H' : Hp} {v : V} {s : Sh} {b : Addr} {ys : List V} (h : ShAt H v s) (hb : H b = some (.lst ys)) (k : SameB b H H') : ShAt H' v s := h.imp fun a xs e => k _ _ (fun q => by rw [q, hb] at e; cases e) e
def spShape (n : Nat) : Sp := fun vs H Q _ => ∃ (b u : Addr) (L : List Int) (zs : List Str), vs = [.ref b, .ref u] ∧ H b = some (.lst (L.map V.int)) ∧ BagOk L ∧ u ≠ b ∧ H u = some (.lst (zs.map V.str)) ∧ 1 ≤ zs.length ∧ zs.length ≤ n ∧
  ∀ (H' : Hp) (v : V) (s : Sh) (L' : List Int), SameB b H H' → H' b = some (.lst (L'.map V.int)) → BagOk L' → ShAt H' v s → s.leaves = zs → s.Ok → s.depth < zs.length → Q v H'
structure TxtSh (mg : Str → Option Value) : Prop where
  len : mg "len" = none
  min : mg "min" = none
  max : mg "max" = none
  range : mg "range" = none
  tuple : mg "tuple" = none
/-- the places where the names are cut -/
structure Cuts (n count : Nat) (cs : List Nat) : Prop where
  zero : cs[0]? = some 0
  up : ∀ j a b : Nat, cs[j]? = some a → cs[j + 1]? = some b → a < b
  low : ∀ j a : Nat, cs[j]? = some a → j ≤ a
  top : ∀ j a : Nat, cs[j]? = some a → a + count ≤ n + j
theorem Cuts.snoc {n count : Nat} {cs : List Nat} (h : Cuts n count cs) {a c : Nat} (ha : cs[cs.length - 1]? = some a) (lt : a < c) (hc : c + count ≤ n + cs.length) : Cuts n count (cs ++ [c]) := by
  have pos : 0 < cs.length := by
    have := (List.getElem?_eq_some_iff.mp ha).1
    omega
  have at_ : ∀ j x : Nat, (cs ++ [c])[j]? = some x → cs[j]? = some x ∨ (j = cs.length ∧ x = c) := fun j x e => by
    rcases Nat.lt_or_ge j cs.length with l | l
    · rw [List.getElem?_append_left l] at e; exact .inl e
    · rw [List.getElem?_append_right l] at e
      have := (List.getElem?_eq_some_iff.mp e).1
      have j0 : j - cs.length = 0 := by simp at this; omega
      rw [j0] at e
      exact .inr ⟨by omega, by simpa using e.symm⟩
  have la := h.low _ _ ha
  refine ⟨by rw [List.getElem?_append_left pos]; exact h.zero, fun j x y ex ey => ?_, fun j x ex => ?_, fun j x ex => ?_⟩
  · rcases at_ _ _ ex with e1 | ⟨rfl, rfl⟩
    · rcases at_ _ _ ey with e2 | ⟨e, e3⟩
      · exact h.up _ _ _ e1 e2
      · have : j = cs.length - 1 := by omega
        rw [this, ha] at e1
        rw [← Option.some.inj e1, e3]
        exact lt
    · have := (List.getElem?_eq_some_iff.mp ey).1
      simp at this
  · rcases at_ _ _ ex with ex | ⟨rfl, rfl⟩
    · exact h.low _ _ ex
    · omega
  · rcases at_ _ _ ex with ex | ⟨rfl, rfl⟩
    · exact h.top _ _ ex
    · exact hc
theorem Cuts.one {n count : Nat} (h : count ≤ n) : Cuts n count [0] := by
  have at_ : ∀ j x : Nat, ([0] : List Nat)[j]? = some x → j = 0 ∧ x = 0 := fun j x e => by
    match j, e with
    | 0, e => exact ⟨rfl, by simpa using e.symm⟩
    | j + 1, e => simp at e
  refine ⟨rfl, fun j x y ex ey => ?_, fun j x ex => ?_, fun j x ex => ?_⟩
  · have := (at_ _ _ ey).1
    omega
  · obtain ⟨rfl, rfl⟩ := at_ _ _ ex; exact Nat.le_refl _
  · obtain ⟨rfl, rfl⟩ := at_ _ _ ex; omega
theorem cuts_at {cs : List Nat} {j a : Nat} (h : cs[j]? = some a) : atI (cs.map fun c => V.int (c : Nat)) (j : Nat) = some (.int (a : Nat)) := by
  obtain ⟨l, e⟩ := List.getElem?_eq_some_iff.mp h
  unfold atI
  rw [List.length_map, ix_at l]
  show (cs.map _)[j]? = _
  rw [List.getElem?_map, h]
  rfl
theorem atI_last {xs : List V} {v : V} (h : xs[xs.length - 1]? = some v) : atI xs (-1) = some v := by
  have hl : 0 < xs.length := by
    have := (List.getElem?_eq_some_iff.mp h).1
    omega
  unfold atI ixN
  rw [if_neg (by omega), if_pos (by omega)]
  have e : (-1 + (xs.length : Int)).toNat = xs.length - 1 := by omega
  rw [e]
  exact h
section
variable {P : Program} {w : World} {K : PySem.W.Frag} {mg : Str → Option Value} {base : Heap}
theorem scShape : FnScope ["_law_bag_here", "_law_names_here", "_law_count", "_law_cuts", "_law_k", "_law_kind"] ["_law_bag_here", "_law_names_here"] (defScope sLawShape) := ⟨rfl, rfl, rfl, by decide +kernel, rfl, by decide +kernel, by decide +kernel⟩
theorem ok_shape {f : Addr} {fd : FuncData} (F : Fun K "_law_shape" "_law_shape" sLawShape f fd) (T : TxtSh mg) (gT : Dfn P w K mg base CX0 1 "_law_take" ["_law_bag_here", "_law_size"] spTake)
    (mShape : mg "_law_shape" = some (.ref f)) (bShape : Binds K fd ["_law_bag_here", "_law_names_here"] []) : ∀ n, n ≤ 24 → FnOk P w K mg base CX0 (n + 1) f fd ["_law_bag_here", "_law_names_here"] (spShape n)
  | 0, _ => by
    refine F.ok scShape (fun vs H Q E h => ?_) (fun cdv A outer s H vs Q E hr h => ?_)
    · obtain ⟨b, u, L, zs, rfl, _⟩ := h
      rfl
    · obtain ⟨b, u, L, zs, _, _, _, _, _, h1, h2, _⟩ := h
      exfalso
      omega
  | n + 1, hn => by
    have GShape := ok_shape F T gT mShape bShape n (by omega)
    have kShape := F.kp
    obtain ⟨fT, dT, mTake, kTake, bTake, GTake⟩ := gT
    refine F.ok scShape (fun vs H Q E h => ?_) (fun cdv A outer s H vs Q E hr h => ?_)
    · obtain ⟨b, u, L, zs, rfl, _⟩ := h
      rfl
    · obtain ⟨b, u, L, zs, rfl, hb, ok, nub, hu, z1, zn, k⟩ := h
      have hr1 : Room 1 _ := hr.mono (by omega)
      have hrN : Room (n + 1) _ := hr
      refine ⟨_, (pss_cons (ps_if (pt_cmpR op_eq (pe_callB call_len_seq (by rfl) T.len PySem.boot_len (pa_cons (pv 1) pa_nil)) pe_int (nomark _)) (pss_one (ps_ret (pe_ix ix_list (pv 1) pe_int (fun _ _ => rfl)))) pss_nil)
        (pss_cons (ps_set (i := 2) scShape.nd rfl (Or.inl rfl) (pe_callB (call_min2 rfl) (by rfl) T.min (by decide +kernel) (pa_cons (pe_callB call_len_seq (by rfl) T.len PySem.boot_len (pa_cons (pv 1) pa_nil)) (pa_cons (pe_op op_add pe_int (pe_call GTake hr1 (by rfl) mTake kTake bTake .nil pass0 (pa_cons (pv 0) (pa_cons pe_int pa_nil)))) pa_nil))))
        (pss_cons (ps_set (i := 3) scShape.nd rfl (Or.inr rfl) (pe_lst (pa_cons pe_int pa_nil)))
        (pss_cons (ps_for PassesOwn.never rfl (pi_range2 (by rfl) T.range (pa_cons pe_int (pa_cons (pv 2) pa_nil))) (pg_name (i := 4) scShape.nd rfl (Or.inl rfl)) (pss_one (ps_expr (pe_bm PySem.F.plainAttrs_list PySem.F.slot_list_append PySem.F.type_list_append mt_append (pv 3) (pa_cons (pe_callB (call_max2 rfl) (by rfl) T.max (by decide +kernel) (pa_cons (pe_op op_add (pe_ix ix_list (pv 3) (pe_un un_neg pe_int) (fun _ _ => rfl)) pe_int) (pa_cons (pe_callB (call_min2 rfl) (by rfl) T.min (by decide +kernel) (pa_cons (pe_op op_add (pe_op op_sub (pe_callB call_len_seq (by rfl) T.len PySem.boot_len (pa_cons (pv 1) pa_nil)) (pv 2)) (pv 4)) (pa_cons (pe_op op_add (pe_op op_add (pe_ix ix_list (pv 3) (pe_un un_neg pe_int) (fun _ _ => rfl)) pe_int) (pe_call GTake hr1 (by rfl) mTake kTake bTake .nil pass0 (pa_cons (pv 0) (pa_cons pe_int pa_nil)))) pa_nil))) pa_nil))) pa_nil)))))
        (pss_cons (ps_expr (pe_bm PySem.F.plainAttrs_list PySem.F.slot_list_append PySem.F.type_list_append mt_append (pv 3) (pa_cons (pe_callB call_len_seq (by rfl) T.len PySem.boot_len (pa_cons (pv 1) pa_nil)) pa_nil)))
        (pss_cons (ps_set (i := 5) scShape.nd rfl (Or.inl rfl) pe_str)
        (C8.pss_cut (ps_if (PW.pt (pw_and (pt_cmpR op_gt (pv 2) pe_int (nomark _)) (pw_and1 (pt_cmpR op_eq (pe_call GTake hr1 (by rfl) mTake kTake bTake .nil pass0 (pa_cons (pv 0) (pa_cons pe_int pa_nil))) pe_int (nomark _))))) (pss_one (ps_set (i := 5) scShape.nd rfl (Or.inl rfl) pe_str)) pss_nil)
        (pss_one (ps_ret (pe_op op_catT (pe_tup (pa_cons (pv 5) pa_nil)) (pe_callTy call_tuple_of (by rfl) T.tuple (by decide +kernel) (pa_cons (pe_lc (own := [("_law_k", 4)]) (g := gName 4) (tt := tYes) rfl scShape.nd (pi_range1 (by rfl) T.range (pa_cons (pv 2) pa_nil)) (blkOk_by (N := ["_law_bag_here", "_law_names_here", "_law_count", "_law_cuts", "_law_k", "_law_kind"]) (sc := defScope sLawShape) (by decide +kernel)) (fun _ _ _ _ _ => (pg_name (i := 4) scShape.nd rfl (Or.inl rfl))) (fun _ _ _ _ _ => pts_nil) (fun _ _ _ _ _ => (pe_call GShape hrN (by rfl) mShape kShape bShape .nil pass0 (pa_cons (pv 0) (pa_cons (pe_slice (by exact sl_list : SlR _ (rSlL K)) (pv 1) (po_some (pe_ix (by exact ix_list : IxR _ (rIxL K)) (pv 3) (pv 4) (fun _ _ => rfl))) (po_some (pe_ix (by exact ix_list : IxR _ (rIxL K)) (pv 3) (pe_op op_add (pv 4) pe_int) (fun _ _ => rfl)))) pa_nil))))) pa_nil)))))))))))), ?_⟩
      refine ⟨_, rfl, u, _, rfl, .inl (SqL.of hu), rfl, _, rfl, ?_⟩
      rw [List.length_map]
      by_cases one : zs.length = 1
      · refine iteY (by rw [one]; rfl) ?_
        match zs, one with
        | [z], _ => exact ⟨_, rfl, u, _, 0, _, rfl, rfl, SqL.of hu, rfl, k H _ (.leaf z) L (SameB.refl b H) hb ok (.leaf z) rfl (.leaf z) (Nat.zero_lt_one)⟩
      · refine iteZ (decide_eq_false (by intro e; injection e with e; exact one (by omega))) ?_
        refine ⟨_, rfl, u, _, rfl, .inl (SqL.of hu), _, rfl, b, L, 3, rfl, hb, ok, by decide, by decide, fun L1 q ok1 q0 q1 => ?_⟩
        obtain ⟨q, rfl⟩ := Int.eq_ofNat_of_zero_le q0
        have z2 : 2 ≤ zs.length := by omega
        refine ⟨_, _, rfl, rfl, _, _, rfl, ?_⟩
        rw [List.length_map]
        have ec : (if (2 : Int) + (q : Int) < ((zs.length : Nat) : Int) then (2 : Int) + (q : Int) else ((zs.length : Nat) : Int)) = ((min zs.length (2 + q) : Nat) : Int) := by
          split <;> omega
        rw [ec]
        have c2 : 2 ≤ min zs.length (2 + q) := by omega
        have c4 : min zs.length (2 + q) ≤ 4 := by omega
        have cz : min zs.length (2 + q) ≤ zs.length := Nat.min_le_left _ _
        generalize min zs.length (2 + q) = count at *
        have hu1 : upd H b (.lst (L1.map V.int)) u = some (.lst (zs.map V.str)) := by rw [upd_ne nub]; exact hu
        refine ⟨by show 1 ≤ sizeLine; decide, fun g hg => ?_⟩
        have ngb : g ≠ b := fun e => by rw [e, upd_same] at hg; cases hg
        have ngu : g ≠ u := fun e => by rw [e, hu1] at hg; cases hg
        have hg0 : H g = none := by rw [upd_ne ngb] at hg; exact hg
        have ecount : ((count : Int) - 1).toNat = count - 1 := by omega
        refine ⟨_, rfl, 1, (count : Int), rfl, by omega, for_range (lo := 1) (n := ((count : Int) - 1).toNat) (fun i σ H' => ∃ (cs : List Nat) (x4 : Option V) (L2 : List Int), σ = [some (.ref b), some (.ref u), some (.int (count : Nat)), some (.ref g), x4, none] ∧ SameB b H H' ∧ H' b = some (.lst (L2.map V.int)) ∧ BagOk L2 ∧ H' g = some (.lst (cs.map fun c => V.int (c : Nat))) ∧ Cuts zs.length count cs ∧ cs.length = i + 1)
          ⟨[0], none, L1, rfl, fun c o nc e => ?_, ?_, ok1, upd_same, Cuts.one cz, rfl⟩ ?_ ?_⟩
        · rw [upd_ne (ne_of_none e hg0), upd_ne nc]
          exact e
        · rw [upd_ne (Ne.symm ngb), upd_same]
        · rintro i σ H2 hi ⟨cs, x4, L2, rfl, s2, hb2, ok2, hg2, cu, hcl⟩
          have hu2 := s2 _ _ nub hu
          obtain ⟨a, ha⟩ : ∃ a, cs[cs.length - 1]? = some a := ⟨_, List.getElem?_eq_getElem (by omega)⟩
          have last : atI (cs.map fun c => V.int (c : Nat)) (-1) = some (.int (a : Nat)) := atI_last (by rw [List.length_map, List.getElem?_map, ha]; rfl)
          have ta := cu.top _ _ ha
          refine ⟨_, rfl, .inl ⟨rfl, _, SqL.of hg2⟩, _, rfl, _, rfl, g, _, -1, _, rfl, rfl, SqL.of hg2, last, ?_⟩
          refine ⟨_, _, rfl, rfl, ?_⟩
          refine ⟨_, rfl, u, _, rfl, .inl (SqL.of hu2), _, rfl, _, _, rfl, rfl, _, rfl, _, _, rfl, rfl, ?_⟩
          refine ⟨_, rfl, _, rfl, g, _, -1, _, rfl, rfl, SqL.of hg2, last, _, _, rfl, rfl, ?_⟩
          refine ⟨_, rfl, b, L2, 3, rfl, hb2, ok2, by decide, by decide, fun L3 q ok3 q0 q1 => ⟨_, _, rfl, rfl, _, _, rfl, _, _, rfl, ?_⟩⟩
          have hv : ∃ c : Nat, (if (if ((a : Nat) : Int) + 1 + q < (((zs.map V.str).length : Nat) : Int) - (count : Nat) + (1 + (i : Nat)) then ((a : Nat) : Int) + 1 + q else (((zs.map V.str).length : Nat) : Int) - (count : Nat) + (1 + (i : Nat))) > ((a : Nat) : Int) + 1
              then (if ((a : Nat) : Int) + 1 + q < (((zs.map V.str).length : Nat) : Int) - (count : Nat) + (1 + (i : Nat)) then ((a : Nat) : Int) + 1 + q else (((zs.map V.str).length : Nat) : Int) - (count : Nat) + (1 + (i : Nat))) else ((a : Nat) : Int) + 1) = (c : Int) ∧ a < c ∧ c + count ≤ zs.length + cs.length := by
            rw [List.length_map]
            obtain ⟨q, rfl⟩ := Int.eq_ofNat_of_zero_le q0
            by_cases w1 : ((a : Nat) : Int) + 1 + (q : Nat) < ((zs.length : Nat) : Int) - (count : Nat) + (1 + (i : Nat))
            · rw [if_pos w1]
              refine ⟨a + 1 + q, ?_, by omega, by omega⟩
              split <;> omega
            · rw [if_neg w1]
              refine ⟨zs.length - count + (1 + i), ?_, by omega, by omega⟩
              split <;> omega
          obtain ⟨c, ec, lt, top⟩ := hv
          refine ⟨g, _, _, rfl, rfl, by rw [upd_ne ngb]; exact hg2, ?_, cs ++ [c], _, L3, rfl, fun d o nd e => ?_, ?_, ok3, ?_, cu.snoc ha lt top, by rw [List.length_append, hcl]; rfl⟩
          · rw [List.length_map]
            exact small1000 (by omega)
          · rw [upd_ne (ne_of_none e hg0), upd_ne nd]
            exact s2 _ _ nd e
          · rw [upd_ne (Ne.symm ngb), upd_same]
          · rw [upd_same, List.map_append, ec]
            rfl
        · rintro σ H2 ⟨cs, x4, L2, rfl, s2, hb2, ok2, hg2, cu, hcl⟩
          rw [ecount] at hcl
          have hu2 := s2 _ _ nub hu
          refine ⟨_, rfl, .inl ⟨rfl, _, SqL.of hg2⟩, _, rfl, u, _, rfl, .inl (SqL.of hu2), g, _, _, rfl, rfl, hg2, ?_, ?_⟩
          · rw [List.length_map]
            exact small1000 (by omega)
          obtain ⟨a, ha⟩ : ∃ a, cs[cs.length - 1]? = some a := ⟨_, List.getElem?_eq_getElem (by omega)⟩
          have ta := cu.top _ _ ha
          have cd := cu.snoc (c := zs.length) ha (by omega) (by omega)
          have e3 : (.lst (cs.map (fun c => V.int (c : Nat)) ++ [V.int (((zs.map V.str).length : Nat))]) : HO) = .lst ((cs ++ [zs.length]).map fun c => V.int (c : Nat)) := by
            rw [List.length_map, List.map_append]
            rfl
          rw [e3]
          have dl : (cs ++ [zs.length]).length = count + 1 := by rw [List.length_append, hcl]; show count - 1 + 1 + 1 = _; omega
          have dlast : (cs ++ [zs.length])[count]? = some zs.length := by
            rw [List.getElem?_append_right (by omega), show count - cs.length = 0 by omega]
            rfl
          have s3 : SameB b H (upd H2 g (.lst ((cs ++ [zs.length]).map fun c => V.int (c : Nat)))) := fun d o nd e => by
            rw [upd_ne (ne_of_none e hg0)]
            exact s2 _ _ nd e
          have hb3 : upd H2 g (.lst ((cs ++ [zs.length]).map fun c => V.int (c : Nat))) b = some (.lst (L2.map V.int)) := by rw [upd_ne (Ne.symm ngb)]; exact hb2
          have hg3 := upd_same (H := H2) (a := g) (o := .lst ((cs ++ [zs.length]).map fun c => V.int (c : Nat)))
          generalize upd H2 g (.lst ((cs ++ [zs.length]).map fun c => V.int (c : Nat))) = H3 at *
          generalize cs ++ [zs.length] = ds at *
          clear hg2 hb2 s2 hu2 ha ta cu hcl e3
          refine ⟨fun σ H' => ∃ (row : Bool) (L3 : List Int), σ = [some (.ref b), some (.ref u), some (.int (count : Nat)), some (.ref g), x4, some (.str (kindS row))] ∧ (row = true → 3 ≤ count) ∧ SameB b H H' ∧ H' b = some (.lst (L3.map V.int)) ∧ BagOk L3 ∧ H' g = some (.lst (ds.map fun c => V.int (c : Nat))), ?_, ?_⟩
          · refine ⟨_, rfl, _, _, rfl, rfl, _, rfl, ?_⟩
            by_cases c3 : 2 < count
            · refine iteY (decide_eq_true (by omega)) ?_
              refine ⟨_, rfl, b, L2, 2, rfl, hb3, ok2, by decide, by decide, fun L3 q ok3 q0 q1 => ⟨rfl, _, rfl, ?_⟩⟩
              have s4 : SameB b H (upd H3 b (.lst (L3.map V.int))) := s3.trans SameB.upd
              have hg4 : upd H3 b (.lst (L3.map V.int)) g = some (.lst (ds.map fun c => V.int (c : Nat))) := by rw [upd_ne ngb]; exact hg3
              by_cases one : q = 1
              · refine iteY (by rw [one]; rfl) ⟨true, L3, rfl, fun _ => c3, s4, upd_same, ok3, hg4⟩
              · refine iteZ (decide_eq_false (by intro e; injection e with e; exact one e)) ⟨false, L3, rfl, (fun e => absurd e (by decide)), s4, upd_same, ok3, hg4⟩
            · refine iteZ (decide_eq_false (by omega)) ?_
              exact ⟨false, L2, rfl, (fun e => absurd e (by decide)), s3, hb3, ok2, hg3⟩
          · rintro σ H4 ⟨row, L3, rfl, row3, s4, hb4, ok4, hg4⟩
            clear s3 hb3 hg3 ok2
            refine ⟨_, rfl, by show 1 ≤ sizeLine; decide, fun t ht => ?_⟩
            have ngt : g ≠ t := ne_of_none hg4 ht
            have nbt : b ≠ t := ne_of_none hb4 ht
            have s5 : SameB b H (upd H4 t (.tup [.str (kindS row)])) := s4.trans (SameB.of (Same.upd_new ht))
            have hb5 := (Same.upd_new ht (o := .tup [.str (kindS row)])) _ _ hb4
            have hg5 := (Same.upd_new ht (o := .tup [.str (kindS row)])) _ _ hg4
            have ht5 := upd_same (H := H4) (a := t) (o := .tup [.str (kindS row)])
            generalize upd H4 t (.tup [.str (kindS row)]) = H5 at *
            have ec0 : (count : Int).toNat = count := by omega
            refine ⟨_, rfl, _, rfl, by omega, by omega, fun D hD => lc_range (lo := 0) (n := (count : Int).toNat) (fun i H' => ∃ (Ls : List (V × Sh)) (L6 : List Int), H' D = some (.lst (Ls.map (·.1))) ∧ D ≠ b ∧ SameB b H5 H' ∧ H' b = some (.lst (L6.map V.int)) ∧ BagOk L6 ∧ (∀ q ∈ Ls, ShAt H' q.1 q.2 ∧ q.2.Ok ∧ q.2.depth + 2 ≤ zs.length) ∧ Ls.length = i ∧ ∀ a, ds[i]? = some a → (Ls.map (·.2)).flatMap Sh.leaves = zs.take a)
              ⟨[], L3, upd_same, (ne_of_none hb5 hD).symm, SameB.of (Same.upd_new hD), (Same.upd_new hD) _ _ hb5, ok4, (fun q hq => absurd hq (by simp)), rfl, fun a e => ?_⟩ ?_ ?_⟩
            · rw [cd.zero] at e
              rw [← Option.some.inj e]
              rfl
            · rintro i H6 hi ⟨Ls, L6, hD6, nDb, s6, hb6, ok6, all, hl, lv⟩
              rw [ec0] at hi
              obtain ⟨a, ha⟩ : ∃ a, ds[i]? = some a := ⟨_, List.getElem?_eq_getElem (by omega)⟩
              obtain ⟨c, hc⟩ : ∃ c, ds[i + 1]? = some c := ⟨_, List.getElem?_eq_getElem (by omega)⟩
              have lt := cd.up _ _ _ ha hc
              have tc := cd.top _ _ hc
              have la := cd.low _ _ ha
              have i1 : atI (ds.map fun c => V.int (c : Nat)) (0 + (i : Nat)) = some (.int (a : Nat)) := by rw [Int.zero_add]; exact cuts_at ha
              have i2 : atI (ds.map fun c => V.int (c : Nat)) (0 + (i : Nat) + 1) = some (.int (c : Nat)) := by
                rw [Int.zero_add]
                exact cuts_at (j := i + 1) hc
              have hg6 := s6 _ _ ngb hg5
              have hu6 : H6 u = some (.lst (zs.map V.str)) := s6 _ _ nub (s5 _ _ nub hu)
              refine ⟨rfl, _, rfl, _, rfl, _, rfl, _, rfl, g, _, _, _, rfl, rfl, SqL.of hg6, i1, _, rfl, _, rfl, _, rfl, _, _, rfl, rfl, g, _, _, _, rfl, rfl, SqL.of hg6, i2, _, rfl, u, _, rfl, SqL.of hu6, fun p hp => ?_⟩
              have npb : p ≠ b := (ne_of_none hb6 hp).symm
              have slen : ((zs.drop a).take (c - a)).length = c - a := by rw [List.length_take, List.length_drop]; omega
              refine ⟨b, p, L6, (zs.drop a).take (c - a), rfl, (Same.upd_new hp) _ _ hb6, ok6, npb, ?_, by omega, by omega, fun H7 v sh L7 s7 hb7 ok7 sv lf gd dp => ?_⟩
              · rw [upd_same, cut_nat (by omega), List.map_take, List.map_drop]
              · have s67 : SameB b H6 H7 := (SameB.of (Same.upd_new hp)).trans s7
                have hD7 := s67 _ _ nDb hD6
                have keep : ∀ a xs, H7 a = some (.tup xs) → upd H7 D (.lst (Ls.map (·.1) ++ [v])) a = some (.tup xs) := fun a xs e => by
                  rw [upd_ne (by intro q; rw [q, hD7] at e; cases e)]
                  exact e
                refine ⟨_, hD7, ?_, Ls ++ [(v, sh)], L7, ?_, nDb, fun d o nd e => ?_, ?_, ok7, fun q hq => ?_, ?_, fun a' e => ?_⟩
                · rw [List.length_map, hl]
                  exact small1000 (by omega)
                · rw [upd_same, List.map_append]
                  rfl
                · rw [upd_ne (ne_of_none e hD)]
                  exact s67 _ _ nd (s6 _ _ nd e)
                · rw [upd_ne nDb.symm]
                  exact hb7
                · rcases List.mem_append.mp hq with h | h
                  · obtain ⟨x1, x2, x3⟩ := all q h
                    exact ⟨(x1.ofB hb6 s67).imp keep, x2, x3⟩
                  · rw [List.mem_singleton.mp h]
                    exact ⟨sv.imp keep, gd, by show sh.depth + 2 ≤ _; omega⟩
                · rw [List.length_append, hl]
                  rfl
                · rw [hc] at e
                  rw [← Option.some.inj e, List.map_append, List.flatMap_append, lv a ha]
                  show _ ++ List.flatMap Sh.leaves [sh] = _
                  rw [List.flatMap_cons, List.flatMap_nil, List.append_nil, lf, ← List.take_append_drop a (zs.take c)]
                  congr 1
                  · rw [List.take_take, Nat.min_eq_left (by omega)]
                  · rw [List.drop_take]
            · rintro H6 ⟨Ls, L6, hD6, nDb, s6, hb6, ok6, all, hl, lv⟩
              rw [ec0] at hl lv
              have lv := lv _ dlast
              rw [List.take_of_length_le (Nat.le_refl _)] at lv
              refine ⟨D, _, rfl, .inl ⟨SqL.of hD6, fun r hr0 => ?_⟩⟩
              have s8 : Same H6 (upd H6 r (.tup (Ls.map (·.1)))) := Same.upd_new hr0
              have ntb : t ≠ b := fun e => by rw [e, hb5] at ht5; cases ht5
              have ne : Ls.map (·.1) ≠ [] := fun e => by
                have := congrArg List.length e
                rw [List.length_map, hl] at this
                simp at this
                omega
              refine ⟨t, r, [.str (kindS row)], Ls.map (·.1), rfl, rfl, SqT.of (s8 _ _ (s6 _ _ ntb ht5)), SqT.of upd_same, by simp, ?_, fun e => absurd e ne, fun _ p hp => ?_⟩
              · rw [List.length_map, hl]
                exact Nat.le_of_lt (small1000 (by show 1 + count ≤ 1000; omega))
              · have s9 := s8.trans (Same.upd_new hp (o := .tup (.str (kindS row) :: Ls.map (·.1))))
                refine k (upd (upd H6 r (.tup (Ls.map (·.1)))) p (.tup (.str (kindS row) :: Ls.map (·.1)))) (.ref p) (.br row (Ls.map (·.2))) L6 (s5.trans (s6.trans (SameB.of s9))) (s9 _ _ hb6) ok6 (.br row p Ls upd_same fun q hq => (all q hq).1.of s9) ?_ ?_ ?_
                · rw [leaves_br, lv]
                · refine .br row _ (by rw [List.length_map]; omega) (by rw [List.length_map]; omega) (by rw [List.length_map, hl]; exact row3) fun p hp => ?_
                  obtain ⟨q, hq, rfl⟩ := List.mem_map.mp hp
                  exact (all q hq).2.1
                · rw [Sh.depth]
                  have := depthL_le (ps := Ls.map (·.2)) (d := zs.length - 2) fun p hp => by
                    obtain ⟨q, hq, rfl⟩ := List.mem_map.mp hp
                    have := (all q hq).2.2
                    omega
                  omega
end
end Dl

/-! nodes: their text -/
namespace Dl
open PySem PySem.Spec PyProof.Rows L2
theorem sap_len (a b : Str) : (a ++ b).length = a.length + b.length := by
  show (a.cps ++ b.cps).size = a.cps.size + b.cps.size
  exact Array.size_append
theorem jn_len (ts : List Str) : (Txt.join " " ts).length ≤ (ts.map (·.length)).sum + ts.length := by
  have one : (" " : Str).length = 1 := by decide +kernel
  have e : (Txt.join " " ts).length = (ts.map (·.length)).sum + (ts.length - 1) * (" " : Str).length := size_glued " " ts
  rw [e, one, Nat.mul_one]
  omega
mutual
def Sh.text : Sh → Str
  | .leaf n => n
  | .br row ps => (if row then ("[" : Str) else "(") ++ Txt.join " " (Sh.textL ps) ++ (if row then ("]" : Str) else ")")
def Sh.textL : List Sh → List Str
  | [] => []
  | p :: r => p.text :: Sh.textL r
end
mutual
def Sh.tlen : Sh → Nat
  | .leaf n => n.length
  | .br _ ps => Sh.tlenL ps + 2
def Sh.tlenL : List Sh → Nat
  | [] => 0
  | p :: r => p.tlen + 1 + Sh.tlenL r
end
theorem textL_eq : ∀ ps : List Sh, Sh.textL ps = ps.map Sh.text
  | [] => rfl
  | p :: r => by rw [Sh.textL, textL_eq r, List.map_cons]
theorem text_br (row : Bool) (ps : List Sh) : (Sh.br row ps).text = (if row then ("[" : Str) else "(") ++ Txt.join " " (ps.map Sh.text) ++ (if row then ("]" : Str) else ")") := by rw [Sh.text, textL_eq]
theorem tlen_part {q : Sh} : ∀ {ps : List Sh}, q ∈ ps → q.tlen + 1 ≤ Sh.tlenL ps
  | p :: r, h => by
    rw [Sh.tlenL]
    rcases List.mem_cons.mp h with rfl | h
    · omega
    · have := tlen_part h
      omega
theorem tlen_len : ∀ ps : List Sh, ps.length ≤ Sh.tlenL ps
  | [] => Nat.zero_le _
  | p :: r => by
    rw [Sh.tlenL, List.length_cons]
    have := tlen_len r
    omega
mutual
theorem text_len : ∀ s : Sh, s.text.length ≤ s.tlen
  | .leaf n => by rw [Sh.text, Sh.tlen]; exact Nat.le_refl _
  | .br row ps => by
    have e1 : ∀ b : Bool, (if b then ("[" : Str) else "(").length = 1 := fun b => by cases b <;> decide +kernel
    have e2 : ∀ b : Bool, (if b then ("]" : Str) else ")").length = 1 := fun b => by cases b <;> decide +kernel
    have h := textL_len ps
    have j := jn_len (Sh.textL ps)
    rw [Sh.text, Sh.tlen, sap_len, sap_len, e1, e2]
    omega
theorem textL_len : ∀ ps : List Sh, ((Sh.textL ps).map (·.length)).sum + (Sh.textL ps).length ≤ Sh.tlenL ps
  | [] => Nat.zero_le _
  | p :: r => by
    have h1 := text_len p
    have h2 := textL_len r
    rw [Sh.textL, Sh.tlenL]
    simp only [List.map_cons, List.sum_cons, List.length_cons]
    omega
end
def spText (c : NCls) (d : Nat) (C : Addr) : Sp := fun vs H Q _ => ∃ p s dx fs, vs = [.ref p] ∧ H p = some (.ins C dx fs) ∧ NodeAt c H p s ∧ s.depth ≤ d ∧ s.tlen ≤ 100000 ∧ ∀ H', Same H H' → Q (.str s.text) H'
def spTextsOf (K : PySem.W.Frag) (c : NCls) (d : Nat) : Sp := fun vs H Q _ => ∃ t L, vs = [.ref t] ∧ SqT K H t (L.map fun q => V.ref q.1) ∧ PartsAt c H d L ∧ Sh.tlenL (L.map (·.2)) ≤ 100000 ∧ ∀ H', Same H H' → Q (.str (Txt.join " " ((L.map (·.2)).map Sh.text))) H'
section
variable {P : Program} {w : World} {K : PySem.W.Frag} {mg : Str → Option Value} {base : Heap} {c : NCls}
theorem scLeafText : FnScope ["self"] ["self"] (defScope sLeafText) := ⟨rfl, rfl, rfl, by decide +kernel, rfl, by decide +kernel, by decide +kernel⟩
theorem ok_leaftext {f : Addr} {fd : FuncData} (F : Fun K "text" "Leaf.text" sLeafText f fd) (N : NFacts K c) (d : Nat) : FnOk P w K mg base CX0 1 f fd ["self"] (spText c d c.L) := by
  refine F.ok scLeafText (fun vs H Q E h => ?_) (fun cdv A outer s H vs Q E hr h => ?_)
  · obtain ⟨p, s, dx, fs, rfl, _⟩ := h
    rfl
  · obtain ⟨p, s, dx, fs, rfl, hp, nd, _, _, k⟩ := h
    refine ⟨_, pss_one (ps_ret (pe_fld (pv 0) rfl)), ?_⟩
    cases nd with
    | br row _ dx' t L h1 _ _ _ =>
      rw [h1] at hp
      injection (Option.some.inj hp) with e
      exact absurd e (N.lof row)
    | leaf _ dx' n h1 => exact ⟨_, rfl, p, c.L, dx', _, _, rfl, h1, N.cl _ (.inl rfl), N.name, lookS _ _, k H fun _ _ e => e⟩
theorem scTextsOf : FnScope ["parts", "part"] ["parts"] (defScope sTextsOf) := ⟨rfl, rfl, rfl, by decide +kernel, rfl, by decide +kernel, by decide +kernel⟩
theorem ok_textsof {f : Addr} {fd : FuncData} {d k : Nat} (F : Fun K "_texts_of" "_texts_of" sTextsOf f fd) (hD : ∀ C, c.D C → HasM P w K mg base CX0 k "text" ["self"] (spText c d) C) : FnOk P w K mg base CX0 (k + 1) f fd ["parts"] (spTextsOf K c d) := by
  refine F.ok scTextsOf (fun vs H Q E h => ?_) (fun cdv A outer s H vs Q E hr h => ?_)
  · obtain ⟨t, L, rfl, _⟩ := h
    rfl
  · obtain ⟨t, L, rfl, ht, pa, few, k⟩ := h
    refine ⟨_, pss_one (ps_ret (pe_bm PySem.F.plainAttrs_str PySem.F.slot_str_join PySem.F.type_str_join mt_join pe_str (pa_cons
      (pe_lc (own := [("part", 1)]) (g := gName 1) (tt := tYes) (te := tMethD c.D "text" (spText c d) E0 (tVar 1) tNil) rfl scTextsOf.nd (pi_tup (pv 0))
        (blkOk_by (N := ["parts", "part"]) (sc := defScope sTextsOf) (by decide +kernel)) (fun _ _ _ _ _ => pg_name (i := 1) scTextsOf.nd rfl (Or.inl rfl)) (fun _ _ _ _ _ => pts_nil)
        (fun _ _ _ _ _ => by exact pe_methD0 (pv 1) hD hr pass0)) pa_nil))), ?_⟩
    have ln := tlen_len (L.map (·.2))
    rw [List.length_map] at ln
    refine ⟨rfl, _, rfl, t, rfl, ⟨_, ht⟩, fun D hD0 => lc_it (walk_tup (K := K) (a := t) (xs := L.map fun q => V.ref q.1)) (fun i H' => Same H H' ∧ H' D = some (.lst ((((L.map (·.2)).take i).map Sh.text).map V.str))) ⟨Same.upd_new hD0, upd_same⟩ (fun i H' _ ⟨s, _⟩ => Same.tup s ht) ?_ ?_⟩
    · rintro i v H1 H2 hi ⟨s1, hl⟩ ⟨rfl, hv⟩
      obtain ⟨q, hq, hqm, rfl⟩ := nd_at hv
      obtain ⟨C, dx, fn, fv, hi1, dC, fe⟩ := ((pa q hqm).1.of s1).ins
      have tp := tlen_part (List.mem_map_of_mem (f := (·.2)) hqm)
      refine ⟨rfl, _, rfl, q.1, C, dx, _, rfl, hi1, dC, lookN (by rcases fe with rfl | rfl <;> decide +kernel), q.1, q.2, dx, _, rfl, hi1, (pa q hqm).1.of s1, (pa q hqm).2, by omega, fun H3 s3 => ?_⟩
      refine ⟨_, s3 _ _ hl, ?_, fun b o e => ?_, ?_⟩
      · rw [List.length_map, List.length_map, List.length_take, List.length_map]
        exact Nat.lt_of_le_of_lt (Nat.le_trans (Nat.min_le_right _ _) (Nat.le_trans ln few)) (by decide)
      · rw [upd_ne (ne_of_none e hD0)]
        exact s3 _ _ (s1 _ _ e)
      · rw [upd_same, take_one (show (L.map (·.2))[i]? = some q.2 by rw [List.getElem?_map, hq]; rfl), List.map_append, List.map_append]
        rfl
    · rintro H1 ⟨s1, hl⟩
      rw [List.length_map, show L.length = (L.map (·.2)).length by rw [List.length_map], List.take_length] at hl
      have one : (" " : Str).length = 1 := by decide +kernel
      have tl := textL_len (L.map (·.2))
      rw [textL_eq] at tl
      refine ⟨" ", D, _, rfl, rfl, .inl (SqL.of hl), ?_, k H1 s1⟩
      rw [one, Nat.mul_one]
      omega
theorem scGroupText : FnScope ["self"] ["self"] (defScope sGroupText) := ⟨rfl, rfl, rfl, by decide +kernel, rfl, by decide +kernel, by decide +kernel⟩
theorem scRowText : FnScope ["self"] ["self"] (defScope sRowText) := ⟨rfl, rfl, rfl, by decide +kernel, rfl, by decide +kernel, by decide +kernel⟩
theorem txt_js {row : Bool} {ps : List Sh} (h : (Sh.br row ps).tlen ≤ 100000) : (Str.empty ++ (if row then ("[" : Str) else "(")).length ≤ sizeLine ∧ (Txt.join " " (ps.map Sh.text)).length ≤ sizeLine ∧
    (Str.empty ++ (if row then ("[" : Str) else "(") ++ Txt.join " " (ps.map Sh.text)).length ≤ sizeLine ∧ (Str.empty ++ (if row then ("[" : Str) else "(") ++ Txt.join " " (ps.map Sh.text) ++ (if row then ("]" : Str) else ")")).length ≤ sizeLine ∧
    (Str.empty ++ (if row then ("[" : Str) else "(") ++ Txt.join " " (ps.map Sh.text) ++ (if row then ("]" : Str) else ")")) = (Sh.br row ps).text := by
  have e0 : (Str.empty ++ (if row then ("[" : Str) else "(")) = (if row then ("[" : Str) else "(") := by cases row <;> decide +kernel
  have e1 : (if row then ("[" : Str) else "(").length = 1 := by cases row <;> decide +kernel
  have e2 : (if row then ("]" : Str) else ")").length = 1 := by cases row <;> decide +kernel
  have tl := text_len (.br row ps)
  rw [text_br, sap_len, sap_len, e1, e2] at tl
  have big : ∀ n : Nat, n ≤ 100000 → n ≤ sizeLine := fun n h => Nat.le_trans h (by decide)
  rw [e0, text_br]
  refine ⟨by rw [e1]; decide, big _ (by omega), big _ (by rw [sap_len, e1]; omega), big _ (by rw [sap_len, sap_len, e1, e2]; omega), rfl⟩
theorem ok_grouptext {f : Addr} {fd : FuncData} {d k : Nat} (F : Fun K "text" "Group.text" sGroupText f fd) (N : NFacts K c) (g : Dfn P w K mg base CX0 k "_texts_of" ["parts"] (spTextsOf K c d)) : FnOk P w K mg base CX0 (k + 1) f fd ["self"] (spText c (d + 1) c.G) := by
  obtain ⟨fO, dO, mO, kO, bO, GO⟩ := g
  refine F.ok scGroupText (fun vs H Q E h => ?_) (fun cdv A outer s H vs Q E hr h => ?_)
  · obtain ⟨p, s, dx, fs, rfl, _⟩ := h
    rfl
  · obtain ⟨p, s, dx, fs, rfl, hp, nd, hd, few, k⟩ := h
    refine ⟨_, pss_one (ps_ret (pe_joined (.cons pe_str (.cons (pe_fmt (pe_call GO hr (by rfl) mO kO bO .nil pass0 (pa_cons (pe_fld (pv 0) rfl) pa_nil))) (.cons pe_str .nil))))), ?_⟩
    cases nd with
    | leaf _ dx' n h1 =>
      rw [h1] at hp
      injection (Option.some.inj hp) with e
      exact absurd e N.lg
    | br row _ dx' t L h1 h2 h3 h4 =>
      obtain rfl : row = false := by
        rw [h1] at hp
        injection (Option.some.inj hp) with e
        exact N.inj (a := row) (b := false) e
      obtain ⟨b1, b2, b3, b4, et⟩ := txt_js few
      have fl : Sh.tlenL (L.map (·.2)) ≤ 100000 := by rw [Sh.tlen] at few; omega
      rw [Sh.depth] at hd
      rw [← et] at k
      exact ⟨_, rfl, b1, _, rfl, p, c.G, dx', _, _, rfl, h1, N.cl _ (c.of_D false), N.parts false, lookS _ _, t, L, rfl, SqT.of h2, fun q hq => ⟨h4 q hq, by have := depth_mem (List.mem_map_of_mem (f := (·.2)) hq); omega⟩, fl, fun H1 s1 => .inl ⟨_, rfl, b2, _, rfl, b3, _, rfl, b4, k H1 s1⟩⟩
theorem ok_rowtext {f : Addr} {fd : FuncData} {d k : Nat} (F : Fun K "text" "Row.text" sRowText f fd) (N : NFacts K c) (g : Dfn P w K mg base CX0 k "_texts_of" ["parts"] (spTextsOf K c d)) : FnOk P w K mg base CX0 (k + 1) f fd ["self"] (spText c (d + 1) c.R) := by
  obtain ⟨fO, dO, mO, kO, bO, GO⟩ := g
  refine F.ok scRowText (fun vs H Q E h => ?_) (fun cdv A outer s H vs Q E hr h => ?_)
  · obtain ⟨p, s, dx, fs, rfl, _⟩ := h
    rfl
  · obtain ⟨p, s, dx, fs, rfl, hp, nd, hd, few, k⟩ := h
    refine ⟨_, pss_one (ps_ret (pe_joined (.cons pe_str (.cons (pe_fmt (pe_call GO hr (by rfl) mO kO bO .nil pass0 (pa_cons (pe_fld (pv 0) rfl) pa_nil))) (.cons pe_str .nil))))), ?_⟩
    cases nd with
    | leaf _ dx' n h1 =>
      rw [h1] at hp
      injection (Option.some.inj hp) with e
      exact absurd e N.lr
    | br row _ dx' t L h1 h2 h3 h4 =>
      obtain rfl : row = true := by
        rw [h1] at hp
        injection (Option.some.inj hp) with e
        exact N.inj (a := row) (b := true) e
      obtain ⟨b1, b2, b3, b4, et⟩ := txt_js few
      have fl : Sh.tlenL (L.map (·.2)) ≤ 100000 := by rw [Sh.tlen] at few; omega
      rw [Sh.depth] at hd
      rw [← et] at k
      exact ⟨_, rfl, b1, _, rfl, p, c.R, dx', _, _, rfl, h1, N.cl _ (c.of_D true), N.parts true, lookS _ _, t, L, rfl, SqT.of h2, fun q hq => ⟨h4 q hq, by have := depth_mem (List.mem_map_of_mem (f := (·.2)) hq); omega⟩, fl, fun H1 s1 => .inl ⟨_, rfl, b2, _, rfl, b3, _, rfl, b4, k H1 s1⟩⟩
end
end Dl

/-! nodes: their shape -/
namespace Dl
open PySem PySem.Spec PyProof.Rows L2
structure NKind (K : PySem.W.Frag) (c : NCls) : Prop where
  kind : ∀ row, ∃ u, Con K (c.of row) "KIND" (.str (kindS row)) u
def spShapeN (c : NCls) (d : Nat) (C : Addr) : Sp := fun vs H Q _ => ∃ p s dx fs, vs = [.ref p] ∧ H p = some (.ins C dx fs) ∧ NodeAt c H p s ∧ s.depth ≤ d ∧ s.tlen ≤ 100000 ∧ ∀ H' v, Same H H' → ShAt H' v s → Q v H'
section
variable {P : Program} {w : World} {K : PySem.W.Frag} {mg : Str → Option Value} {base : Heap} {c : NCls}
theorem scLeafShape : FnScope ["self"] ["self"] (defScope sLeafShape) := ⟨rfl, rfl, rfl, by decide +kernel, rfl, by decide +kernel, by decide +kernel⟩
theorem ok_leafshape {f : Addr} {fd : FuncData} (F : Fun K "shape" "Leaf.shape" sLeafShape f fd) (N : NFacts K c) (d : Nat) : FnOk P w K mg base CX0 1 f fd ["self"] (spShapeN c d c.L) := by
  refine F.ok scLeafShape (fun vs H Q E h => ?_) (fun cdv A outer s H vs Q E hr h => ?_)
  · obtain ⟨p, s, dx, fs, rfl, _⟩ := h
    rfl
  · obtain ⟨p, s, dx, fs, rfl, hp, nd, _, _, k⟩ := h
    refine ⟨_, pss_one (ps_ret (pe_fld (pv 0) rfl)), ?_⟩
    cases nd with
    | br row _ dx' t L h1 _ _ _ =>
      rw [h1] at hp
      injection (Option.some.inj hp) with e
      exact absurd e (N.lof row)
    | leaf _ dx' n h1 => exact ⟨_, rfl, p, c.L, dx', _, _, rfl, h1, N.cl _ (.inl rfl), N.name, lookS _ _, k H _ (fun _ _ e => e) (.leaf n)⟩
theorem scGroupShape : FnScope ["self", "part"] ["self"] (defScope sGroupShape) := ⟨rfl, rfl, rfl, by decide +kernel, rfl, by decide +kernel, by decide +kernel⟩
theorem ok_groupshape {f : Addr} {fd : FuncData} {d k : Nat} (F : Fun K "shape" "Group.shape" sGroupShape f fd) (N : NFacts K c) (NK : NKind K c) (hD : ∀ C, c.D C → HasM P w K mg base CX0 k "shape" ["self"] (spShapeN c d) C) : FnOk P w K mg base CX0 (k + 1) f fd ["self"] (spShapeN c (d + 1) c.G) := by
  refine F.ok scGroupShape (fun vs H Q E h => ?_) (fun cdv A outer s H vs Q E hr h => ?_)
  · obtain ⟨p, s, dx, fs, rfl, _⟩ := h
    rfl
  · obtain ⟨p, s, dx, fs, rfl, hp, nd, hd, few, k⟩ := h
    refine ⟨_, pss_one (ps_ret (pe_tup (pa_cons (pe_con (pv 0) rfl) (StX.pa_star
      (pe_lc (own := [("part", 1)]) (g := gName 1) (tt := tYes) (te := tMethD c.D "shape" (spShapeN c d) E0 (tVar 1) tNil) rfl scGroupShape.nd (pi_tup (pe_fld (pv 0) rfl))
        (blkOk_by (N := ["self", "part"]) (sc := defScope sGroupShape) (by decide +kernel)) (fun _ _ _ _ _ => pg_name (i := 1) scGroupShape.nd rfl (Or.inl rfl)) (fun _ _ _ _ _ => pts_nil)
        (fun _ _ _ _ _ => by exact pe_methD0 (pv 1) hD hr pass0)) pa_nil)))), ?_⟩
    cases nd with
    | leaf _ dx' n h1 =>
      rw [h1] at hp
      injection (Option.some.inj hp) with e
      exact absurd e N.lg
    | br row _ dx' t L h1 h2 h3 h4 =>
      obtain rfl : row = false := by
        rw [h1] at hp
        injection (Option.some.inj hp) with e
        exact N.inj (a := row) (b := false) e
      obtain ⟨u, hcon⟩ := NK.kind false
      have fl : Sh.tlenL (L.map (·.2)) ≤ 100000 := by rw [Sh.tlen] at few; omega
      have ln := tlen_len (L.map (·.2))
      rw [List.length_map] at ln
      rw [Sh.depth] at hd
      have big : ∀ n : Nat, n ≤ 100001 → n < sizeLine := fun n h => Nat.lt_of_le_of_lt h (by decide)
      refine ⟨_, rfl, p, c.G, dx', _, _, u, rfl, h1, N.cl _ (c.of_D false), hcon, lookN (by decide +kernel), _, rfl, p, c.G, dx', _, _, rfl, h1, N.cl _ (c.of_D false), N.parts false, lookS _ _, t, rfl, ⟨_, SqT.of h2⟩, fun D hD0 =>
        lc_it (walk_tup (K := K) (a := t) (xs := L.map fun q => V.ref q.1)) (fun i H' => Same H H' ∧ ∃ M : List (V × Sh), H' D = some (.lst (M.map (·.1))) ∧ (∀ q ∈ M, ShAt H' q.1 q.2) ∧ M.map (·.2) = (L.map (·.2)).take i) ⟨Same.upd_new hD0, [], upd_same, fun q h => absurd h (by simp), rfl⟩ (fun i H' _ ⟨s, _⟩ => SqT.of (s _ _ h2)) ?_ ?_⟩
      · rintro i v H1 H2 hi ⟨s1, M, hl, hM, eM⟩ ⟨rfl, hv⟩
        obtain ⟨q, hq, hqm, rfl⟩ := nd_at hv
        obtain ⟨C, dy, fn, fv, hi1, dC, fe⟩ := ((h4 q hqm).of s1).ins
        have dm := depth_mem (List.mem_map_of_mem (f := (·.2)) hqm)
        have tp := tlen_part (List.mem_map_of_mem (f := (·.2)) hqm)
        refine ⟨rfl, _, rfl, q.1, C, dy, _, rfl, hi1, dC, lookN (by rcases fe with rfl | rfl <;> decide +kernel), q.1, q.2, dy, _, rfl, hi1, (h4 q hqm).of s1, by omega, by omega, fun H3 v s3 hv3 => ?_⟩
        have hl3 := s3 _ _ hl
        have sB : SameB D H3 (L2.upd H3 D (.lst (M.map (·.1) ++ [v]))) := SameB.upd
        have lenM : M.length ≤ L.length := by
          have := congrArg List.length eM
          rw [List.length_map, List.length_take, List.length_map] at this
          omega
        refine ⟨_, hl3, by rw [List.length_map]; exact big _ (by omega), fun b o e => ?_, M ++ [(v, q.2)], by rw [upd_same, List.map_append]; rfl, fun z hz => ?_, ?_⟩
        · rw [upd_ne (ne_of_none e hD0)]
          exact s3 _ _ (s1 _ _ e)
        · rcases List.mem_append.mp hz with hz | hz
          · exact ((hM z hz).of s3).ofB hl3 sB
          · rw [List.mem_singleton.mp hz]
            exact hv3.ofB hl3 sB
        · rw [List.map_append, eM, take_one (show (L.map (·.2))[i]? = some q.2 by rw [List.getElem?_map, hq]; rfl)]
          rfl
      · rintro H1 ⟨s1, M, hl, hM, eM⟩
        rw [List.length_map, show L.length = (L.map (·.2)).length by rw [List.length_map], List.take_length] at eM
        have lenM : M.length = L.length := by
          have := congrArg List.length eM
          rwa [List.length_map, List.length_map] at this
        refine ⟨D, _, rfl, .inr (SqL.of hl), Nat.le_of_lt (big _ (by rw [List.length_cons, List.length_append, List.length_map, List.length_nil]; omega)), fun a ha => ?_⟩
        rw [List.append_nil]
        refine k _ _ (s1.trans (Same.upd_new ha)) ?_
        rw [← eM]
        exact .br false a M upd_same fun z hz => (hM z hz).of (Same.upd_new ha)
theorem scRowShape : FnScope ["self", "part"] ["self"] (defScope sRowShape) := ⟨rfl, rfl, rfl, by decide +kernel, rfl, by decide +kernel, by decide +kernel⟩
theorem ok_rowshape {f : Addr} {fd : FuncData} {d k : Nat} (F : Fun K "shape" "Row.shape" sRowShape f fd) (N : NFacts K c) (NK : NKind K c) (hD : ∀ C, c.D C → HasM P w K mg base CX0 k "shape" ["self"] (spShapeN c d) C) : FnOk P w K mg base CX0 (k + 1) f fd ["self"] (spShapeN c (d + 1) c.R) := by
  refine F.ok scRowShape (fun vs H Q E h => ?_) (fun cdv A outer s H vs Q E hr h => ?_)
  · obtain ⟨p, s, dx, fs, rfl, _⟩ := h
    rfl
  · obtain ⟨p, s, dx, fs, rfl, hp, nd, hd, few, k⟩ := h
    refine ⟨_, pss_one (ps_ret (pe_tup (pa_cons (pe_con (pv 0) rfl) (StX.pa_star
      (pe_lc (own := [("part", 1)]) (g := gName 1) (tt := tYes) (te := tMethD c.D "shape" (spShapeN c d) E0 (tVar 1) tNil) rfl scRowShape.nd (pi_tup (pe_fld (pv 0) rfl))
        (blkOk_by (N := ["self", "part"]) (sc := defScope sRowShape) (by decide +kernel)) (fun _ _ _ _ _ => pg_name (i := 1) scRowShape.nd rfl (Or.inl rfl)) (fun _ _ _ _ _ => pts_nil)
        (fun _ _ _ _ _ => by exact pe_methD0 (pv 1) hD hr pass0)) pa_nil)))), ?_⟩
    cases nd with
    | leaf _ dx' n h1 =>
      rw [h1] at hp
      injection (Option.some.inj hp) with e
      exact absurd e N.lr
    | br row _ dx' t L h1 h2 h3 h4 =>
      obtain rfl : row = true := by
        rw [h1] at hp
        injection (Option.some.inj hp) with e
        exact N.inj (a := row) (b := true) e
      obtain ⟨u, hcon⟩ := NK.kind true
      have fl : Sh.tlenL (L.map (·.2)) ≤ 100000 := by rw [Sh.tlen] at few; omega
      have ln := tlen_len (L.map (·.2))
      rw [List.length_map] at ln
      rw [Sh.depth] at hd
      have big : ∀ n : Nat, n ≤ 100001 → n < sizeLine := fun n h => Nat.lt_of_le_of_lt h (by decide)
      refine ⟨_, rfl, p, c.R, dx', _, _, u, rfl, h1, N.cl _ (c.of_D true), hcon, lookN (by decide +kernel), _, rfl, p, c.R, dx', _, _, rfl, h1, N.cl _ (c.of_D true), N.parts true, lookS _ _, t, rfl, ⟨_, SqT.of h2⟩, fun D hD0 =>
        lc_it (walk_tup (K := K) (a := t) (xs := L.map fun q => V.ref q.1)) (fun i H' => Same H H' ∧ ∃ M : List (V × Sh), H' D = some (.lst (M.map (·.1))) ∧ (∀ q ∈ M, ShAt H' q.1 q.2) ∧ M.map (·.2) = (L.map (·.2)).take i) ⟨Same.upd_new hD0, [], upd_same, fun q h => absurd h (by simp), rfl⟩ (fun i H' _ ⟨s, _⟩ => SqT.of (s _ _ h2)) ?_ ?_⟩
      · rintro i v H1 H2 hi ⟨s1, M, hl, hM, eM⟩ ⟨rfl, hv⟩
        obtain ⟨q, hq, hqm, rfl⟩ := nd_at hv
        obtain ⟨C, dy, fn, fv, hi1, dC, fe⟩ := ((h4 q hqm).of s1).ins
        have dm := depth_mem (List.mem_map_of_mem (f := (·.2)) hqm)
        have tp := tlen_part (List.mem_map_of_mem (f := (·.2)) hqm)
        refine ⟨rfl, _, rfl, q.1, C, dy, _, rfl, hi1, dC, lookN (by rcases fe with rfl | rfl <;> decide +kernel), q.1, q.2, dy, _, rfl, hi1, (h4 q hqm).of s1, by omega, by omega, fun H3 v s3 hv3 => ?_⟩
        have hl3 := s3 _ _ hl
        have sB : SameB D H3 (L2.upd H3 D (.lst (M.map (·.1) ++ [v]))) := SameB.upd
        have lenM : M.length ≤ L.length := by
          have := congrArg List.length eM
          rw [List.length_map, List.length_take, List.length_map] at this
          omega
        refine ⟨_, hl3, by rw [List.length_map]; exact big _ (by omega), fun b o e => ?_, M ++ [(v, q.2)], by rw [upd_same, List.map_append]; rfl, fun z hz => ?_, ?_⟩
        · rw [upd_ne (ne_of_none e hD0)]
          exact s3 _ _ (s1 _ _ e)
        · rcases List.mem_append.mp hz with hz | hz
          · exact ((hM z hz).of s3).ofB hl3 sB
          · rw [List.mem_singleton.mp hz]
            exact hv3.ofB hl3 sB
        · rw [List.map_append, eM, take_one (show (L.map (·.2))[i]? = some q.2 by rw [List.getElem?_map, hq]; rfl)]
          rfl
      · rintro H1 ⟨s1, M, hl, hM, eM⟩
        rw [List.length_map, show L.length = (L.map (·.2)).length by rw [List.length_map], List.take_length] at eM
        have lenM : M.length = L.length := by
          have := congrArg List.length eM
          rwa [List.length_map, List.length_map] at this
        refine ⟨D, _, rfl, .inr (SqL.of hl), Nat.le_of_lt (big _ (by rw [List.length_cons, List.length_append, List.length_map, List.length_nil]; omega)), fun a ha => ?_⟩
        rw [List.append_nil]
        refine k _ _ (s1.trans (Same.upd_new ha)) ?_
        rw [← eM]
        exact .br true a M upd_same fun z hz => (hM z hz).of (Same.upd_new ha)
end
end Dl

/-! the node of a shape -/
namespace Dl
open PySem PySem.Spec PyProof.Rows L2
theorem NodeAt.imp {c : NCls} {H H' : Hp} {p : Addr} {s : Sh} (h : NodeAt c H p s) (k : ∀ a o, H a = some o → (∀ xs, o ≠ .lst xs) → H' a = some o) : NodeAt c H' p s := by
  induction h with
  | leaf p dx n h => exact .leaf p dx n (k _ _ h (fun _ e => by cases e))
  | br row p dx t L h1 h2 nd _ ih => exact .br row p dx t L (k _ _ h1 (fun _ e => by cases e)) (k _ _ h2 (fun _ e => by cases e)) nd ih
theorem node_made {c : NCls} {H : Hp} {row : Bool} {x dx p : Addr} {L : Parts} (hx : H x = none) (hdx : H dx = none) (ne : dx ≠ x) (hp : upd (upd H dx (.own x)) x (.ins (c.of row) dx []) p = none) (nd : (L.map (·.1)).Nodup) (at_ : ∀ q ∈ L, NodeAt c H q.1 q.2) :
    Same H (upd (upd (upd (upd H dx (.own x)) x (.ins (c.of row) dx [])) p (.tup (L.map fun q => V.ref q.1))) x (.ins (c.of row) dx [("parts", .ref p)])) ∧
    NodeAt c (upd (upd (upd (upd H dx (.own x)) x (.ins (c.of row) dx [])) p (.tup (L.map fun q => V.ref q.1))) x (.ins (c.of row) dx [("parts", .ref p)])) x (.br row (L.map (·.2))) := by
  have npx : p ≠ x := fun e => by rw [e, upd_same] at hp; cases hp
  have s : Same H (upd (upd (upd (upd H dx (.own x)) x (.ins (c.of row) dx [])) p (.tup (L.map fun q => V.ref q.1))) x (.ins (c.of row) dx [("parts", .ref p)])) := fun a o e => by
    rw [upd_ne (ne_of_none e hx)]
    by_cases q : a = p
    · subst q
      rw [upd_ne npx] at hp
      by_cases q2 : a = dx
      · rw [q2, hdx] at e; cases e
      · rw [upd_ne q2] at hp; rw [hp] at e; cases e
    · rw [upd_ne q, upd_ne (ne_of_none e hx), upd_ne (ne_of_none e hdx)]
      exact e
  exact ⟨s, .br row x dx p L upd_same (by rw [upd_ne npx, upd_same]) nd fun q hq => (at_ q hq).of s⟩
theorem under {H : Hp} {x p : Addr} {o u : HO} (h : upd H x o p = none) : upd (upd H x o) p u x = some o := by
  rw [upd_ne (fun e => by rw [← e, upd_same] at h; cases h), upd_same]
theorem two_of {α : Type} {l : List α} (h : l.length = 2) : ∃ a b, l = [a, b] := by
  match l, h with
  | [a, b], _ => exact ⟨a, b, rfl⟩
theorem three_of {α : Type} {l : List α} (h : l.length = 3) : ∃ a b c, l = [a, b, c] := by
  match l, h with
  | [a, b, c], _ => exact ⟨a, b, c, rfl⟩
theorem four_of {α : Type} {l : List α} (h : l.length = 4) : ∃ a b c d, l = [a, b, c, d] := by
  match l, h with
  | [a, b, c, d], _ => exact ⟨a, b, c, d, rfl⟩
def spLeafInit (c : NCls) : Sp := fun vs H Q _ => ∃ x v dx, vs = [.ref x, v] ∧ H x = some (.ins c.L dx []) ∧ Q .non (upd H x (.ins c.L dx [("name", v)]))
def spBranch (C : Addr) : Sp := fun vs H Q _ => ∃ x p dx, vs = [.ref x, .ref p] ∧ H x = some (.ins C dx []) ∧ Q .non (upd H x (.ins C dx [("parts", .ref p)]))
def spStar1 (sp : Sp) : Sp := fun vs H Q E => ∃ ws rest, vs = ws ++ rest ∧ ws.length = 1 ∧ rest.length ≤ sizeLine ∧ ∀ p, H p = Option.none → sp (ws ++ [V.ref p]) (upd H p (.tup rest)) Q E
def spNode (c : NCls) (d : Nat) : Sp := fun vs H Q _ => ∃ v s, vs = [v] ∧ ShAt H v s ∧ s.Ok ∧ s.depth ≤ d ∧ (∀ z ∈ s.leaves, z.length ≤ 12) ∧ ∀ H' p, Same H H' → H p = none → NodeAt c H' p s → Q (.ref p) H'
structure TxtNo (K : PySem.W.Frag) (mg : Str → Option Value) (c : NCls) : Prop where
  isinstance : mg "isinstance" = none
  str : mg "str" = none
  len : mg "len" = none
  gL : mg "Leaf" = some (.ref c.L)
  gG : mg "Group" = some (.ref c.G)
  gR : mg "Row" = some (.ref c.R)
theorem cut_one (xs : List V) : cutV xs (some 1) none = xs.drop 1 := by
  unfold cutV
  show (xs.drop (HT.sIx xs.length 0 (some ((1 : Nat) : Int)))).take (HT.sIx xs.length xs.length none - HT.sIx xs.length 0 (some ((1 : Nat) : Int))) = _
  rw [HT.sIx_nat, HT.sIx_none]
  by_cases h : 1 ≤ xs.length
  · rw [Nat.min_eq_left h, List.take_of_length_le (by rw [List.length_drop]; omega)]
  · rw [Nat.min_eq_right (by omega), List.drop_of_length_le (Nat.le_refl _), List.drop_of_length_le (by omega)]
    simp
section
variable {P : Program} {w : World} {K : PySem.W.Frag} {mg : Str → Option Value} {base : Heap} {c : NCls}
theorem scLeafInit : FnScope ["self", "name"] ["self", "name"] (defScope sLeafInit) := ⟨rfl, rfl, rfl, by decide +kernel, rfl, by decide +kernel, by decide +kernel⟩
theorem ok_leafinit {f : Addr} {fd : FuncData} (F : Fun K "__init__" "Leaf.__init__" sLeafInit f fd) (N : NFacts K c) : FnOk P w K mg base CX0 1 f fd ["self", "name"] (spLeafInit c) := by
  refine F.ok scLeafInit (fun vs H Q E h => ?_) (fun cdv A outer s H vs Q E hr h => ?_)
  · obtain ⟨x, v, dx, rfl, _⟩ := h
    rfl
  · obtain ⟨x, v, dx, rfl, hx, k⟩ := h
    exact ⟨_, pss_one (ps_fld (pv 0) (pv 1) rfl), _, rfl, _, rfl, x, c.L, dx, [], rfl, hx, N.cl _ (.inl rfl), N.name, by decide, k⟩
theorem scBranch : FnScope ["self", "parts"] ["self", "parts"] (defScope sBranchInit) := ⟨rfl, rfl, rfl, by decide +kernel, rfl, by decide +kernel, by decide +kernel⟩
theorem ok_branch {f : Addr} {fd : FuncData} (F : Fun K "__init__" "Branch.__init__" sBranchInit f fd) (N : NFacts K c) (row : Bool) : FnR P w K mg base (L2.CX P w) 1 f (spStar1 (spBranch (c.of row))) := by
  obtain ⟨oc, od, kV, doc, pm, an, cdv, ct, osl, rfl, lk, hcd⟩ := F.ex
  refine StX.fn_star (k := 0) (ps := ["self"]) (pv := "parts") lk hcd scBranch StX.cxUp (StX.bind_star1 (B := fun us => bindArgs _ ⟨us, []⟩) (fun _ => by rfl) (fun _ _ _ => by rfl)) (fun A outer s H vs Q E hr h => ?_)
  obtain ⟨x, p, dx, rfl, hx, k⟩ := h
  exact ⟨_, pss_one (ps_fld (pv 0) (pv 1) rfl), _, rfl, _, rfl, x, c.of row, dx, [], rfl, hx, N.cl _ (c.of_D row), N.parts row, by decide, k⟩
theorem scNode : FnScope ["_law_shape_here", "_law_parts", "_law_part"] ["_law_shape_here"] (defScope sLawNode) := ⟨rfl, rfl, rfl, by decide +kernel, rfl, by decide +kernel, by decide +kernel⟩
theorem ok_node {f : Addr} {fd : FuncData} (F : Fun K "_law_node" "_law_node" sLawNode f fd) (T : TxtNo K mg c) (N : NFacts K c)
    (iL : ∃ fL fdL, Mk K c.L fL ∧ Binds K fdL ["self", "name"] [] ∧ FnOk P w K mg base CX0 1 fL fdL ["self", "name"] (spLeafInit c))
    (iG : ∃ fG, Mk K c.G fG ∧ FnR P w K mg base (L2.CX P w) 1 fG (spStar1 (spBranch (c.of false)))) (iR : ∃ fR, Mk K c.R fR ∧ FnR P w K mg base (L2.CX P w) 1 fR (spStar1 (spBranch (c.of true))))
    (mNode : mg "_law_node" = some (.ref f)) (bNode : Binds K fd ["_law_shape_here"] []) : ∀ d, FnOk P w K mg base CX0 (d + 3) f fd ["_law_shape_here"] (spNode c d) := by
  have all : ∀ d, (∀ e, d = e + 1 → FnOk P w K mg base CX0 (e + 3) f fd ["_law_shape_here"] (spNode c e)) → FnOk P w K mg base CX0 (d + 3) f fd ["_law_shape_here"] (spNode c d) := fun d ih => by
    have kNode := F.kp
    obtain ⟨fL, fdL, ML, bL, GL⟩ := iL
    obtain ⟨fG, MG, GG⟩ := iG
    obtain ⟨fR, MR, GR⟩ := iR
    refine F.ok scNode (fun vs H Q E h => ?_) (fun cdv A outer s H vs Q E hr h => ?_)
    · obtain ⟨v, s, rfl, _⟩ := h
      rfl
    · obtain ⟨v, s, rfl, sv, gd, dp, sm, k⟩ := h
      have hr2 : Room 2 _ := hr.mono (by omega)
      have GNode : FnOk P w K mg base CX0 (d + 2) f fd ["_law_shape_here"] (fun vs H Q E => 1 ≤ d ∧ spNode c (d - 1) vs H Q E) := by
        cases d with
        | zero => exact ⟨fun vs H Q E h => absurd h.1 (by decide), fun A outer s H args us vs Q E hr he hb hv hs => absurd hs.1 (by decide)⟩
        | succ e => exact (ih e rfl).imp fun vs H Q E h => h.2
      have hrN : Room (d + 2) _ := hr
      refine ⟨_, (pss_cons (ps_if (pt_val (pe_callB call_isi (by rfl) T.isinstance (by decide +kernel) (pa_cons (pv 0) (pa_cons (pe_bltn (v := .ty "str") (by rfl) T.str (by decide +kernel) rfl) pa_nil)))) (pss_one (ps_ret (pe_make ML GL hr2 (by rfl) T.gL bL .nil pass0 (pa_cons (pv 0) pa_nil)))) pss_nil)
        (pss_cons (ps_setLc (i := 1) (own := [("_law_part", 2)]) (g := gName 2) (tt := tYes) rfl scNode.nd rfl rfl (sw_true rfl rfl rfl (by decide +kernel)) (pi_tup (pe_slice sl_tup (pv 0) (po_some pe_int) po_none)) (blkOk_by (N := ["_law_shape_here", "_law_parts", "_law_part"]) (sc := defScope sLawNode) (by decide +kernel)) (fun _ _ _ _ _ => (pg_name (i := 2) scNode.nd rfl (Or.inl rfl))) (fun _ _ _ _ _ => pts_nil) (fun _ _ _ _ _ => (pe_call GNode hrN (by rfl) mNode kNode bNode .nil pass0 (pa_cons (pv 2) pa_nil))))
        (pss_cons (ps_if (pt_cmpR op_eq (pe_callB call_len_seq (by rfl) T.len PySem.boot_len (pa_cons (pv 1) pa_nil)) pe_int (nomark _)) (pss_one (ps_ret (StX.pe_makeR MG GG hr2 (by rfl) T.gG passL (pa_cons (pe_ix ix_list (pv 1) pe_int (fun _ _ => rfl)) (pa_cons (pe_ix ix_list (pv 1) pe_int (fun _ _ => rfl)) pa_nil))))) pss_nil)
        (pss_cons (ps_if (PW.pt (pw_and (pt_cmpR op_eq (pe_callB call_len_seq (by rfl) T.len PySem.boot_len (pa_cons (pv 1) pa_nil)) pe_int (nomark _)) (pw_and1 (pt_cmpR op_eq (pe_ix ix_tup (pv 0) pe_int (fun _ _ => rfl)) pe_str (nomark _))))) (pss_one (ps_ret (StX.pe_makeR MR GR hr2 (by rfl) T.gR passL (pa_cons (pe_ix ix_list (pv 1) pe_int (fun _ _ => rfl)) (pa_cons (pe_ix ix_list (pv 1) pe_int (fun _ _ => rfl)) (pa_cons (pe_ix ix_list (pv 1) pe_int (fun _ _ => rfl)) pa_nil)))))) pss_nil)
        (pss_cons (ps_if (pt_cmpR op_eq (pe_callB call_len_seq (by rfl) T.len PySem.boot_len (pa_cons (pv 1) pa_nil)) pe_int (nomark _)) (pss_one (ps_ret (StX.pe_makeR MG GG hr2 (by rfl) T.gG passL (pa_cons (pe_ix ix_list (pv 1) pe_int (fun _ _ => rfl)) (pa_cons (pe_ix ix_list (pv 1) pe_int (fun _ _ => rfl)) (pa_cons (pe_ix ix_list (pv 1) pe_int (fun _ _ => rfl)) pa_nil)))))) pss_nil)
        (pss_cons (ps_if (pt_cmpR op_eq (pe_ix ix_tup (pv 0) pe_int (fun _ _ => rfl)) pe_str (nomark _)) (pss_one (ps_ret (StX.pe_makeR MR GR hr2 (by rfl) T.gR passL (pa_cons (pe_ix ix_list (pv 1) pe_int (fun _ _ => rfl)) (pa_cons (pe_ix ix_list (pv 1) pe_int (fun _ _ => rfl)) (pa_cons (pe_ix ix_list (pv 1) pe_int (fun _ _ => rfl)) (pa_cons (pe_ix ix_list (pv 1) pe_int (fun _ _ => rfl)) pa_nil))))))) pss_nil)
        (pss_one (ps_ret (StX.pe_makeR MG GG hr2 (by rfl) T.gG passL (pa_cons (pe_ix ix_list (pv 1) pe_int (fun _ _ => rfl)) (pa_cons (pe_ix ix_list (pv 1) pe_int (fun _ _ => rfl)) (pa_cons (pe_ix ix_list (pv 1) pe_int (fun _ _ => rfl)) (pa_cons (pe_ix ix_list (pv 1) pe_int (fun _ _ => rfl)) pa_nil))))))))))))), ?_⟩
      cases sv with
      | leaf n =>
        have sn : n.length ≤ 12 := sm n (by rw [Sh.leaves]; exact List.mem_singleton.mpr rfl)
        refine ⟨_, rfl, .str n, _, _, _, true, rfl, ClsV.ty "str", .base (.str n), kit_ty (by decide +kernel), true, rfl, iteT ?_⟩
        refine ⟨_, rfl, fun x dx hx hdx ndx => ⟨x, .str n, dx, rfl, upd_same, rfl, ?_⟩⟩
        refine k _ x (fun a o e => ?_) hx (.leaf x dx n upd_same)
        rw [upd_ne (ne_of_none e hx), upd_ne (ne_of_none e hx), upd_ne (ne_of_none e hdx)]
        exact e
      | br row a L h1 h2 =>
        refine ⟨_, rfl, .ref a, _, _, _, false, rfl, ClsV.ty "str", .base (.tup h1), kit_ty (by decide +kernel), false, rfl, iteF ?_⟩
        cases gd with
        | br _ _ l2 l4 l3 hp =>
        rw [List.length_map] at l2 l4 l3
        rw [Sh.depth] at dp
        rw [leaves_br] at sm
        refine ⟨_, rfl, _, rfl, a, _, rfl, SqT.of h1, ?_, fun sl hsl => ?_⟩
        · rintro ⟨e, _⟩
          have : HT.sIx (V.str (kindS row) :: L.map (·.1)).length 0 (some ((1 : Nat) : Int)) = 0 := e
          rw [HT.sIx_nat, List.length_cons] at this
          omega
        rw [cut_one, List.drop_succ_cons, List.drop_zero]
        have s1 := Same.upd_new hsl (o := .tup (L.map (·.1)))
        have hsl1 := upd_same (H := H) (a := sl) (o := .tup (L.map (·.1)))
        have h2 := fun q hq => (h2 q hq).of s1
        generalize upd H sl (.tup (L.map (·.1))) = H1 at *
        refine ⟨sl, rfl, ⟨_, SqT.of hsl1⟩, fun D hD => lc_it (walk_tup (K := K) (a := sl) (xs := L.map (·.1))) (fun i H' => ∃ M : Parts, H' D = some (.lst (M.map fun q => V.ref q.1)) ∧ Same H1 H' ∧ (M.map (·.1)).Nodup ∧ (∀ q ∈ M, NodeAt c H' q.1 q.2) ∧ M.map (·.2) = (L.map (·.2)).take i)
          ⟨[], upd_same, Same.upd_new hD, by simp, (fun q hq => absurd hq (by simp)), rfl⟩ (fun i H' _ ⟨_, _, s, _⟩ => SqT.of (s _ _ hsl1)) ?_ ?_⟩
        · rintro i v H2 H3 hi ⟨M, hD2, s2, nd, at_, ek⟩ ⟨rfl, hv⟩
          obtain ⟨q, hq, rfl⟩ : ∃ q, L[i]? = some q ∧ v = q.1 := by
            rw [List.getElem?_map] at hv
            cases e : L[i]? with
            | none => rw [e] at hv; cases hv
            | some q => rw [e] at hv; exact ⟨q, rfl, (Option.some.inj hv).symm⟩
          have hqm := List.mem_of_getElem? hq
          have dq := depth_mem (List.mem_map_of_mem (f := (·.2)) hqm)
          refine ⟨rfl, _, rfl, by omega, q.1, q.2, rfl, (h2 q hqm).of s2, hp _ (List.mem_map_of_mem hqm), by omega, fun z hz => sm z (List.mem_flatMap.mpr ⟨q.2, List.mem_map_of_mem hqm, hz⟩), fun H4 p s4 hp4 nd4 => ?_⟩
          have hD4 := s4 _ _ hD2
          have keep : ∀ a o, H4 a = some o → (∀ xs, o ≠ .lst xs) → upd H4 D (.lst (M.map (fun q => V.ref q.1) ++ [V.ref p])) a = some o := fun a o e n => by
            rw [upd_ne (by intro q; rw [q, hD4] at e; exact n _ (Option.some.inj e).symm)]
            exact e
          refine ⟨_, hD4, ?_, M ++ [(p, q.2)], ?_, fun b o e => ?_, ?_, fun r hr => ?_, ?_⟩
          · have := congrArg List.length ek
            rw [List.length_map, List.length_take, List.length_map] at this
            rw [List.length_map]
            exact small1000 (by omega)
          · rw [upd_same, List.map_append]
            rfl
          · rw [upd_ne (ne_of_none e hD)]
            exact s4 _ _ (s2 _ _ e)
          · rw [List.map_append]
            refine List.nodup_append.mpr ⟨nd, by simp, fun x hx y hy e => ?_⟩
            obtain ⟨r, hr, rfl⟩ := List.mem_map.mp hx
            obtain ⟨C, dx, f, v, e1, _⟩ := (at_ r hr).ins
            have : y = p := by simpa using hy
            rw [e, this, hp4] at e1
            cases e1
          · rcases List.mem_append.mp hr with h | h
            · exact ((at_ r h).of s4).imp keep
            · rw [List.mem_singleton.mp h]; exact nd4.imp keep
          · rw [List.map_append, ek, take_one (show (L.map (·.2))[i]? = some q.2 by rw [List.getElem?_map, hq]; rfl)]
            rfl
        · rintro H2 ⟨M, hD2, s2, nd, at_, ek⟩
          rw [List.length_map, show L.length = (L.map (·.2)).length by rw [List.length_map], List.take_length] at ek
          have hl := congrArg List.length ek
          rw [List.length_map, List.length_map] at hl
          have s12 := s1.trans s2
          have ha2 := s12 _ _ h1
          clear h2 hsl1 hD s2
          rw [← ek] at k
          have fin : ∀ {row' : Bool} {x dx p : Addr}, row' = row → H2 x = none → H2 dx = none → dx ≠ x → upd (upd H2 dx (.own x)) x (.ins (c.of row') dx []) p = none →
              Q (.ref x) (upd (upd (upd (upd H2 dx (.own x)) x (.ins (c.of row') dx [])) p (.tup (M.map fun q => V.ref q.1))) x (.ins (c.of row') dx [("parts", .ref p)])) := fun {row' x dx p} e hx hdx ne hp => by
            subst e
            obtain ⟨s3, n3⟩ := node_made hx hdx ne hp nd at_
            exact k _ x (s12.trans s3) (s12.free hx) n3
          have kind : (V.str (kindS row) = V.str "row") ↔ row = true := by cases row <;> decide
          have i0 : atI (V.str (kindS row) :: L.map (·.1)) 0 = some (.str (kindS row)) := atI_nat (xs := V.str (kindS row) :: L.map (·.1)) (j := 0) rfl
          refine ⟨_, rfl, D, _, rfl, .inl (SqL.of hD2), rfl, _, rfl, ?_⟩
          have ln : ∀ n : Nat, (V.int (((M.map fun q => V.ref q.1).length : Nat) : Int) = V.int (n : Int)) ↔ L.length = n := fun n => by
            rw [List.length_map, hl]
            constructor
            · intro e; injection e with e; omega
            · intro e; rw [e]
          by_cases n2 : L.length = 2
          · refine iteY (decide_eq_true ((ln 2).mpr n2)) ?_
            obtain ⟨p0, p1, rfl⟩ := two_of (hl.trans n2)
            have er : row = false := by
              cases row with
              | false => rfl
              | true => exact absurd (l3 rfl) (by omega)
            exact ⟨_, rfl, D, _, 0, _, rfl, rfl, SqL.of hD2, atI_nat (j := 0) rfl, _, rfl, D, _, 1, _, rfl, rfl, SqL.of hD2, atI_nat (j := 1) rfl, fun x dx hx hdx ne => ⟨[.ref x], _, rfl, rfl, by show 2 ≤ sizeLine; decide, fun p hp => ⟨x, p, dx, rfl, under hp, rfl, fin (row' := false) er.symm hx hdx ne hp⟩⟩⟩
          · refine iteZ (decide_eq_false fun e => n2 ((ln 2).mp e)) ?_
            refine ⟨_, rfl, D, _, rfl, .inl (SqL.of hD2), rfl, _, rfl, ?_⟩
            by_cases n3 : L.length = 3
            · obtain ⟨p0, p1, p2, rfl⟩ := three_of (hl.trans n3)
              refine iteY (decide_eq_true ((ln 3).mpr n3)) ?_
              refine ⟨_, rfl, a, _, 0, _, rfl, rfl, SqT.of ha2, i0, rfl, _, rfl, ?_⟩
              by_cases er : row = true
              · refine iteY (decide_eq_true (kind.mpr er)) ?_
                exact ⟨_, rfl, D, _, 0, _, rfl, rfl, SqL.of hD2, atI_nat (j := 0) rfl, _, rfl, D, _, 1, _, rfl, rfl, SqL.of hD2, atI_nat (j := 1) rfl, _, rfl, D, _, 2, _, rfl, rfl, SqL.of hD2, atI_nat (j := 2) rfl, fun x dx hx hdx ne => ⟨[.ref x], _, rfl, rfl, by show 3 ≤ sizeLine; decide, fun p hp => ⟨x, p, dx, rfl, under hp, rfl, fin (row' := true) er.symm hx hdx ne hp⟩⟩⟩
              · refine iteZ (decide_eq_false fun e => er (kind.mp e)) ?_
                have er : row = false := by cases row with | false => rfl | true => exact absurd rfl er
                refine ⟨_, rfl, D, _, rfl, .inl (SqL.of hD2), rfl, _, rfl, ?_⟩
                refine iteY (decide_eq_true ((ln 3).mpr n3)) ?_
                exact ⟨_, rfl, D, _, 0, _, rfl, rfl, SqL.of hD2, atI_nat (j := 0) rfl, _, rfl, D, _, 1, _, rfl, rfl, SqL.of hD2, atI_nat (j := 1) rfl, _, rfl, D, _, 2, _, rfl, rfl, SqL.of hD2, atI_nat (j := 2) rfl, fun x dx hx hdx ne => ⟨[.ref x], _, rfl, rfl, by show 3 ≤ sizeLine; decide, fun p hp => ⟨x, p, dx, rfl, under hp, rfl, fin (row' := false) er.symm hx hdx ne hp⟩⟩⟩
            · refine iteZ (decide_eq_false fun e => n3 ((ln 3).mp e)) ?_
              refine ⟨_, rfl, D, _, rfl, .inl (SqL.of hD2), rfl, _, rfl, ?_⟩
              refine iteZ (decide_eq_false fun e => n3 ((ln 3).mp e)) ?_
              have n4 : L.length = 4 := by omega
              obtain ⟨p0, p1, p2, p3, rfl⟩ := four_of (hl.trans n4)
              refine ⟨_, rfl, a, _, 0, _, rfl, rfl, SqT.of ha2, i0, rfl, _, rfl, ?_⟩
              by_cases er : row = true
              · refine iteY (decide_eq_true (kind.mpr er)) ?_
                exact ⟨_, rfl, D, _, 0, _, rfl, rfl, SqL.of hD2, atI_nat (j := 0) rfl, _, rfl, D, _, 1, _, rfl, rfl, SqL.of hD2, atI_nat (j := 1) rfl, _, rfl, D, _, 2, _, rfl, rfl, SqL.of hD2, atI_nat (j := 2) rfl, _, rfl, D, _, 3, _, rfl, rfl, SqL.of hD2, atI_nat (j := 3) rfl, fun x dx hx hdx ne => ⟨[.ref x], _, rfl, rfl, by show 4 ≤ sizeLine; decide, fun p hp => ⟨x, p, dx, rfl, under hp, rfl, fin (row' := true) er.symm hx hdx ne hp⟩⟩⟩
              · refine iteZ (decide_eq_false fun e => er (kind.mp e)) ?_
                have er : row = false := by cases row with | false => rfl | true => exact absurd rfl er
                exact ⟨_, rfl, D, _, 0, _, rfl, rfl, SqL.of hD2, atI_nat (j := 0) rfl, _, rfl, D, _, 1, _, rfl, rfl, SqL.of hD2, atI_nat (j := 1) rfl, _, rfl, D, _, 2, _, rfl, rfl, SqL.of hD2, atI_nat (j := 2) rfl, _, rfl, D, _, 3, _, rfl, rfl, SqL.of hD2, atI_nat (j := 3) rfl, fun x dx hx hdx ne => ⟨[.ref x], _, rfl, rfl, by show 4 ≤ sizeLine; decide, fun p hp => ⟨x, p, dx, rfl, under hp, rfl, fin (row' := false) er.symm hx hdx ne hp⟩⟩⟩
  intro d
  induction d with
  | zero => exact all 0 fun e h => absurd h (by omega)
  | succ e ih => exact all (e + 1) fun e' h => Nat.succ.inj h ▸ ih
end
end Dl

/-! the ways to put the parts -/
namespace Dl
open PySem PySem.Spec PyProof.Rows L2
abbrev WayL := List (Addr × List Nat)
def intsV (w : List Nat) : List V := w.map fun k => V.int (k : Nat)
structure WaysIn (H : Hp) (p : Addr) (M : WayL) : Prop where
  lst : H p = some (.lst (M.map fun q => V.ref q.1))
  all : ∀ q ∈ M, H q.1 = some (.lst (intsV q.2))
theorem WaysIn.of {H H' : Hp} {p : Addr} {M : WayL} (h : WaysIn H p M) (s : Same H H') : WaysIn H' p M := ⟨s _ _ h.lst, fun q hq => s _ _ (h.all q hq)⟩
def spWays : Sp := fun vs H Q _ => ∃ (row : Bool) (n : Nat), vs = [.str (kindS row), .int n] ∧ 2 ≤ n ∧ n ≤ 4 ∧ ∀ H' p M, Same H H' → WaysIn H' p M → M.map (·.2) = ways row n → Q (.ref p) H'
structure TxtW (mg : Str → Option Value) : Prop where
  range : mg "range" = none
  list : mg "list" = none
theorem flat_ints (w : List Nat) : (intsV w).all flatV = true := by
  unfold intsV
  rw [List.all_map]
  induction w with
  | nil => rfl
  | cons a r ih => rw [List.all_cons, ih]; rfl
theorem inV_nat {k : Nat} {w : List Nat} : inV (.int k) (intsV w) = decide (k ∈ w) := by
  unfold inV intsV
  rw [List.any_map]
  induction w with
  | nil => simp
  | cons a r ih =>
    rw [List.any_cons, ih]
    have e : ((fun y => eqV y (V.int (k : Nat))) ∘ fun k : Nat => V.int (k : Nat)) a = decide (a = k) := by
      show eqV (V.int (a : Nat)) (V.int (k : Nat)) = decide (a = k)
      unfold eqV
      by_cases h : a = k
      · subst h; simp
      · have : ¬ ((a : Nat) : Int) = ((k : Nat) : Int) := by omega
        simp [h, this]
    rw [e]
    by_cases h : a = k
    · subst h; simp
    · have h2 : ¬ k = a := fun q => h q.symm
      simp [h, h2]
theorem way_at {M : WayL} {i : Nat} {v : V} (h : (M.map fun q => V.ref q.1)[i]? = some v) : ∃ q, M[i]? = some q ∧ q ∈ M ∧ v = .ref q.1 := by
  rw [List.getElem?_map] at h
  cases e : M[i]? with
  | none => rw [e] at h; cases h
  | some q => rw [e] at h; exact ⟨q, rfl, List.mem_of_getElem? e, (Option.some.inj h).symm⟩
theorem waysN_len : ∀ n ≤ 4, ∀ t ≤ n, (waysN n t).length ≤ 24 := by decide +kernel
/-- lists that are kept at D, made since H0 -/
structure WaysOut (H0 H : Hp) (D : Addr) (M : WayL) : Prop where
  same : Same H0 H
  lst : H D = some (.lst (M.map fun q => V.ref q.1))
  all : ∀ q ∈ M, H q.1 = some (.lst (intsV q.2)) ∧ q.1 ≠ D ∧ H0 q.1 = none
  new : H0 D = none
theorem WaysOut.nil {H0 : Hp} {D : Addr} (h : H0 D = none) : WaysOut H0 (upd H0 D (.lst [])) D [] := ⟨Same.upd_new h, upd_same, fun q hq => absurd hq (by simp), h⟩
theorem WaysOut.of {H0 H H' : Hp} {D : Addr} {M : WayL} (h : WaysOut H0 H D M) (s : Same H H') : WaysOut H0 H' D M := ⟨h.same.trans s, s _ _ h.lst, fun q hq => ⟨s _ _ (h.all q hq).1, (h.all q hq).2⟩, h.new⟩
theorem WaysOut.waysIn {H0 H : Hp} {D : Addr} {M : WayL} (h : WaysOut H0 H D M) : WaysIn H D M := ⟨h.lst, fun q hq => (h.all q hq).1⟩
theorem WaysOut.put {H0 H : Hp} {D : Addr} {M N : WayL} (h : WaysOut H0 H D M) (n : ∀ q ∈ N, H q.1 = some (.lst (intsV q.2)) ∧ q.1 ≠ D ∧ H0 q.1 = none) : WaysOut H0 (upd H D (.lst ((M.map fun q => V.ref q.1) ++ N.map fun q => V.ref q.1))) D (M ++ N) := by
  refine ⟨fun a o e => ?_, ?_, fun q hq => ?_, h.new⟩
  · rw [upd_ne (ne_of_none e h.new)]; exact h.same _ _ e
  · rw [upd_same, List.map_append]
  · rcases List.mem_append.mp hq with m | m
    · obtain ⟨a, b, c⟩ := h.all q m
      exact ⟨by rw [upd_ne b]; exact a, b, c⟩
    · obtain ⟨a, b, c⟩ := n q m
      exact ⟨by rw [upd_ne b]; exact a, b, c⟩
/-- the ways that one way becomes -/
def grow (n : Nat) (w : List Nat) : List (List Nat) := ((List.range n).filter fun k => decide (k ∉ w)).map fun k => w ++ [k]
theorem grow_len (n : Nat) (w : List Nat) : (grow n w).length ≤ n := by
  unfold grow
  rw [List.length_map]
  have := List.length_filter_le (fun k => decide (k ∉ w)) (List.range n)
  rwa [List.length_range] at this
section
variable {P : Program} {w : World} {K : PySem.W.Frag} {mg : Str → Option Value} {base : Heap}
theorem scWays : FnScope ["_law_kind", "_law_count", "_law_forward", "_law_found", "_law_turn", "_law_longer", "_law_way", "_law_k"] ["_law_kind", "_law_count"] (defScope sLawWays) := ⟨rfl, rfl, rfl, by decide +kernel, rfl, by decide +kernel, by decide +kernel⟩
theorem ok_ways {f : Addr} {fd : FuncData} (F : Fun K "_law_ways" "_law_ways" sLawWays f fd) (T : TxtW mg) : FnOk P w K mg base CX0 1 f fd ["_law_kind", "_law_count"] spWays := by
  refine F.ok scWays (fun vs H Q E h => ?_) (fun cdv A outer s H vs Q E hr h => ?_)
  · obtain ⟨row, n, rfl, _⟩ := h
    rfl
  · obtain ⟨row, n, rfl, n2, n4, k⟩ := h
    refine ⟨_, (pss_cons (ps_if (pt_cmpR op_eq (pv 0) pe_str (nomark _)) (pss_cons (ps_setLc (i := 2) (own := [("_law_k", 7)]) (g := gName 7) (tt := tYes) rfl scWays.nd rfl rfl (sw_true rfl rfl rfl (by decide +kernel)) (pi_range1 (by rfl) T.range (pa_cons (pv 1) pa_nil)) (blkOk_by (N := ["_law_kind", "_law_count", "_law_forward", "_law_found", "_law_turn", "_law_longer", "_law_way", "_law_k"]) (sc := defScope sLawWays) (by decide +kernel)) (fun _ _ _ _ _ => (pg_name (i := 7) scWays.nd rfl (Or.inl rfl))) (fun _ _ _ _ _ => pts_nil) (fun _ _ _ _ _ => (pv 7)))
        (pss_one (ps_ret (pe_lst (pa_cons (pv 2) (pa_cons (pe_lc (own := [("_law_k", 7)]) (g := gName 7) (tt := tYes) rfl scWays.nd (pi_list (pv 2)) (blkOk_by (N := ["_law_kind", "_law_count", "_law_forward", "_law_found", "_law_turn", "_law_longer", "_law_way", "_law_k"]) (sc := defScope sLawWays) (by decide +kernel)) (fun _ _ _ _ _ => (pg_name (i := 7) scWays.nd rfl (Or.inl rfl))) (fun _ _ _ _ _ => pts_nil) (fun _ _ _ _ _ => (pe_op op_sub (pe_op op_sub (pv 1) pe_int) (pv 7)))) pa_nil)))))) pss_nil)
        (pss_cons (ps_set (i := 3) scWays.nd rfl (Or.inl rfl) (pe_lst (pa_cons (pe_lst pa_nil) pa_nil)))
        (pss_cons (ps_for PassesOwn.never rfl (pi_range1 (by rfl) T.range (pa_cons (pv 1) pa_nil)) (pg_name (i := 4) scWays.nd rfl (Or.inl rfl)) (pss_cons (ps_set (i := 5) scWays.nd rfl (Or.inl rfl) (pe_lst pa_nil))
        (pss_cons (ps_for PassesOwn.never rfl (pi_list (pv 3)) (pg_name (i := 6) scWays.nd rfl (Or.inr rfl)) (pss_one (ps_expr (pe_bm PySem.F.plainAttrs_list PySem.F.slot_list_extend PySem.F.type_list_extend mt_extend (pv 5) (pa_cons (pe_lc (own := [("_law_k", 7)]) (g := gName 7) rfl scWays.nd (pi_range1 (by rfl) T.range (pa_cons (pv 1) pa_nil)) (blkOk_by (N := ["_law_kind", "_law_count", "_law_forward", "_law_found", "_law_turn", "_law_longer", "_law_way", "_law_k"]) (sc := defScope sLawWays) (by decide +kernel)) (fun _ _ _ _ _ => (pg_name (i := 7) scWays.nd rfl (Or.inl rfl))) (fun _ _ _ _ _ => (pts_one (pt_cmpR (by exact op_notIn_seq : OpR _ _ (rIn K true)) (pv 7) (pv 6) (by rfl)))) (fun _ _ _ _ _ => (pe_op op_cat (pv 6) (pe_lst (pa_cons (pv 7) pa_nil))))) pa_nil)))))
        (pss_one (ps_set (i := 3) scWays.nd rfl (Or.inl rfl) (pe_callTy call_list_of (by rfl) T.list (by decide +kernel) (pa_cons (pv 5) pa_nil)))))))
        (pss_one (ps_ret (pv 3)))))), ?_⟩
    refine ⟨_, rfl, rfl, _, rfl, ?_⟩
    have nn : ((n : Nat) : Int).toNat = n := by omega
    cases row with
    | true =>
      refine iteY rfl ?_
      refine ⟨_, rfl, _, rfl, by omega, by omega, fun D hD => lc_range (lo := 0) (n := ((n : Nat) : Int).toNat) (fun i H' => Same H H' ∧ H' D = some (.lst (intsV (List.range i)))) ⟨Same.upd_new hD, upd_same⟩ ?_ ?_⟩
      · rintro i H1 hi ⟨s1, hD1⟩
        rw [nn] at hi
        refine ⟨rfl, _, rfl, _, hD1, ?_, fun b o e => ?_, ?_⟩
        · unfold intsV; rw [List.length_map, List.length_range]; exact small1000 (by omega)
        · rw [upd_ne (ne_of_none e hD)]; exact s1 _ _ e
        · unfold intsV
          rw [upd_same, List.range_succ, List.map_append, Int.zero_add]
          rfl
      · rintro H1 ⟨s1, hD1⟩
        rw [nn] at hD1
        refine ⟨_, rfl, _, rfl, D, rfl, ⟨_, SqL.of hD1⟩, fun G hG => lc_it (walk_list (K := K) (a := D) (xs := intsV (List.range n))) (fun i H' => Same H1 H' ∧ H' G = some (.lst (intsV ((List.range i).map fun k => n - 1 - k)))) ⟨Same.upd_new hG, upd_same⟩ (fun i H' _ ⟨s, _⟩ => SqL.of (s _ _ hD1)) ?_ ?_⟩
        · rintro i v H2 H3 hi ⟨s2, hG2⟩ ⟨rfl, hv⟩
          unfold intsV at hi hv
          rw [List.length_map, List.length_range] at hi
          obtain rfl : v = V.int (i : Nat) := by
            rw [List.getElem?_map, List.getElem?_range hi] at hv
            exact (Option.some.inj hv).symm
          refine ⟨rfl, _, rfl, _, _, rfl, rfl, _, rfl, _, _, rfl, rfl, _, hG2, ?_, fun b o e => ?_, ?_⟩
          · unfold intsV; rw [List.length_map, List.length_map, List.length_range]; exact small1000 (by omega)
          · rw [upd_ne (ne_of_none e hG)]; exact s2 _ _ e
          · have e : (n : Int) - 1 - (i : Nat) = ((n - 1 - i : Nat) : Int) := by omega
            unfold intsV
            rw [upd_same, List.range_succ, List.map_append, List.map_append]
            show some (HO.lst (_ ++ [V.int ((n : Int) - 1 - (i : Nat))])) = _
            rw [e]
            rfl
        · rintro H2 ⟨s2, hG2⟩
          have el : (intsV (List.range n)).length = n := by unfold intsV; rw [List.length_map, List.length_range]
          rw [el] at hG2
          refine ⟨by show 2 ≤ sizeLine; decide, fun p hp => ?_⟩
          have s3 := Same.upd_new hp (o := .lst [V.ref D, .ref G])
          refine k _ p [(D, List.range n), (G, (List.range n).map fun k => n - 1 - k)] (s1.trans (s2.trans s3)) ⟨upd_same, fun q hq => ?_⟩ rfl
          rcases List.mem_cons.mp hq with rfl | hq
          · exact s3 _ _ (s2 _ _ hD1)
          · rw [List.mem_singleton.mp hq]; exact s3 _ _ hG2
    | false =>
      refine iteZ rfl ?_
      refine ⟨Nat.zero_le _, fun e0 he0 => ⟨by show 1 ≤ sizeLine; decide, fun f0 hf0 => ?_⟩⟩
      have s0 := (Same.upd_new he0 (o := .lst [])).trans (Same.upd_new hf0 (o := .lst [V.ref e0]))
      have w0 : WaysIn (upd (upd H e0 (.lst [])) f0 (.lst [V.ref e0])) f0 [(e0, [])] := ⟨upd_same, fun q hq => by
        rw [List.mem_singleton.mp hq]
        exact (Same.upd_new hf0) _ _ upd_same⟩
      generalize upd (upd H e0 (.lst [])) f0 (.lst [V.ref e0]) = H0 at *
      refine ⟨_, rfl, _, rfl, by omega, by omega, for_range (lo := 0) (n := ((n : Nat) : Int).toNat) (fun t σ H' => ∃ fa M x4 x5 x6, σ = [some (.str (kindS false)), some (.int (n : Nat)), none, some (.ref fa), x4, x5, x6, none] ∧ Same H H' ∧ WaysIn H' fa M ∧ M.map (·.2) = waysN n t)
        ⟨f0, _, none, none, none, rfl, s0, w0, rfl⟩ ?_ ?_⟩
      · rintro t σ H1 ht ⟨fa, M, x4, x5, x6, rfl, s1, w1, eM⟩
        rw [nn] at ht
        refine ⟨Nat.zero_le _, fun D hD => ?_⟩
        have wl1 := waysN_len n n4 t (by omega)
        have wl2 := waysN_len n n4 (t + 1) (by omega)
        have eW : waysN n (t + 1) = M.flatMap fun q => grow n q.2 := by
          show (waysN n t).flatMap (grow n) = _
          rw [← eM, List.flatMap_map]
        rw [← eM, List.length_map] at wl1
        refine ⟨_, rfl, fa, rfl, ⟨_, SqL.of ((Same.upd_new hD) _ _ w1.lst)⟩, for_it (walk_list (K := K) (a := fa) (xs := M.map fun q => V.ref q.1)) (fun j σ H' => ∃ M' x6, σ = [some (.str (kindS false)), some (.int (n : Nat)), none, some (.ref fa), some (.int (0 + (t : Nat))), some (.ref D), x6, none] ∧ WaysOut H1 H' D M' ∧ M'.map (·.2) = (M.take j).flatMap fun q => grow n q.2)
          ⟨[], x6, rfl, WaysOut.nil hD, rfl⟩ (fun j σ H' _ ⟨_, _, _, h, _⟩ => SqL.of (h.same _ _ w1.lst)) ?_ ?_⟩
        · rintro j v σ H2 H3 hj ⟨M', x6, rfl, w2, eM'⟩ ⟨rfl, hv⟩
          obtain ⟨q, hq, hqm, rfl⟩ := way_at hv
          have hq2 := w2.same _ _ (w1.all q hqm)
          have ql : q.2.length = t := (mem_waysN.mp (by rw [← eM]; exact List.mem_map_of_mem hqm)).1
          have e1 : (M.take (j + 1)).flatMap (fun q => grow n q.2) = (M.take j).flatMap (fun q => grow n q.2) ++ grow n q.2 := by rw [take_one hq, List.flatMap_append, List.flatMap_cons, List.flatMap_nil, List.append_nil]
          have l1 : ((M.take (j + 1)).flatMap fun q => grow n q.2).length ≤ 24 := by
            have e : M.flatMap (fun q => grow n q.2) = (M.take (j + 1)).flatMap (fun q => grow n q.2) ++ (M.drop (j + 1)).flatMap (fun q => grow n q.2) := by rw [← List.flatMap_append, List.take_append_drop]
            rw [eW, e, List.length_append] at wl2
            omega
          refine ⟨_, rfl, .inl ⟨rfl, _, SqL.of w2.lst⟩, _, rfl, _, rfl, by omega, by omega, fun E hE => lc_range (lo := 0) (n := ((n : Nat) : Int).toNat) (fun i H' => ∃ N, WaysOut H3 H' E N ∧ N.map (·.2) = ((List.range i).filter fun k => decide (k ∉ q.2)).map fun k => q.2 ++ [k]) ⟨[], WaysOut.nil hE, rfl⟩ ?_ ?_⟩
          · rintro i H4 hi ⟨N, w4, eN⟩
            rw [nn] at hi
            have hq4 := w4.same _ _ hq2
            refine ⟨rfl, _, rfl, _, rfl, q.1, _, rfl, .inl (SqL.of hq4), rfl, flat_ints q.2, _, rfl, ?_⟩
            show if (!inV (.int (0 + (i : Nat))) (intsV q.2)) = true then _ else _
            rw [Int.zero_add, inV_nat]
            have nl : N.length ≤ i := by
              have := congrArg List.length eN
              rw [List.length_map, List.length_map] at this
              have l2 := List.length_filter_le (fun k => decide (k ∉ q.2)) (List.range i)
              rw [List.length_range] at l2
              omega
            by_cases m : i ∈ q.2
            · refine iteZ (by rw [decide_eq_true m]; rfl) ⟨N, w4, ?_⟩
              rw [eN, List.range_succ, List.filter_append, List.filter_cons_of_neg (by simpa using m), List.filter_nil, List.append_nil]
            · refine iteY (by rw [decide_eq_false m]; rfl) ?_
              refine ⟨_, rfl, _, rfl, by show 1 ≤ sizeLine; decide, fun r hr0 => ⟨q.1, r, _, _, rfl, rfl, (Same.upd_new hr0) _ _ hq4, upd_same, ?_, fun p hp => ?_⟩⟩
              · unfold intsV; rw [List.length_map, ql]; exact Nat.le_of_lt (small1000 (by show t + 1 ≤ 1000; omega))
              · have s5 := (Same.upd_new hr0 (o := .lst [V.int (i : Nat)])).trans (Same.upd_new hp (o := .lst (intsV q.2 ++ [V.int (i : Nat)])))
                have w5 := w4.of s5
                have hp4 : H4 p = none := (Same.upd_new hr0).free hp
                refine ⟨_, w5.lst, ?_, N ++ [(p, q.2 ++ [i])], w5.put (N := [(p, q.2 ++ [i])]) fun x hx => ?_, ?_⟩
                · rw [List.length_map]; exact small1000 (by omega)
                · rw [List.mem_singleton.mp hx]
                  refine ⟨?_, (ne_of_none w4.lst hp4).symm, w4.same.free hp4⟩
                  show _ = some (HO.lst (intsV (q.2 ++ [i])))
                  rw [upd_same]
                  unfold intsV
                  rw [List.map_append]
                  rfl
                · rw [List.map_append, eN, List.range_succ, List.filter_append, List.filter_cons_of_pos (by simpa using m), List.filter_nil, List.map_append]
                  rfl
          · rintro H4 ⟨N, w4, eN⟩
            rw [nn] at eN
            have w24 := w2.of w4.same
            have lens : M'.length + N.length ≤ 24 := by
              have a := congrArg List.length eM'
              have b : N.length = (grow n q.2).length := by rw [← List.length_map (f := (·.2)) (as := N), eN]; rfl
              rw [List.length_map] at a
              rw [e1, List.length_append] at l1
              omega
            refine ⟨D, E, _, _, rfl, rfl, w24.lst, w4.lst, ?_, M' ++ N, some (.ref q.1), rfl, w24.put fun x hx => ?_, ?_⟩
            · rw [List.length_map, List.length_map]; exact Nat.le_of_lt (small1000 (by omega))
            · obtain ⟨a, b, c⟩ := w4.all x hx
              exact ⟨a, (ne_of_none w2.lst c).symm, w2.same.free c⟩
            · rw [List.map_append, eM', e1, eN]
              rfl
        · rintro σ H2 ⟨M', x6, rfl, w2, eM'⟩
          rw [List.length_map, List.take_length, ← eW] at eM'
          refine ⟨_, rfl, D, _, rfl, .inl (SqL.of w2.lst), fun l hl => ⟨l, M', _, _, _, rfl, s1.trans (w2.same.trans (Same.upd_new hl)), ⟨upd_same, fun q hq => (Same.upd_new hl) _ _ (w2.all q hq).1⟩, eM'⟩⟩
      · rintro σ H1 ⟨fa, M, x4, x5, x6, rfl, s1, w1, eM⟩
        rw [nn] at eM
        exact ⟨_, rfl, k _ fa M s1 w1 eM⟩
end
end Dl

/-! all orders of a shape -/
namespace Dl
open PySem PySem.Spec PyProof.Rows L2
abbrev OrdL := List (Addr × List Str)
structure OrdIn (K : PySem.W.Frag) (H : Hp) (p : Addr) (M : OrdL) : Prop where
  lst : H p = some (.lst (M.map fun q => V.ref q.1))
  all : ∀ q ∈ M, SqT K H q.1 (q.2.map V.str)
theorem OrdIn.of {K : PySem.W.Frag} {H H' : Hp} {p : Addr} {M : OrdL} (h : OrdIn K H p M) (s : Same H H') : OrdIn K H' p M := ⟨s _ _ h.lst, fun q hq => Same.tup s (h.all q hq)⟩
def spExpand (K : PySem.W.Frag) (d : Nat) : Sp := fun vs H Q _ => ∃ v s, vs = [v] ∧ ShAt H v s ∧ s.Ok ∧ s.depth ≤ d ∧ s.leaves.length ≤ 6 ∧ (∀ z ∈ s.leaves, z.length ≤ 12) ∧ ∀ H' p M, Same H H' → H p = none → OrdIn K H' p M → M.map (·.2) = s.orders → Q (.ref p) H'
/-- a list at D that grows, made since H0 -/
structure OrdOut (K : PySem.W.Frag) (H0 H : Hp) (D : Addr) (M : OrdL) : Prop where
  same : Same H0 H
  at_ : OrdIn K H D M
  new : H0 D = none
theorem upd_tup {K : PySem.W.Frag} {H : Hp} {D a : Addr} {xs ys zs : List V} (hD : H D = some (.lst ys)) (h : SqT K H a xs) : SqT K (upd H D (.lst zs)) a xs := by
  have ne : ∀ {o : HO}, H a = some o → (∀ l, o ≠ .lst l) → a ≠ D := fun e n q => by rw [q, hD] at e; exact n _ (Option.some.inj e).symm
  rcases h with (h | ⟨o, h⟩) | h
  · exact .inl (.inl (by rw [upd_ne (ne h fun l e => by cases e)]; exact h))
  · exact .inl (.inr ⟨o, by rw [upd_ne (ne h fun l e => by cases e)]; exact h⟩)
  · exact .inr h
theorem OrdOut.nil {K : PySem.W.Frag} {H0 : Hp} {D : Addr} (h : H0 D = none) : OrdOut K H0 (upd H0 D (.lst [])) D [] := ⟨Same.upd_new h, ⟨upd_same, fun q hq => absurd hq (by simp)⟩, h⟩
theorem OrdOut.of {K : PySem.W.Frag} {H0 H H' : Hp} {D : Addr} {M : OrdL} (h : OrdOut K H0 H D M) (s : Same H H') : OrdOut K H0 H' D M := ⟨h.same.trans s, h.at_.of s, h.new⟩
theorem OrdOut.put {K : PySem.W.Frag} {H0 H : Hp} {D : Addr} {M N : OrdL} (h : OrdOut K H0 H D M) (n : ∀ q ∈ N, SqT K H q.1 (q.2.map V.str)) : OrdOut K H0 (upd H D (.lst ((M.map fun q => V.ref q.1) ++ N.map fun q => V.ref q.1))) D (M ++ N) := by
  refine ⟨fun a o e => ?_, ⟨?_, fun q hq => ?_⟩, h.new⟩
  · rw [upd_ne (ne_of_none e h.new)]; exact h.same _ _ e
  · rw [upd_same, List.map_append]
  · rcases List.mem_append.mp hq with m | m
    · exact upd_tup h.at_.lst (h.at_.all q m)
    · exact upd_tup h.at_.lst (n q m)
theorem ord_at {M : OrdL} {i : Nat} {v : V} (h : (M.map fun q => V.ref q.1)[i]? = some v) : ∃ q, M[i]? = some q ∧ q ∈ M ∧ v = .ref q.1 := by
  rw [List.getElem?_map] at h
  cases e : M[i]? with
  | none => rw [e] at h; cases h
  | some q => rw [e] at h; exact ⟨q, rfl, List.mem_of_getElem? e, (Option.some.inj h).symm⟩
theorem flatMap_part {α β : Type} (f : α → List β) (l : List α) (j : Nat) : ((l.take j).flatMap f).length ≤ (l.flatMap f).length := by
  have e : l.flatMap f = (l.take j).flatMap f ++ (l.drop j).flatMap f := by rw [← List.flatMap_append, List.take_append_drop]
  rw [e, List.length_append]
  omega
theorem flatMap_one {α β : Type} {f : α → List β} {l : List α} {x : α} (h : x ∈ l) : (f x).length ≤ (l.flatMap f).length := by
  obtain ⟨a, b, rfl⟩ := List.append_of_mem h
  rw [List.flatMap_append, List.flatMap_cons, List.length_append, List.length_append]
  omega
/-- what a way asks -/
structure WayFacts (ps : List Sh) (w : List Nat) : Prop where
  len : (partsBy ps w).length = w.length
  ix : ∀ i k : Nat, w[i]? = some k → k < ps.length ∧ (partsBy ps w)[i]? = some (ps.getD k (.leaf ""))
  big : (prodO ((partsBy ps w).map Sh.orders)).length ≤ 720
  pos : ∀ p ∈ partsBy ps w, 1 ≤ p.orders.length
  lvs : ((partsBy ps w).flatMap Sh.leaves).length ≤ 6
theorem way_facts {row : Bool} {ps : List Sh} (ok : (Sh.br row ps).Ok) (h6 : (Sh.br row ps).leaves.length ≤ 6) {w : List Nat} (hw : w ∈ ways row ps.length) : WayFacts ps w := by
  have pp := partsBy_perm hw
  have lt := way_lt hw
  refine ⟨List.length_map .., fun i k hk => ⟨lt k (List.mem_of_getElem? hk), by unfold partsBy; rw [List.getElem?_map, hk]; rfl⟩, ?_, fun p hp => ?_, ?_⟩
  · have t := many_720 ok h6
    rw [← orders_len ok, Sh.orders] at t
    have := flatMap_one (f := fun w => prodO (w.map fun k => (Sh.ordersL ps).getD k [])) hw
    rw [getD_orders lt] at this
    omega
  · obtain ⟨o, ho⟩ := order_some p
    exact List.length_pos_of_mem ho
  · rw [(flatMap_perm pp).length_eq, ← leaves_br row]
    exact h6
theorem WayFacts.part {ps : List Sh} {w : List Nat} (f : WayFacts ps w) (i : Nat) : (prodO (((partsBy ps w).take i).map Sh.orders)).length ≤ 720 := by
  refine Nat.le_trans ?_ f.big
  rw [prod_len, prod_len, List.map_map, List.map_map, List.map_take]
  exact prodN_take (fun x hx => by
    obtain ⟨p, hp, rfl⟩ := List.mem_map.mp hx
    exact f.pos p hp) i
theorem WayFacts.olen {ps : List Sh} {w : List Nat} (f : WayFacts ps w) {i : Nat} {o : List Str} (h : o ∈ prodO (((partsBy ps w).take i).map Sh.orders)) : o.length ≤ 6 := by
  have p := (prod_perm (fun p _ => order_perm p) h).length_eq
  have := flatMap_part Sh.leaves (partsBy ps w) i
  have := f.lvs
  omega
theorem prod_snoc (xs : List (List (List Str))) (x : List (List Str)) : prodO (xs ++ [x]) = (prodO xs).flatMap fun o => x.map fun i => o ++ i := by
  unfold prodO
  rw [List.foldl_append]
  rfl
theorem flatMap_ext {α β : Type} {f g : α → List β} : ∀ {l : List α}, (∀ x ∈ l, f x = g x) → l.flatMap f = l.flatMap g
  | [], _ => rfl
  | x :: r, h => by rw [List.flatMap_cons, List.flatMap_cons, h x (List.mem_cons_self ..), flatMap_ext fun y hy => h y (List.mem_cons_of_mem _ hy)]
theorem sameB_tup {K : PySem.W.Frag} {b a : Addr} {H H' : Hp} {xs ys : List V} (s : SameB b H H') (hb : H b = some (.lst ys)) (h : SqT K H a xs) : SqT K H' a xs := by
  have ne : ∀ {o : HO}, H a = some o → (∀ l, o ≠ .lst l) → a ≠ b := fun e n q => by rw [q, hb] at e; exact n _ (Option.some.inj e).symm
  rcases h with (h | ⟨o, h⟩) | h
  · exact .inl (.inl (s _ _ (ne h fun l e => by cases e) h))
  · exact .inl (.inr ⟨o, s _ _ (ne h fun l e => by cases e) h⟩)
  · exact .inr h
structure TxtE (mg : Str → Option Value) : Prop where
  isinstance : mg "isinstance" = none
  str : mg "str" = none
  len : mg "len" = none
  list : mg "list" = none
abbrev PartL := List (Addr × OrdL)
section
variable {P : Program} {w : World} {K : PySem.W.Frag} {mg : Str → Option Value} {base : Heap}
theorem scExpand : FnScope ["_law_shape_here", "_law_inner", "_law_found", "_law_way", "_law_made", "_law_k", "_law_longer", "_law_order", "_law_part", "_law_piece"] ["_law_shape_here"] (defScope sLawExpand) := ⟨rfl, rfl, rfl, by decide +kernel, rfl, by decide +kernel, by decide +kernel⟩
theorem ok_expand {f : Addr} {fd : FuncData} (F : Fun K "_law_expand" "_law_expand" sLawExpand f fd) (T : TxtE mg) (gW : Dfn P w K mg base CX0 1 "_law_ways" ["_law_kind", "_law_count"] spWays)
    (mExpand : mg "_law_expand" = some (.ref f)) (bExpand : Binds K fd ["_law_shape_here"] []) : ∀ d, FnOk P w K mg base CX0 (d + 2) f fd ["_law_shape_here"] (spExpand K d) := by
  have all : ∀ d, (∀ e, d = e + 1 → FnOk P w K mg base CX0 (e + 2) f fd ["_law_shape_here"] (spExpand K e)) → FnOk P w K mg base CX0 (d + 2) f fd ["_law_shape_here"] (spExpand K d) := fun d ih => by
    have kExpand := F.kp
    obtain ⟨fW, fdW, mWays, kWays, bWays, GWays⟩ := gW
    refine F.ok scExpand (fun vs H Q E h => ?_) (fun cdv A outer s H vs Q E hr h => ?_)
    · obtain ⟨v, s, rfl, _⟩ := h
      rfl
    · obtain ⟨v, s, rfl, sv, gd, dp, h6, sm, k⟩ := h
      have hr1 : Room 1 _ := hr.mono (by omega)
      have GExpand : FnOk P w K mg base CX0 (d + 1) f fd ["_law_shape_here"] (fun vs H Q E => 1 ≤ d ∧ spExpand K (d - 1) vs H Q E) := by
        cases d with
        | zero => exact ⟨fun vs H Q E h => absurd h.1 (by decide), fun A outer s H args us vs Q E hr he hb hv hs => absurd hs.1 (by decide)⟩
        | succ e => exact (ih e rfl).imp fun vs H Q E h => h.2
      have hrN : Room (d + 1) _ := hr
      refine ⟨_, (pss_cons (ps_if (pt_val (pe_callB call_isi (by rfl) T.isinstance (by decide +kernel) (pa_cons (pv 0) (pa_cons (pe_bltn (v := .ty "str") (by rfl) T.str (by decide +kernel) rfl) pa_nil)))) (pss_one (ps_ret (pe_lst (pa_cons (pe_tup (pa_cons (pv 0) pa_nil)) pa_nil)))) pss_nil)
        (pss_cons (ps_setLc (i := 1) (own := [("_law_part", 8)]) (g := gName 8) (tt := tYes) rfl scExpand.nd rfl rfl (sw_true rfl rfl rfl (by decide +kernel)) (pi_tup (pe_slice sl_tup (pv 0) (po_some pe_int) po_none)) (blkOk_by (N := ["_law_shape_here", "_law_inner", "_law_found", "_law_way", "_law_made", "_law_k", "_law_longer", "_law_order", "_law_part", "_law_piece"]) (sc := defScope sLawExpand) (by decide +kernel)) (fun _ _ _ _ _ => (pg_name (i := 8) scExpand.nd rfl (Or.inl rfl))) (fun _ _ _ _ _ => pts_nil) (fun _ _ _ _ _ => (pe_call GExpand hrN (by rfl) mExpand kExpand bExpand .nil pass0 (pa_cons (pv 8) pa_nil))))
        (pss_cons (ps_set (i := 2) scExpand.nd rfl (Or.inl rfl) (pe_lst pa_nil))
        (pss_cons (ps_for PassesOwn.never rfl (pi_list (pe_call GWays hr1 (by rfl) mWays kWays bWays .nil pass0 (pa_cons (pe_ix ix_tup (pv 0) pe_int (fun _ _ => rfl)) (pa_cons (pe_callB call_len_seq (by rfl) T.len PySem.boot_len (pa_cons (pv 1) pa_nil)) pa_nil)))) (pg_name (i := 3) scExpand.nd rfl (Or.inl rfl)) (pss_cons (ps_set (i := 4) scExpand.nd rfl (Or.inl rfl) (pe_lst (pa_cons (pe_tup pa_nil) pa_nil)))
        (pss_cons (ps_for PassesOwn.never rfl (pi_list (pv 3)) (pg_name (i := 5) scExpand.nd rfl (Or.inl rfl)) (pss_cons (ps_set (i := 6) scExpand.nd rfl (Or.inl rfl) (pe_lst pa_nil))
        (pss_cons (ps_for PassesOwn.never rfl (pi_list (pv 4)) (pg_name (i := 7) scExpand.nd rfl (Or.inr rfl)) (pss_one (ps_expr (pe_bm PySem.F.plainAttrs_list PySem.F.slot_list_extend PySem.F.type_list_extend mt_extend (pv 6) (pa_cons (pe_lc (own := [("_law_piece", 9)]) (g := gName 9) (tt := tYes) rfl scExpand.nd (pi_list (pe_ix ix_list (pv 1) (pv 5) (fun _ _ => rfl))) (blkOk_by (N := ["_law_shape_here", "_law_inner", "_law_found", "_law_way", "_law_made", "_law_k", "_law_longer", "_law_order", "_law_part", "_law_piece"]) (sc := defScope sLawExpand) (by decide +kernel)) (fun _ _ _ _ _ => (pg_name (i := 9) scExpand.nd rfl (Or.inl rfl))) (fun _ _ _ _ _ => pts_nil) (fun _ _ _ _ _ => (pe_op (by exact op_catW : OpR _ _ (rCatW K)) (pv 7) (pv 9)))) pa_nil)))))
        (pss_one (ps_set (i := 4) scExpand.nd rfl (Or.inl rfl) (pe_callTy call_list_of (by rfl) T.list (by decide +kernel) (pa_cons (pv 6) pa_nil)))))))
        (pss_one (ps_expr (pe_bm PySem.F.plainAttrs_list PySem.F.slot_list_extend PySem.F.type_list_extend mt_extend (pv 2) (pa_cons (pv 4) pa_nil)))))))
        (pss_one (ps_ret (pv 2))))))), ?_⟩
      cases sv with
      | leaf n =>
        refine ⟨_, rfl, .str n, _, _, _, true, rfl, ClsV.ty "str", .base (.str n), kit_ty (by decide +kernel), true, rfl, iteT ?_⟩
        refine ⟨_, rfl, by show 1 ≤ sizeLine; decide, fun t ht => ⟨by show 1 ≤ sizeLine; decide, fun l hl => ?_⟩⟩
        have s1 := Same.upd_new ht (o := .tup [V.str n])
        have s2 := Same.upd_new hl (o := .lst [V.ref t])
        refine k _ l [(t, [n])] (s1.trans s2) (s1.free hl) ⟨upd_same, fun q hq => ?_⟩ rfl
        rw [List.mem_singleton.mp hq]
        exact SqT.of (s2 _ _ upd_same)
      | br row a L h1 h2 =>
        refine ⟨_, rfl, .ref a, _, _, _, false, rfl, ClsV.ty "str", .base (.tup h1), kit_ty (by decide +kernel), false, rfl, iteF ?_⟩
        have wf := fun w (hw : w ∈ ways row (L.map (·.2)).length) => way_facts gd h6 hw
        have big := many_720 gd h6
        rw [← orders_len gd] at big
        cases gd with
        | br _ _ l2 l4 l3 hp =>
        rw [List.length_map] at l2 l4 l3
        rw [Sh.depth] at dp
        rw [leaves_br] at sm h6
        refine ⟨_, rfl, _, rfl, a, _, rfl, SqT.of h1, ?_, fun sl hsl => ?_⟩
        · rintro ⟨e, _⟩
          have : HT.sIx (V.str (kindS row) :: L.map (·.1)).length 0 (some ((1 : Nat) : Int)) = 0 := e
          rw [HT.sIx_nat, List.length_cons] at this
          omega
        rw [cut_one, List.drop_succ_cons, List.drop_zero]
        have s1 := Same.upd_new hsl (o := .tup (L.map (·.1)))
        have hsl1 := upd_same (H := H) (a := sl) (o := .tup (L.map (·.1)))
        have h2 := fun q hq => (h2 q hq).of s1
        generalize upd H sl (.tup (L.map (·.1))) = H1 at *
        refine ⟨sl, rfl, ⟨_, SqT.of hsl1⟩, fun D hD => lc_it (walk_tup (K := K) (a := sl) (xs := L.map (·.1))) (fun i H' => ∃ M : PartL, H' D = some (.lst (M.map fun q => V.ref q.1)) ∧ Same H1 H' ∧ (∀ q ∈ M, OrdIn K H' q.1 q.2 ∧ q.1 ≠ D) ∧ M.map (fun q => q.2.map (·.2)) = ((L.map (·.2)).take i).map Sh.orders)
          ⟨[], upd_same, Same.upd_new hD, (fun q hq => absurd hq (by simp)), rfl⟩ (fun i H' _ ⟨_, _, s, _⟩ => SqT.of (s _ _ hsl1)) ?_ ?_⟩
        · rintro i v H2 H3 hi ⟨M, hD2, s2, at_, ek⟩ ⟨rfl, hv⟩
          obtain ⟨q, hq, rfl⟩ : ∃ q, L[i]? = some q ∧ v = q.1 := by
            rw [List.getElem?_map] at hv
            cases e : L[i]? with
            | none => rw [e] at hv; cases hv
            | some q => rw [e] at hv; exact ⟨q, rfl, (Option.some.inj hv).symm⟩
          have hqm := List.mem_of_getElem? hq
          have dq := depth_mem (List.mem_map_of_mem (f := (·.2)) hqm)
          have lq : q.2.leaves.length ≤ 6 := Nat.le_trans (flatMap_one (f := Sh.leaves) (List.mem_map_of_mem (f := (·.2)) hqm)) h6
          refine ⟨rfl, _, rfl, by omega, q.1, q.2, rfl, (h2 q hqm).of s2, hp _ (List.mem_map_of_mem hqm), by omega, lq, fun z hz => sm z (List.mem_flatMap.mpr ⟨q.2, List.mem_map_of_mem hqm, hz⟩), fun H4 p N s4 np o4 e4 => ?_⟩
          have hD4 := s4 _ _ hD2
          have npD : p ≠ D := (ne_of_none hD2 np).symm
          have up : ∀ {x : Addr} {N : OrdL}, x ≠ D → OrdIn K H4 x N → OrdIn K (upd H4 D (.lst (M.map (fun q => V.ref q.1) ++ [V.ref p]))) x N := fun ne h => ⟨by rw [upd_ne ne]; exact h.lst, fun r hr => upd_tup hD4 (h.all r hr)⟩
          refine ⟨_, hD4, ?_, M ++ [(p, N)], ?_, fun b o e => ?_, fun r hr => ?_, ?_⟩
          · have := congrArg List.length ek
            rw [List.length_map, List.length_map, List.length_take, List.length_map] at this
            rw [List.length_map]
            exact small1000 (by omega)
          · rw [upd_same, List.map_append]
            rfl
          · rw [upd_ne (ne_of_none e hD)]
            exact s4 _ _ (s2 _ _ e)
          · rcases List.mem_append.mp hr with h | h
            · exact ⟨up (at_ r h).2 ((at_ r h).1.of s4), (at_ r h).2⟩
            · rw [List.mem_singleton.mp h]; exact ⟨up npD o4, npD⟩
          · rw [List.map_append, ek, take_one (show (L.map (·.2))[i]? = some q.2 by rw [List.getElem?_map, hq]; rfl), List.map_append]
            show _ ++ [N.map (·.2)] = _
            rw [e4]
            rfl
        · rintro H2 ⟨M, hD2, s2, at_, ek⟩
          rw [List.length_map, show L.length = (L.map (·.2)).length by rw [List.length_map], List.take_length] at ek
          have hl := congrArg List.length ek
          rw [List.length_map, List.length_map, List.length_map] at hl
          have s12 := s1.trans s2
          have ha2 := s12 _ _ h1
          have at_ : ∀ q ∈ M, OrdIn K H2 q.1 q.2 := fun q hq => (at_ q hq).1
          clear h2 hsl1 hD s2
          have el : (L.map (·.2)).length = L.length := List.length_map ..
          have big : ((ways row L.length).flatMap fun w => prodO ((partsBy (L.map (·.2)) w).map Sh.orders)).length ≤ 720 ∧ (Sh.br row (L.map (·.2))).orders = (ways row L.length).flatMap fun w => prodO ((partsBy (L.map (·.2)) w).map Sh.orders) := by
            have e : (Sh.br row (L.map (·.2))).orders = (ways row L.length).flatMap fun w => prodO ((partsBy (L.map (·.2)) w).map Sh.orders) := by
              rw [Sh.orders, el]
              refine flatMap_ext fun w hw => ?_
              rw [getD_orders fun k hk => by rw [el]; exact way_lt hw k hk]
            exact ⟨by rw [← e]; exact big, e⟩
          obtain ⟨big, eO⟩ := big
          rw [eO] at k
          rw [el] at wf
          refine ⟨Nat.zero_le _, fun fa hfa => ?_⟩
          have s3 := Same.upd_new hfa (o := .lst ([] : List V))
          have hfa3 := upd_same (H := H2) (a := fa) (o := .lst ([] : List V))
          have nfD : D ≠ fa := ne_of_none hD2 hfa
          have nfa : a ≠ fa := ne_of_none ha2 hfa
          have atf : ∀ q ∈ M, q.1 ≠ fa := fun q hq => ne_of_none (at_ q hq).lst hfa
          have fa0 : H fa = none := s12.free hfa
          generalize upd H2 fa (.lst ([] : List V)) = H3 at *
          have i0 : atI (V.str (kindS row) :: L.map (·.1)) 0 = some (.str (kindS row)) := atI_nat (xs := V.str (kindS row) :: L.map (·.1)) (j := 0) rfl
          have ml : (M.map fun q => V.ref q.1).length = L.length := by rw [List.length_map, hl]
          refine ⟨_, rfl, a, _, 0, _, rfl, rfl, SqT.of (s3 _ _ ha2), i0, _, rfl, D, _, rfl, .inl (SqL.of (s3 _ _ hD2)), row, _, rfl, by rw [ml]; exact l2, by rw [ml]; exact l4, fun H4 wp W s4 w4 eW => ?_⟩
          rw [ml] at eW
          have hfa4 := s4 _ _ hfa3
          have wne : W ≠ [] := fun e => by
            rw [e] at eW
            have := congrArg List.length eW
            rw [ways_len l2 l4] at this
            have p1 := fct_pos L.length
            cases row <;> simp at this <;> omega
          have nwf : wp ≠ fa := fun e => by
            have := w4.lst
            rw [e, hfa4] at this
            have := congrArg List.length (HO.lst.inj (Option.some.inj this))
            rw [List.length_map] at this
            exact wne (List.eq_nil_of_length_eq_zero this.symm)
          have nqf : ∀ q ∈ W, q.1 ≠ fa := fun q hq e => by
            have := w4.all q hq
            rw [e, hfa4] at this
            have := congrArg List.length (HO.lst.inj (Option.some.inj this))
            unfold intsV at this
            rw [List.length_map] at this
            have pq := (way_perm (show q.2 ∈ ways row L.length by rw [← eW]; exact List.mem_map_of_mem hq)).length_eq
            rw [List.length_range] at pq
            simp at this
            omega
          refine ⟨wp, rfl, ⟨_, SqL.of w4.lst⟩, for_it (walk_list (K := K) (a := wp) (xs := W.map fun q => V.ref q.1)) (fun j σ H' => ∃ Fd x3 x4 x5 x6 x7, σ = [some (.ref a), some (.ref D), some (.ref fa), x3, x4, x5, x6, x7, none, none] ∧ SameB fa H4 H' ∧ OrdIn K H' fa Fd ∧ Fd.map (·.2) = ((ways row L.length).take j).flatMap fun w => prodO ((partsBy (L.map (·.2)) w).map Sh.orders))
            ⟨[], none, none, none, none, none, rfl, SameB.refl _ _, ⟨hfa4, fun q hq => absurd hq (by simp)⟩, rfl⟩ (fun j σ H' _ ⟨_, _, _, _, _, _, _, s, _⟩ => SqL.of (s _ _ nwf w4.lst)) ?_ ?_⟩
          · rintro j v σ H5 H6 hj ⟨Fd, x3, x4, x5, x6, x7, rfl, s5, o5, e5⟩ ⟨rfl, hv⟩
            obtain ⟨wq, hq, hqm, rfl⟩ := way_at hv
            have hw : wq.2 ∈ ways row L.length := by rw [← eW]; exact List.mem_map_of_mem hqm
            have F0 := wf _ hw
            have hwj : (ways row L.length)[j]? = some wq.2 := by rw [← eW, List.getElem?_map, hq]; rfl
            have hwq := s5 _ _ (nqf _ hqm) (w4.all _ hqm)
            have hD6 := s5 _ _ nfD (s4 _ _ (s3 _ _ hD2))
            have atD : ∀ q ∈ M, OrdIn K H6 q.1 q.2 := fun q hq => ⟨s5 _ _ (atf q hq) (s4 _ _ (s3 _ _ (at_ q hq).lst)), fun r hr => sameB_tup s5 hfa4 (Same.tup (s3.trans s4) ((at_ q hq).all r hr))⟩
            generalize hps : partsBy (L.map (·.2)) wq.2 = qs at *
            have qf : ∀ i, (prodO ((qs.take i).map Sh.orders)).length ≤ 720 := fun i => by have := F0.part i; rwa [hps] at this
            have ql : ∀ {i : Nat} {o : List Str}, o ∈ prodO ((qs.take i).map Sh.orders) → o.length ≤ 6 := fun {i o} h => F0.olen (i := i) (by rw [hps]; exact h)
            have qn : qs.length = wq.2.length := by rw [← hps]; exact F0.len
            refine ⟨Nat.zero_le _, fun et het => ⟨by show 1 ≤ sizeLine; decide, fun m0 hm0 => ?_⟩⟩
            have s7 := (Same.upd_new het (o := .tup ([] : List V))).trans (Same.upd_new hm0 (o := .lst [V.ref et]))
            have o7 : OrdIn K (upd (upd H6 et (.tup ([] : List V))) m0 (.lst [V.ref et])) m0 [(et, [])] := ⟨upd_same, fun q hq => by
              rw [List.mem_singleton.mp hq]
              exact SqT.of ((Same.upd_new hm0) _ _ upd_same)⟩
            generalize upd (upd H6 et (.tup ([] : List V))) m0 (.lst [V.ref et]) = H7 at *
            refine ⟨_, rfl, wq.1, rfl, ⟨_, SqL.of (s7 _ _ hwq)⟩, for_it (walk_list (K := K) (a := wq.1) (xs := intsV wq.2)) (fun i σ H' => ∃ ma Mm x5 x6 x7, σ = [some (.ref a), some (.ref D), some (.ref fa), some (.ref wq.1), some (.ref ma), x5, x6, x7, none, none] ∧ Same H6 H' ∧ OrdIn K H' ma Mm ∧ Mm.map (·.2) = prodO ((qs.take i).map Sh.orders))
              ⟨m0, _, x5, x6, x7, rfl, s7, o7, rfl⟩ (fun i σ H' _ ⟨_, _, _, _, _, _, s, _⟩ => SqL.of (s _ _ hwq)) ?_ ?_⟩
            · rintro i v σ H8 H9 hi ⟨ma, Mm, x5, x6, x7, rfl, s8, o8, e8⟩ ⟨rfl, hv⟩
              obtain ⟨kk, hk, rfl⟩ : ∃ kk : Nat, wq.2[i]? = some kk ∧ v = .int (kk : Nat) := by
                unfold intsV at hv
                rw [List.getElem?_map] at hv
                cases e : wq.2[i]? with
                | none => rw [e] at hv; cases hv
                | some q => rw [e] at hv; exact ⟨q, rfl, (Option.some.inj hv).symm⟩
              obtain ⟨klt, hqk⟩ := F0.ix i kk hk
              rw [hps] at hqk
              rw [el] at klt
              obtain ⟨mk, hmk⟩ : ∃ mk, M[kk]? = some mk := ⟨_, List.getElem?_eq_getElem (by omega)⟩
              have mkm := List.mem_of_getElem? hmk
              have eio : mk.2.map (·.2) = ((L.map fun q : V × Sh => q.2).getD kk (Sh.leaf "")).orders := by
                have e1 := congrArg (·[kk]?) ek
                simp only [List.getElem?_map, hmk, Option.map_some] at e1
                rw [List.getElem?_eq_getElem klt] at e1
                have e2 := Option.some.inj e1
                rw [getD_at (show kk < (L.map (·.2)).length by rw [el]; exact klt), List.getElem_map]
                exact e2
              have eP : prodO ((qs.take (i + 1)).map Sh.orders) = Mm.flatMap fun o => (mk.2.map (·.2)).map fun z => o.2 ++ z := by
                rw [take_one hqk, List.map_append]
                show prodO (_ ++ [((L.map fun q : V × Sh => q.2).getD kk (Sh.leaf "")).orders]) = _
                rw [prod_snoc, ← e8, ← eio, List.flatMap_map]
              generalize hio : mk.2.map (·.2) = io at *
              have b1 := qf (i + 1)
              rw [eP] at b1
              have b0 := qf i
              rw [← e8, List.length_map] at b0
              refine ⟨Nat.zero_le _, fun la hla => ?_⟩
              refine ⟨_, rfl, ma, rfl, ⟨_, SqL.of ((Same.upd_new hla) _ _ o8.lst)⟩, for_it (walk_list (K := K) (a := ma) (xs := Mm.map fun q => V.ref q.1)) (fun m σ H' => ∃ Ml x7, σ = [some (.ref a), some (.ref D), some (.ref fa), some (.ref wq.1), some (.ref ma), some (.int (kk : Nat)), some (.ref la), x7, none, none] ∧ OrdOut K H9 H' la Ml ∧ Ml.map (·.2) = (Mm.take m).flatMap fun o => io.map fun z => o.2 ++ z)
                ⟨[], x7, rfl, OrdOut.nil hla, rfl⟩ (fun m σ H' _ ⟨_, _, _, h, _⟩ => SqL.of (h.same _ _ o8.lst)) ?_ ?_⟩
              · rintro m v σ H10 H11 hm ⟨Ml, x7, rfl, o10, e10⟩ ⟨rfl, hv⟩
                obtain ⟨oq, hoq, hom, rfl⟩ := ord_at hv
                have s10 := s8.trans o10.same
                have oD := (atD mk mkm).of s10
                have lo : oq.2.length ≤ 6 := ql (i := i) (by rw [← e8]; exact List.mem_map_of_mem hom)
                have part := flatMap_part (fun o : Addr × List Str => io.map fun z => o.2 ++ z) Mm (m + 1)
                have e1 : (Mm.take (m + 1)).flatMap (fun o => io.map fun z => o.2 ++ z) = (Mm.take m).flatMap (fun o => io.map fun z => o.2 ++ z) ++ io.map fun z => oq.2 ++ z := by rw [take_one hoq, List.flatMap_append, List.flatMap_cons, List.flatMap_nil, List.append_nil]
                have hoT := Same.tup o10.same (o8.all oq hom)
                have iol : io.length = mk.2.length := by rw [← hio, List.length_map]
                have tot : Ml.length + io.length ≤ 720 := by
                  have c := congrArg List.length e10
                  rw [List.length_map] at c
                  rw [e1, List.length_append, List.length_map] at part
                  omega
                refine ⟨_, rfl, .inl ⟨rfl, _, SqL.of o10.at_.lst⟩, _, rfl, _, rfl, D, _, _, _, rfl, rfl, SqL.of (s10 _ _ hD6), atI_nat (j := kk) (show (M.map fun q => V.ref q.1)[kk]? = some (.ref mk.1) by rw [List.getElem?_map, hmk]; rfl), mk.1, rfl, ⟨_, SqL.of oD.lst⟩, fun E hE => lc_it (walk_list (K := K) (a := mk.1) (xs := mk.2.map fun q => V.ref q.1)) (fun z H' => ∃ N, OrdOut K H11 H' E N ∧ N.map (·.2) = (io.take z).map fun z => oq.2 ++ z)
                  ⟨[], OrdOut.nil hE, rfl⟩ (fun z H' _ ⟨_, h, _⟩ => SqL.of (h.same _ _ oD.lst)) ?_ ?_⟩
                · rintro z v H12 H13 hz ⟨N, o12, e12⟩ ⟨rfl, hv⟩
                  obtain ⟨rq, hrq, hrm, rfl⟩ := ord_at hv
                  have lr : rq.2.length ≤ 6 := by
                    have : rq.2 ∈ io := by rw [← hio]; exact List.mem_map_of_mem hrm
                    rw [eio] at this
                    have := order_len this
                    have l1 : (L.map fun q : V × Sh => q.2).getD kk (Sh.leaf "") ∈ L.map (·.2) := by
                      rw [getD_at (show kk < (L.map (·.2)).length by rw [el]; exact klt)]
                      exact List.getElem_mem ..
                    have := flatMap_one (f := Sh.leaves) l1
                    omega
                  have nl : N.length ≤ io.length := by
                    have c := congrArg List.length e12
                    rw [List.length_map, List.length_map, List.length_take] at c
                    omega
                  refine ⟨rfl, _, rfl, _, rfl, oq.1, rq.1, _, _, rfl, rfl, Same.tup o12.same hoT, Same.tup o12.same (oD.all rq hrm), ?_, fun H14 p s14 hp => ?_⟩
                  · rw [List.length_map, List.length_map]; exact Nat.le_of_lt (small1000 (by omega))
                  · have o14 := o12.of s14
                    refine ⟨_, o14.at_.lst, ?_, N ++ [(p, oq.2 ++ rq.2)], o14.put (N := [(p, oq.2 ++ rq.2)]) fun x hx => ?_, ?_⟩
                    · rw [List.length_map]; exact small1000 (by omega)
                    · rw [List.mem_singleton.mp hx]
                      rw [← List.map_append] at hp
                      exact hp
                    · have hz2 : io[z]? = some rq.2 := by rw [← hio, List.getElem?_map, hrq]; rfl
                      rw [List.map_append, e12, take_one hz2, List.map_append]
                      rfl
                · rintro H12 ⟨N, o12, e12⟩
                  rw [List.length_map, ← iol, List.take_length] at e12
                  have o112 := o10.of o12.same
                  have nlen : N.length = io.length := by
                    have c := congrArg List.length e12
                    rwa [List.length_map, List.length_map] at c
                  refine ⟨la, E, _, _, rfl, rfl, o112.at_.lst, o12.at_.lst, ?_, Ml ++ N, some (.ref oq.1), rfl, o112.put fun x hx => o12.at_.all x hx, ?_⟩
                  · rw [List.length_map, List.length_map]; exact Nat.le_of_lt (small1000 (by omega))
                  · rw [List.map_append, e10, e12, e1]
              · rintro σ H10 ⟨Ml, x7, rfl, o10, e10⟩
                rw [List.length_map, List.take_length, ← eP] at e10
                exact ⟨_, rfl, la, _, rfl, .inl (SqL.of o10.at_.lst), fun l hl => ⟨l, Ml, _, _, _, rfl, s8.trans (o10.same.trans (Same.upd_new hl)), ⟨upd_same, fun q hq => Same.tup (Same.upd_new hl) (o10.at_.all q hq)⟩, e10⟩⟩
            · rintro σ H8 ⟨ma, Mm, x5, x6, x7, rfl, s8, o8, e8⟩
              have iw : (intsV wq.2).length = qs.length := by unfold intsV; rw [List.length_map, qn]
              rw [iw, List.take_length] at e8
              have o58 := o5.of s8
              have part := flatMap_part (fun w => prodO ((partsBy (L.map (·.2)) w).map Sh.orders)) (ways row L.length) (j + 1)
              have e1 : ((ways row L.length).take (j + 1)).flatMap (fun w => prodO ((partsBy (L.map (·.2)) w).map Sh.orders)) = ((ways row L.length).take j).flatMap (fun w => prodO ((partsBy (L.map (·.2)) w).map Sh.orders)) ++ prodO (qs.map Sh.orders) := by
                rw [take_one hwj, List.flatMap_append, List.flatMap_cons, List.flatMap_nil, List.append_nil, hps]
              have tot : Fd.length + Mm.length ≤ 720 := by
                have c1 := congrArg List.length e5
                have c2 := congrArg List.length e8
                rw [List.length_map] at c1 c2
                rw [e1, List.length_append] at part
                omega
              refine ⟨_, rfl, .inl ⟨rfl, _, SqL.of o58.lst⟩, _, rfl, fa, ma, _, _, rfl, rfl, o58.lst, o8.lst, ?_, Fd ++ Mm, _, _, _, _, _, rfl, fun b o nb e => ?_, ⟨by rw [upd_same, List.map_append], fun q hq => ?_⟩, ?_⟩
              · rw [List.length_map, List.length_map]; exact Nat.le_of_lt (small1000 (by omega))
              · rw [upd_ne nb]
                exact s8 _ _ (s5 _ _ nb e)
              · refine upd_tup o58.lst ?_
                rcases List.mem_append.mp hq with h | h
                · exact o58.all q h
                · exact o8.all q h
              · rw [List.map_append, e5, e8, e1]
          · rintro σ H5 ⟨Fd, x3, x4, x5, x6, x7, rfl, s5, o5, e5⟩
            rw [List.length_map, show W.length = (ways row L.length).length by rw [← eW, List.length_map], List.take_length] at e5
            refine ⟨_, rfl, k _ fa Fd (fun b o e => s5 _ _ (ne_of_none e fa0) (s4 _ _ (s3 _ _ (s12 _ _ e)))) fa0 o5 e5⟩
  intro d
  induction d with
  | zero => exact all 0 fun e h => absurd h (by omega)
  | succ e ih => exact all (e + 1) fun e' h => Nat.succ.inj h ▸ ih
end
end Dl

/-! shapes whose branches have two parts or more -/
namespace Dl
open PySem
inductive Sh.Wd : Sh → Prop where
  | leaf (n : Str) : Wd (.leaf n)
  | br (row : Bool) (ps : List Sh) : 2 ≤ ps.length → (∀ p ∈ ps, Wd p) → Wd (.br row ps)
theorem Sh.Wd.pos {s : Sh} (h : s.Wd) : 1 ≤ s.leaves.length := by
  induction h with
  | leaf n => exact Nat.le_refl _
  | br row ps h2 _ ih =>
    rw [leaves_br]
    match ps, h2, ih with
    | p :: r, _, ih =>
      have := ih p (List.mem_cons_self ..)
      rw [List.flatMap_cons, List.length_append]
      omega
theorem flat_pos {ps : List Sh} (h : ∀ p ∈ ps, p.Wd) : ps.length ≤ (ps.flatMap Sh.leaves).length := by
  induction ps with
  | nil => exact Nat.zero_le _
  | cons p r ih =>
    have a := (h p (List.mem_cons_self ..)).pos
    have b := ih fun q hq => h q (List.mem_cons_of_mem _ hq)
    rw [List.flatMap_cons, List.length_append, List.length_cons]
    omega
theorem ok_wd {s : Sh} (h : s.Ok) : s.Wd := by
  induction h with
  | leaf n => exact .leaf n
  | br row ps h2 _ _ _ ih => exact .br row ps h2 ih
end Dl

/-! nodes: how many orders -/
namespace Dl
open PySem PySem.Spec PyProof.Rows L2
abbrev BIG : Nat := 2 ^ 100
theorem big_log {n : Nat} (h : n ≤ BIG) : n.log2 ≤ 100 := PySem.W.mg_log (Nat.lt_of_le_of_lt h (Nat.pow_lt_pow_right (by decide) (by decide)))
theorem fact_fct : ∀ n, Builtin.Math.factorialNat n = fct n
  | 0 => rfl
  | n + 1 => by
    have ih := fact_fct n
    unfold Builtin.Math.factorialNat at ih ⊢
    rw [List.range_succ, List.foldl_append, ih]
    show fct n * (n + 1) = fct (n + 1)
    rw [fct, Nat.mul_comm]
theorem many1 (s : Sh) : 1 ≤ s.many := by
  induction s using Sh.ind with
  | hl n => rw [Sh.many]; exact Nat.le_refl _
  | hb row ps ih =>
    rw [Sh.many]
    have a : ∀ l : List Sh, (∀ p ∈ l, 1 ≤ p.many) → 1 ≤ Sh.manyL l := by
      intro l
      induction l with
      | nil => intro _; exact Nat.le_refl _
      | cons p r ih =>
        intro h
        rw [Sh.manyL]
        exact Nat.mul_pos (h p (List.mem_cons_self ..)) (ih fun q hq => h q (List.mem_cons_of_mem _ hq))
    refine Nat.mul_pos (a ps ih) ?_
    cases row
    · exact fct_pos _
    · exact Nat.succ_pos _
theorem manyL1 (l : List Sh) : 1 ≤ Sh.manyL l := by
  induction l with
  | nil => exact Nat.le_refl _
  | cons p r ih => rw [Sh.manyL]; exact Nat.mul_pos (many1 p) ih
theorem manyL_take {l : List Sh} {i : Nat} {p : Sh} (h : l[i]? = some p) : Sh.manyL (l.take (i + 1)) = Sh.manyL (l.take i) * p.many := by
  rw [take_one h]
  generalize l.take i = a
  induction a with
  | nil => show p.many * 1 = 1 * p.many; omega
  | cons q r ih =>
    rw [List.cons_append, Sh.manyL, ih, Sh.manyL, Nat.mul_assoc]
theorem manyL_app (a b : List Sh) : Sh.manyL (a ++ b) = Sh.manyL a * Sh.manyL b := by
  induction a with
  | nil => show _ = 1 * _; rw [Nat.one_mul]; rfl
  | cons q r ih => rw [List.cons_append, Sh.manyL, ih, Sh.manyL, Nat.mul_assoc]
theorem manyL_le (l : List Sh) (i : Nat) : Sh.manyL (l.take i) ≤ Sh.manyL l := by
  conv => rhs; rw [← List.take_append_drop i l, manyL_app]
  exact Nat.le_mul_of_pos_right _ (manyL1 _)
theorem many_mem {l : List Sh} {p : Sh} (h : p ∈ l) : p.many ≤ Sh.manyL l := by
  obtain ⟨a, b, rfl⟩ := List.append_of_mem h
  rw [manyL_app, Sh.manyL]
  have h1 := Nat.le_mul_of_pos_left (p.many * Sh.manyL b) (manyL1 a)
  exact Nat.le_trans (Nat.le_mul_of_pos_right _ (manyL1 b)) h1
theorem cmul_of {a b : Nat} (h : a * b ≤ BIG) : CMul (a : Int) (b : Int) := by
  by_cases ha : a < 2 ^ 64
  · exact .inl ⟨by omega, by omega⟩
  · by_cases hb : b < 2 ^ 64
    · exact .inr ⟨by omega, by omega⟩
    · exfalso
      have : 2 ^ 64 * 2 ^ 64 ≤ a * b := Nat.mul_le_mul (by omega) (by omega)
      have k : BIG < 2 ^ 64 * 2 ^ 64 := by decide
      omega
section
variable {X : Cx}
def rFact : List V → Hp → VK → Prop := fun vs H Q => ∃ n : Nat, vs = [.int (n : Int)] ∧ n ≤ 1000 ∧ fct n ≤ BIG ∧ Q (.int (fct n : Nat)) H
theorem cr_fact : CallR X (.builtin "math.factorial") rFact := by
  intro pins s σ H vs us Q I r h
  obtain ⟨n, rfl, h1, h2, q⟩ := h
  obtain ⟨u, rfl, t, rfl⟩ := vals1 r
  refine PySem.W.mg_factorial_v (c := ((fct n : Nat) : Int)) (by unfold Builtin.Math.maxSsize; omega) (by omega) (by unfold Builtin.Math.manyFactors; omega) (by rw [Int.toNat_natCast, fact_fct]) ?_ ⟨.int _, H, I.tok _, ⟨_, rfl⟩, q⟩
  rw [Int.natAbs_natCast]
  exact Nat.lt_of_le_of_lt (big_log h2) (by rw [bitsLine_eq]; decide)
end
def spMany (c : NCls) (d : Nat) (C : Addr) : Sp := fun vs H Q _ => ∃ p s dx fs, vs = [.ref p] ∧ H p = some (.ins C dx fs) ∧ NodeAt c H p s ∧ s.depth ≤ d ∧ s.many ≤ BIG ∧ s.leaves.length ≤ 900 ∧ s.Wd ∧ ∀ H', Same H H' → Q (.int (s.many : Nat)) H'
def spManyIn (K : PySem.W.Frag) (c : NCls) (d : Nat) : Sp := fun vs H Q _ => ∃ t L, vs = [.ref t] ∧ SqT K H t (L.map fun q => V.ref q.1) ∧ PartsAt c H d L ∧ Sh.manyL (L.map (·.2)) ≤ BIG ∧ (lvs L).length ≤ 900 ∧ (∀ q ∈ L, q.2.Wd) ∧ ∀ H', Same H H' → Q (.int (Sh.manyL (L.map (·.2)) : Nat)) H'
section
variable {P : Program} {w : World} {K : PySem.W.Frag} {mg : Str → Option Value} {base : Heap} {c : NCls}
theorem scLeafMany : FnScope ["self"] ["self"] (defScope sLeafMany) := ⟨rfl, rfl, rfl, by decide +kernel, rfl, by decide +kernel, by decide +kernel⟩
theorem ok_leafmany {f : Addr} {fd : FuncData} (F : Fun K "many" "Leaf.many" sLeafMany f fd) (N : NFacts K c) (d : Nat) : FnOk P w K mg base CX0 1 f fd ["self"] (spMany c d c.L) := by
  refine F.ok scLeafMany (fun vs H Q E h => ?_) (fun cdv A outer s H vs Q E hr h => ?_)
  · obtain ⟨p, s, dx, fs, rfl, _⟩ := h
    rfl
  · obtain ⟨p, s, dx, fs, rfl, hp, nd, _, _, _, _, k⟩ := h
    refine ⟨_, pss_one (ps_ret pe_int), ?_⟩
    cases nd with
    | br row _ dx' t L h1 _ _ _ =>
      rw [h1] at hp
      injection (Option.some.inj hp) with e
      exact absurd e (N.lof row)
    | leaf _ dx' n h1 =>
      rw [Sh.many] at k
      exact k H (Same.refl H)
theorem scManyIn : FnScope ["parts", "ways", "part"] ["parts"] (defScope sManyWithin) := ⟨rfl, rfl, rfl, by decide +kernel, rfl, by decide +kernel, by decide +kernel⟩
theorem ok_manyin {f : Addr} {fd : FuncData} {d k : Nat} (F : Fun K "_many_within" "_many_within" sManyWithin f fd) (hD : ∀ C, c.D C → HasM P w K mg base CX0 k "many" ["self"] (spMany c d) C) : FnOk P w K mg base CX0 (k + 1) f fd ["parts"] (spManyIn K c d) := by
  refine F.ok scManyIn (fun vs H Q E h => ?_) (fun cdv A outer s H vs Q E hr h => ?_)
  · obtain ⟨t, L, rfl, _⟩ := h
    rfl
  · obtain ⟨t, L, rfl, ht, pa, few, l9, wd, k⟩ := h
    refine ⟨_, (pss_cons (ps_set (i := 1) scManyIn.nd rfl (Or.inl rfl) pe_int)
      (pss_cons (ps_for PassesOwn.never rfl (pi_tup (pv 0)) (pg_name (i := 2) scManyIn.nd rfl (Or.inl rfl)) (pss_one (ps_set (i := 1) scManyIn.nd rfl (Or.inl rfl) (pe_op op_mul (pv 1) (pe_methD0 (pv 2) hD hr pass0)))))
      (pss_one (ps_ret (pv 1))))), ?_⟩
    refine ⟨_, rfl, t, rfl, ⟨_, ht⟩, for_it (walk_tup (K := K) (a := t) (xs := L.map fun q => V.ref q.1)) (fun i σ H' => ∃ x : Option V, σ = [some (.ref t), some (.int (Sh.manyL ((L.map (·.2)).take i) : Nat)), x] ∧ Same H H') ⟨none, rfl, Same.refl H⟩ (fun i σ H' _ ⟨_, _, s1⟩ => Same.tup s1 ht) ?_ ?_⟩
    · rintro i v σ H9 H1 hi ⟨x, rfl, s1⟩ ⟨rfl, hv⟩
      obtain ⟨q, hq, hqm, rfl⟩ := nd_at hv
      obtain ⟨C, dx, fn, fv, hi1, dC, fe⟩ := ((pa q hqm).1.of s1).ins
      have mm := many_mem (List.mem_map_of_mem (f := (·.2)) hqm)
      have lp := lvs_part hqm
      have hqs : (L.map (·.2))[i]? = some q.2 := by rw [List.getElem?_map, hq]; rfl
      refine ⟨_, rfl, _, rfl, q.1, C, dx, _, rfl, hi1, dC, lookN (by rcases fe with rfl | rfl <;> decide +kernel), q.1, q.2, dx, _, rfl, hi1, (pa q hqm).1.of s1, (pa q hqm).2, Nat.le_trans mm few, by omega, wd q hqm, fun H2 s2 => ?_⟩
      have tk := manyL_take hqs
      refine ⟨_, _, rfl, rfl, cmul_of (by rw [← tk]; exact Nat.le_trans (manyL_le _ _) few), some (.ref q.1), ?_, s1.trans s2⟩
      rw [tk, Int.natCast_mul]
      rfl
    · rintro σ H1 ⟨x, rfl, s1⟩
      rw [List.length_map, show L.length = (L.map (·.2)).length by rw [List.length_map], List.take_length]
      exact ⟨_, rfl, k H1 s1⟩
theorem scGroupMany : FnScope ["self"] ["self"] (defScope sGroupMany) := ⟨rfl, rfl, rfl, by decide +kernel, rfl, by decide +kernel, by decide +kernel⟩
theorem ok_groupmany {f : Addr} {fd : FuncData} {d k : Nat} (F : Fun K "many" "Group.many" sGroupMany f fd) (N : NFacts K c) (mL : mg "len" = none) (mF : mg "factorial" = some (.builtin "math.factorial")) (g : Dfn P w K mg base CX0 k "_many_within" ["parts"] (spManyIn K c d)) : FnOk P w K mg base CX0 (k + 1) f fd ["self"] (spMany c (d + 1) c.G) := by
  obtain ⟨fO, dO, mO, kO, bO, GO⟩ := g
  refine F.ok scGroupMany (fun vs H Q E h => ?_) (fun cdv A outer s H vs Q E hr h => ?_)
  · obtain ⟨p, s, dx, fs, rfl, _⟩ := h
    rfl
  · obtain ⟨p, s, dx, fs, rfl, hp, nd, hd, few, l9, wd, k⟩ := h
    refine ⟨_, pss_one (ps_ret (pe_op op_mul (pe_call GO hr (by rfl) mO kO bO .nil pass0 (pa_cons (pe_fld (pv 0) rfl) pa_nil)) (pe_callBfun cr_fact (by rfl) mF (pa_cons (pe_callB call_len_seq (by rfl) mL PySem.boot_len (pa_cons (pe_fld (pv 0) rfl) pa_nil)) pa_nil)))), ?_⟩
    cases nd with
    | leaf _ dx' n h1 =>
      rw [h1] at hp
      injection (Option.some.inj hp) with e
      exact absurd e N.lg
    | br row _ dx' t L h1 h2 h3 h4 =>
      obtain rfl : row = false := by
        rw [h1] at hp
        injection (Option.some.inj hp) with e
        exact N.inj (a := row) (b := false) e
      rw [Sh.depth] at hd
      rw [leaves_br, lvs_map] at l9
      rw [Sh.many, List.length_map] at few k
      have few : Sh.manyL (L.map (·.2)) * fct L.length ≤ BIG := few
      have k : ∀ H', Same H H' → Q (.int ((Sh.manyL (L.map (·.2)) * fct L.length : Nat) : Int)) H' := k
      have pos := manyL1 (L.map (·.2))
      have pf := fct_pos L.length
      have wL : ∀ q ∈ L, q.2.Wd := fun q hq => by
        cases wd with
        | br _ _ _ hw => exact hw _ (List.mem_map_of_mem hq)
      have ll : L.length ≤ 900 := by
        have := flat_pos (ps := L.map (·.2)) fun p hp => by
          obtain ⟨q, hq, rfl⟩ := List.mem_map.mp hp
          exact wL q hq
        rw [List.length_map, lvs_map] at this
        omega
      refine ⟨_, rfl, p, c.G, dx', _, _, rfl, h1, N.cl _ (c.of_D false), N.parts false, lookS _ _, t, L, rfl, SqT.of h2, fun q hq => ⟨h4 q hq, by have := depth_mem (List.mem_map_of_mem (f := (·.2)) hq); omega⟩, Nat.le_trans (Nat.le_mul_of_pos_right _ pf) few, l9, wL, fun H1 s1 => ?_⟩
      refine ⟨_, rfl, p, c.G, dx', _, _, rfl, s1 _ _ h1, N.cl _ (c.of_D false), N.parts false, lookS _ _, t, _, rfl, .inr (SqT.of (s1 _ _ h2)), ?_⟩
      rw [List.length_map]
      refine ⟨L.length, rfl, by omega, Nat.le_trans (Nat.le_mul_of_pos_left _ pos) few, _, _, rfl, rfl, cmul_of few, ?_⟩
      have q := k H1 s1
      rw [Int.natCast_mul] at q
      exact q
theorem scRowMany : FnScope ["self"] ["self"] (defScope sRowMany) := ⟨rfl, rfl, rfl, by decide +kernel, rfl, by decide +kernel, by decide +kernel⟩
theorem ok_rowmany {f : Addr} {fd : FuncData} {d k : Nat} (F : Fun K "many" "Row.many" sRowMany f fd) (N : NFacts K c) (g : Dfn P w K mg base CX0 k "_many_within" ["parts"] (spManyIn K c d)) : FnOk P w K mg base CX0 (k + 1) f fd ["self"] (spMany c (d + 1) c.R) := by
  obtain ⟨fO, dO, mO, kO, bO, GO⟩ := g
  refine F.ok scRowMany (fun vs H Q E h => ?_) (fun cdv A outer s H vs Q E hr h => ?_)
  · obtain ⟨p, s, dx, fs, rfl, _⟩ := h
    rfl
  · obtain ⟨p, s, dx, fs, rfl, hp, nd, hd, few, l9, wd, k⟩ := h
    refine ⟨_, pss_one (ps_ret (pe_op op_mul (pe_call GO hr (by rfl) mO kO bO .nil pass0 (pa_cons (pe_fld (pv 0) rfl) pa_nil)) pe_int)), ?_⟩
    cases nd with
    | leaf _ dx' n h1 =>
      rw [h1] at hp
      injection (Option.some.inj hp) with e
      exact absurd e N.lr
    | br row _ dx' t L h1 h2 h3 h4 =>
      obtain rfl : row = true := by
        rw [h1] at hp
        injection (Option.some.inj hp) with e
        exact N.inj (a := row) (b := true) e
      rw [Sh.depth] at hd
      rw [leaves_br, lvs_map] at l9
      rw [Sh.many] at few k
      have few : Sh.manyL (L.map (·.2)) * 2 ≤ BIG := few
      have k : ∀ H', Same H H' → Q (.int ((Sh.manyL (L.map (·.2)) * 2 : Nat) : Int)) H' := k
      have wL : ∀ q ∈ L, q.2.Wd := fun q hq => by
        cases wd with
        | br _ _ _ hw => exact hw _ (List.mem_map_of_mem hq)
      refine ⟨_, rfl, p, c.R, dx', _, _, rfl, h1, N.cl _ (c.of_D true), N.parts true, lookS _ _, t, L, rfl, SqT.of h2, fun q hq => ⟨h4 q hq, by have := depth_mem (List.mem_map_of_mem (f := (·.2)) hq); omega⟩, Nat.le_trans (Nat.le_mul_of_pos_right _ (by decide)) few, l9, wL, fun H1 s1 => ?_⟩
      refine ⟨_, _, rfl, rfl, cmul_of (b := 2) few, ?_⟩
      have q := k H1 s1
      rw [Int.natCast_mul] at q
      exact q
end
end Dl

/-! nodes: _law_shape_text -/
namespace Dl
open PySem PySem.Spec PyProof.Rows L2
def spShText (d : Nat) : Sp := fun vs H Q _ => ∃ v s, vs = [v] ∧ ShAt H v s ∧ s.depth ≤ d ∧ s.tlen ≤ 100000 ∧ ∀ H', Same H H' → Q (.str s.text) H'
structure TxtShT (mg : Str → Option Value) : Prop where
  isinstance : mg "isinstance" = none
  str : mg "str" = none
theorem at_first10 {xs : List V} {v : V} (h : xs[0]? = some v) : atI xs 0 = some v := atI_nat (j := 0) h
section
variable {P : Program} {w : World} {K : PySem.W.Frag} {mg : Str → Option Value} {base : Heap}
theorem scShText : FnScope ["_law_shape_here", "_law_inner", "_law_part"] ["_law_shape_here"] (defScope sLawShapeText) := ⟨rfl, rfl, rfl, by decide +kernel, rfl, by decide +kernel, by decide +kernel⟩
theorem ok_shtext {f : Addr} {fd : FuncData} (F : Fun K "_law_shape_text" "_law_shape_text" sLawShapeText f fd) (T : TxtShT mg) (mC : mg "_law_shape_text" = some (.ref f)) (bC : Binds K fd ["_law_shape_here"] []) : ∀ d, FnOk P w K mg base CX0 (d + 1) f fd ["_law_shape_here"] (spShText d) := by
  have all : ∀ d, (∀ e, d = e + 1 → FnOk P w K mg base CX0 (e + 1) f fd ["_law_shape_here"] (spShText e)) → FnOk P w K mg base CX0 (d + 1) f fd ["_law_shape_here"] (spShText d) := fun d ih => by
    have kC := F.kp
    refine F.ok scShText (fun vs H Q E h => ?_) (fun cdv A outer s H vs Q E hr h => ?_)
    · obtain ⟨v, s, rfl, _⟩ := h
      rfl
    · obtain ⟨v, s, rfl, sv, dp, tl, k⟩ := h
      have GC : FnOk P w K mg base CX0 d f fd ["_law_shape_here"] (fun vs H Q E => 1 ≤ d ∧ spShText (d - 1) vs H Q E) := by
        cases d with
        | zero => exact ⟨fun vs H Q E h => absurd h.1 (by decide), fun A outer s H args us vs Q E hr he hb hv hs => absurd hs.1 (by decide)⟩
        | succ e => exact (ih e rfl).imp fun vs H Q E h => h.2
      refine ⟨_, (pss_cons (ps_if (pt_val (pe_callB call_isi (by rfl) T.isinstance (by decide +kernel) (pa_cons (pv 0) (pa_cons (pe_bltn (v := .ty "str") (by rfl) T.str (by decide +kernel) rfl) pa_nil)))) (pss_one (ps_ret (pv 0))) pss_nil)
        (pss_cons (ps_set (i := 1) scShText.nd rfl (Or.inl rfl) (pe_bm PySem.F.plainAttrs_str PySem.F.slot_str_join PySem.F.type_str_join mt_join pe_str (pa_cons
          (pe_lc (own := [("_law_part", 2)]) (g := gName 2) (tt := tYes) (te := tCall (fun vs H Q E => 1 ≤ d ∧ spShText (d - 1) vs H Q E) [] E0 (tCons (tVar 2) tNil)) rfl scShText.nd (pi_tup (pe_slice sl_tup (pv 0) (po_some pe_int) po_none))
            (blkOk_by (N := ["_law_shape_here", "_law_inner", "_law_part"]) (sc := defScope sLawShapeText) (by decide +kernel)) (fun _ _ _ _ _ => pg_name (i := 2) scShText.nd rfl (Or.inl rfl)) (fun _ _ _ _ _ => pts_nil)
            (fun _ _ _ _ _ => by exact pe_call GC hr (by rfl) mC kC bC .nil pass0 (pa_cons (pv 2) pa_nil))) pa_nil)))
        (pss_cons (ps_if (pt_cmpR op_eq (pe_ix ix_tup (pv 0) pe_int (fun _ _ => rfl)) pe_str (nomark _)) (pss_one (ps_ret (pe_op op_add_str (pe_op op_add_str pe_str (pv 1)) pe_str))) pss_nil)
        (pss_one (ps_ret (pe_op op_add_str (pe_op op_add_str pe_str (pv 1)) pe_str)))))), ?_⟩
      cases sv with
      | leaf n => exact ⟨_, rfl, .str n, _, _, _, true, rfl, ClsV.ty "str", .base (.str n), kit_ty (by decide +kernel), true, rfl, iteT ⟨_, rfl, k H (Same.refl H)⟩⟩
      | br row a L h1 h2 =>
        refine ⟨_, rfl, .ref a, _, _, _, false, rfl, ClsV.ty "str", .base (.tup h1), kit_ty (by decide +kernel), false, rfl, iteF ?_⟩
        have dep : ∀ q ∈ L, 1 ≤ d ∧ q.2.depth ≤ d - 1 := fun q hq => by
          rw [Sh.depth] at dp
          have := depth_mem (List.mem_map_of_mem (f := (·.2)) hq)
          omega
        have fl : Sh.tlenL (L.map (·.2)) ≤ 100000 := by rw [Sh.tlen] at tl; omega
        have ln := tlen_len (L.map (·.2))
        rw [List.length_map] at ln
        refine ⟨rfl, _, rfl, _, rfl, a, _, rfl, SqT.of h1, ?_, fun sl hsl => ?_⟩
        · rintro ⟨e, _⟩
          have : HT.sIx (V.str (kindS row) :: L.map (·.1)).length 0 (some ((1 : Nat) : Int)) = 0 := e
          rw [HT.sIx_nat, List.length_cons] at this
          omega
        rw [cut_one, List.drop_succ_cons, List.drop_zero]
        have s1 := Same.upd_new hsl (o := .tup (L.map (·.1)))
        have hsl1 := upd_same (H := H) (a := sl) (o := .tup (L.map (·.1)))
        have h2 := fun q hq => (h2 q hq).of s1
        generalize upd H sl (.tup (L.map (·.1))) = H1 at *
        refine ⟨sl, rfl, ⟨_, SqT.of hsl1⟩, fun D hD => lc_it (walk_tup (K := K) (a := sl) (xs := L.map (·.1))) (fun i H' => Same H1 H' ∧ H' D = some (.lst ((((L.map (·.2)).take i).map Sh.text).map V.str))) ⟨Same.upd_new hD, upd_same⟩ (fun i H' _ ⟨s, _⟩ => SqT.of (s _ _ hsl1)) ?_ ?_⟩
        · rintro i v H9 H2 hi ⟨s2, hl⟩ ⟨rfl, hv⟩
          obtain ⟨q, hq, rfl⟩ : ∃ q, L[i]? = some q ∧ v = q.1 := by
            rw [List.getElem?_map] at hv
            cases e : L[i]? with
            | none => rw [e] at hv; cases hv
            | some q => rw [e] at hv; exact ⟨q, rfl, (Option.some.inj hv).symm⟩
          have hqm := List.mem_of_getElem? hq
          have tp := tlen_part (List.mem_map_of_mem (f := (·.2)) hqm)
          refine ⟨rfl, _, rfl, (dep q hqm).1, q.1, q.2, rfl, (h2 q hqm).of s2, (dep q hqm).2, by omega, fun H3 s3 => ?_⟩
          refine ⟨_, s3 _ _ hl, ?_, fun b o e => ?_, ?_⟩
          · rw [List.length_map, List.length_map, List.length_take, List.length_map]
            exact Nat.lt_of_le_of_lt (Nat.le_trans (Nat.min_le_right _ _) (Nat.le_trans ln fl)) (by decide)
          · rw [upd_ne (ne_of_none e hD)]
            exact s3 _ _ (s2 _ _ e)
          · rw [upd_same, take_one (show (L.map (·.2))[i]? = some q.2 by rw [List.getElem?_map, hq]; rfl), List.map_append, List.map_append]
            rfl
        · rintro H2 ⟨s2, hl⟩
          rw [List.length_map, show L.length = (L.map (·.2)).length by rw [List.length_map], List.take_length] at hl
          have one : (" " : Str).length = 1 := by decide +kernel
          have tl2 := textL_len (L.map (·.2))
          rw [textL_eq] at tl2
          have s12 := s1.trans s2
          obtain ⟨b1, b2, b3, b4, et⟩ := txt_js tl
          have e0 : (Str.empty ++ (if row then ("[" : Str) else "(")) = (if row then ("[" : Str) else "(") := by cases row <;> decide +kernel
          rw [e0] at b3 b4 et
          rw [← et] at k
          refine ⟨" ", D, _, rfl, rfl, .inl (SqL.of hl), by rw [one, Nat.mul_one]; omega, ?_⟩
          refine ⟨_, rfl, a, _, 0, _, rfl, rfl, SqT.of (s12 _ _ h1), at_first10 rfl, rfl, _, rfl, ?_⟩
          cases row with
          | true => exact iteY (by decide +kernel) ⟨_, rfl, _, _, rfl, rfl, by rw [← sap_len]; exact b3, _, _, rfl, rfl, by rw [← sap_len]; exact b4, k H2 s12⟩
          | false => exact iteZ (by decide +kernel) ⟨_, rfl, _, _, rfl, rfl, by rw [← sap_len]; exact b3, _, _, rfl, rfl, by rw [← sap_len]; exact b4, k H2 s12⟩
  intro d
  induction d with
  | zero => exact all 0 fun e h => absurd h (by omega)
  | succ e ih => exact all (e + 1) fun e' h => Nat.succ.inj h ▸ ih
end
end Dl

/-! sets of tuples of texts: my own rule. First: what such a tuple is asked -/
namespace Dl
open PySem PySem.Spec PyProof.Rows L2
/-- the tuple at a has the texts k -/
abbrev Tx (P : Program) (w : World) (h : Heap) (k : List Str) (a : Addr) : Prop := IsTupleKey (strKind P w) h k a
abbrev txHash (P : Program) (w : World) (k : List Str) : Int := tupleKeyHash (strKind P w) k
section
variable {P : Program} {w : World} {A : Around} {E : Value → Shared → Prop} {s : Shared}
theorem texts_of {k : List Str} {vs : List Value} (h : ItemsAre (strKind P w) k vs) : ∀ v ∈ vs, ∃ z t, v = Value.str z t := by
  induction h with
  | nil => exact fun v hv => absurd hv (by simp)
  | @cons z u ks us one _ rest =>
    intro v hv
    cases hv with
    | head => exact ⟨z, Value.isStrOf_shape one⟩
    | tail _ hv => exact rest v hv
theorem text_class (n : Nat) (z : Str) (t : Tok) : ofAClassStatement n (.str z t) = pure false := by cases n <;> rfl
theorem text_hash (n : Nat) (z : Str) (t : Tok) : hashByValue n (.str z t) = pure false := by cases n <;> rfl
/-- it is of no class statement -/
theorem tx_class {k : List Str} {b : Addr} {Q : Bool → Shared → Prop} (tx : Tx P w s.heap k b) (q : Q false s) : wpAny (model P w) A (ofAClassStatement 8 (.ref b)) Q E s := by
  obtain ⟨o, items, n, at_, cls, dat, its⟩ := id tx
  have texts := texts_of its
  unfold ofAClassStatement
  apply wpAny_bind
  apply wpAny_typeOf tx.typeIs
  dsimp only
  simp only [show ((("tuple" : String) == "tuple") = true) from by decide, if_true, Bool.not_true, Bool.false_eq_true, if_false]
  try apply wpAny_bind (wpAny_pure _)
  try simp only [Bool.not_true, Bool.false_eq_true, if_false]
  change wpAny _ _ (seqItems? (.ref b) >>= _) _ _ s
  apply wpAny_bind
  apply wpAny_seqItems at_ dat
  dsimp only
  apply wpAny_bind
  change wpAny _ _ (forIn items _ _) _ _ s
  rw [← Array.forIn_toList]
  apply wpAny_forIn_list _ (fun left r s1 => (r.1 = none ∧ s1 = s) ∧ ∀ v ∈ left, ∃ z t, v = Value.str z t) _ _ _ _ _ ⟨⟨rfl, rfl⟩, texts⟩
  · rintro v left r s1 ⟨⟨r0, rfl⟩, all⟩
    obtain ⟨z, t, rfl⟩ := all v (List.mem_cons_self ..)
    rw [text_class]
    apply wpAny_bind
    apply wpAny_pure
    exact wpAny_pure ⟨⟨rfl, rfl⟩, fun u hu => all u (List.mem_cons_of_mem _ hu)⟩
  · rintro ⟨r1, r2⟩ s1 ⟨⟨r0, rfl⟩, _⟩
    cases r0
    exact wpAny_pure q
/-- whether its hash goes by its value: some answer -/
theorem tx_byvalue {k : List Str} {b : Addr} {Q : Bool → Shared → Prop} (tx : Tx P w s.heap k b) (q : ∀ c, Q c s) : wpAny (model P w) A (hashByValue 8 (.ref b)) Q E s := by
  obtain ⟨o, items, n, at_, cls, dat, its⟩ := id tx
  have texts := texts_of its
  unfold hashByValue
  apply wpAny_bind
  apply wpAny_specialOf tx.typeIs F.slot_tuple_hash.lookup
  change wpAny _ _ (seqItems? (.ref b) >>= _) _ _ s
  apply wpAny_bind
  apply wpAny_seqItems at_ dat
  apply wpAny_bind
  change wpAny _ _ (forIn items _ _) _ _ s
  rw [← Array.forIn_toList]
  apply wpAny_forIn_list _ (fun left r s1 => s1 = s ∧ ∀ v ∈ left, ∃ z t, v = Value.str z t) _ _ _ _ _ ⟨rfl, texts⟩
  · rintro v left r s1 ⟨rfl, all⟩
    obtain ⟨z, t, rfl⟩ := all v (List.mem_cons_self ..)
    rw [text_hash]
    apply wpAny_bind
    apply wpAny_pure
    exact wpAny_pure (wpAny_pure (q false))
  · rintro ⟨r1, r2⟩ s1 ⟨rfl, _⟩
    cases r1 with
    | none => exact wpAny_pure (q true)
    | some c => exact wpAny_pure (q c)
/-- a search among such tuples shows nothing -/
theorem tx_unseen {k : List Str} {b : Addr} {Q : Bool → Shared → Prop} (tx : Tx P w s.heap k b) {ys : List Value} (hy : ∀ y ∈ ys, ∃ k2 c, y = Value.ref c ∧ Tx P w s.heap k2 c) (q : Q false s) : wpAny (model P w) A (searchCouldBeSeen (.ref b) ys) Q E s := by
  unfold searchCouldBeSeen
  apply wpAny_bind
  apply wpAny_forIn_list _ (fun left r s1 => (r.1 = none ∧ s1 = s) ∧ ∀ y ∈ left, ∃ k2 c, y = Value.ref c ∧ Tx P w s.heap k2 c) _ _ _ _ _ ⟨⟨rfl, rfl⟩, hy⟩
  · rintro v left r s1 ⟨⟨r0, rfl⟩, all⟩
    obtain ⟨k2, c, rfl, tc⟩ := all v (List.mem_cons_self ..)
    have more := fun u (hu : u ∈ left) => all u (List.mem_cons_of_mem _ hu)
    by_cases known : (b == c || (carriedByValue (.ref b) && carriedByValue (.ref c))) = true
    · exact wp_if_pos known (wpAny_pure ⟨⟨rfl, rfl⟩, more⟩)
    · apply wp_if_neg known
      apply wpAny_bind
      apply wpAny_eqIsQuiet_tuple tx
      simp only [Bool.not_true, Bool.false_eq_true, if_false]
      apply wpAny_bind
      apply wpAny_eqIsQuiet_tuple tc
      simp only [Bool.not_true, Bool.false_eq_true, if_false]
      apply wpAny_bind
      apply tx_class tx
      simp only [Bool.false_eq_true, if_false]
      apply wpAny_bind
      apply tx_class tc
      simp only [Bool.false_eq_true, if_false]
      exact wpAny_pure ⟨⟨rfl, rfl⟩, more⟩
  · rintro ⟨r1, r2⟩ s1 ⟨⟨r0, rfl⟩, _⟩
    cases r0
    exact wpAny_pure q
end
end Dl

/-! sets of many tuples of texts. First: the way of a hash meets every slot of a table of 2^n slots -/
namespace Dl
open PySem PySem.Spec PyProof.Rows L2
/-- 0, 1, 6, 31, .. -/
def lin : Nat → Nat
  | 0 => 0
  | k + 1 => lin k * 5 + 1
theorem lin_add (b : Nat) : ∀ c, lin (b + c) = lin b + lin c * (4 * lin b + 1)
  | 0 => by show lin b = lin b + 0 * _; omega
  | c + 1 => by
    show lin (b + c) * 5 + 1 = lin b + (lin c * 5 + 1) * (4 * lin b + 1)
    rw [lin_add b c, Nat.add_mul (lin c * 5), Nat.mul_right_comm (lin c) 5]
    generalize lin c * (4 * lin b + 1) = z
    omega
theorem lin_two : ∀ n, ∃ t, lin (2 ^ n) = 2 ^ n * (2 * t + 1)
  | 0 => ⟨0, rfl⟩
  | n + 1 => by
    obtain ⟨t, e⟩ := lin_two n
    have z : 2 ^ (n + 1) = 2 ^ n + 2 ^ n := by rw [Nat.pow_succ]; omega
    obtain ⟨x, hx⟩ : ∃ x, x = lin (2 ^ n) := ⟨_, rfl⟩
    refine ⟨t * (2 * x + 1) + x, ?_⟩
    rw [z, lin_add, ← hx]
    have a : x + x * (4 * x + 1) = 2 * (x * (2 * x + 1)) := by
      rw [Nat.mul_add, Nat.mul_add, ← Nat.mul_assoc, ← Nat.mul_assoc, Nat.mul_comm x 4, Nat.mul_comm x 2, Nat.mul_assoc, Nat.mul_assoc]
      generalize x * x = y
      omega
    have b : 2 * (t * (2 * x + 1) + x) + 1 = (2 * t + 1) * (2 * x + 1) := by
      rw [Nat.add_mul, Nat.mul_assoc]
      generalize t * (2 * x + 1) = y
      omega
    have c : x * (2 * x + 1) = 2 ^ n * ((2 * t + 1) * (2 * x + 1)) := by
      rw [← Nat.mul_assoc, ← e, ← hx]
    rw [a, b, c]
    generalize (2 * t + 1) * (2 * x + 1) = y
    rw [Nat.add_mul]
    omega
theorem lin_all : ∀ n j, ∃ b, b < 2 ^ n ∧ lin b % 2 ^ n = j % 2 ^ n
  | 0, j => ⟨0, by decide, by show 0 % 1 = j % 1; omega⟩
  | n + 1, j => by
    obtain ⟨b, lt, e⟩ := lin_all n j
    obtain ⟨t, two⟩ := lin_two n
    have pos : 0 < 2 ^ n := Nat.pow_pos (by decide)
    have z : 2 ^ (n + 1) = 2 ^ n * 2 := Nat.pow_succ ..
    rw [z]
    by_cases c : lin b % (2 ^ n * 2) = j % (2 ^ n * 2)
    · exact ⟨b, by omega, c⟩
    · refine ⟨b + 2 ^ n, by omega, ?_⟩
      have u : lin (b + 2 ^ n) = lin b + 2 ^ n + 2 ^ n * 2 * ((2 * t + 1) * (2 * lin b) + t) := by
        rw [lin_add, two, Nat.mul_assoc, Nat.add_assoc, Nat.mul_assoc (2 ^ n) 2]
        have q : (2 * t + 1) * (4 * lin b + 1) = 1 + 2 * ((2 * t + 1) * (2 * lin b) + t) := by
          have q2 : (2 * t + 1) * (4 * lin b) = 2 * ((2 * t + 1) * (2 * lin b)) := by
            rw [show 4 * lin b = 2 * (2 * lin b) by omega, Nat.mul_left_comm]
          rw [Nat.mul_add, q2]
          generalize (2 * t + 1) * (2 * lin b) = y
          omega
        rw [q, Nat.mul_add (2 ^ n) 1, Nat.mul_one]
      rw [u, Nat.add_mul_mod_self_left]
      rw [Nat.mod_mul, Nat.mod_mul] at c ⊢
      rw [Nat.add_mod_right, Nat.add_div_right _ pos]
      rw [e] at c ⊢
      have d : lin b / 2 ^ n % 2 ≠ j / 2 ^ n % 2 := fun k => c (by rw [k])
      have f : (lin b / 2 ^ n).succ % 2 = j / 2 ^ n % 2 := by omega
      rw [f]
theorem lin_round (n a : Nat) : lin (2 ^ n + a) % 2 ^ n = lin a % 2 ^ n := by
  obtain ⟨t, two⟩ := lin_two n
  have u : lin (2 ^ n + a) = lin a + 2 ^ n * ((2 * t + 1) * (1 + 4 * lin a)) := by
    rw [lin_add, ← Nat.mul_assoc, ← two]
    generalize lin (2 ^ n) = y
    rw [Nat.mul_add, Nat.mul_add, Nat.mul_one, Nat.mul_one, Nat.mul_left_comm (lin a), Nat.mul_left_comm y, Nat.mul_comm (lin a) y]
    omega
  rw [u, Nat.add_mul_mod_self_left]
/-- a mask with so many ones -/
def Ones (m : Nat) : Prop := ∃ n, 3 ≤ n ∧ m + 1 = 2 ^ n
theorem lin_walk {m : Nat} (a : Nat) : ∀ k, lcgI m (lin a % (m + 1)) k = lin (a + k) % (m + 1)
  | 0 => rfl
  | k + 1 => by
    show (lcgI m (lin a % (m + 1)) k * 5 + 1) % (m + 1) = (lin (a + k) * 5 + 1) % (m + 1)
    rw [lin_walk a k]
    simp [Nat.add_mod, Nat.mul_mod]
theorem all_met {m : Nat} (one : Ones m) {i j : Nat} (hi : i ≤ m) (hj : j ≤ m) : ∃ k, k ≤ m ∧ lcgI m i k = j := by
  obtain ⟨n, _, e⟩ := one
  obtain ⟨a, la, ea⟩ := lin_all n i
  obtain ⟨b, lb, eb⟩ := lin_all n j
  rw [← e] at ea eb la lb
  rw [Nat.mod_eq_of_lt (Nat.lt_succ_of_le hi)] at ea
  rw [Nat.mod_eq_of_lt (Nat.lt_succ_of_le hj)] at eb
  have w := lin_walk (m := m) a
  rw [ea] at w
  rcases Nat.lt_or_ge b a with c | c
  · refine ⟨m + 1 + b - a, by omega, ?_⟩
    rw [w, show a + (m + 1 + b - a) = m + 1 + b by omega, e, lin_round, ← e, eb]
  · refine ⟨b - a, by omega, ?_⟩
    rw [w, show a + (b - a) = b by omega, eb]
theorem runs_meet {m : Nat} (one : Ones m) (h : Int) {j : Nat} (hj : j ≤ m) : ∃ n, n ≤ m + 12 ∧ runI m (SetTable.bits h) n = j := by
  obtain ⟨k, le, e⟩ := all_met one (runI_le m (SetTable.bits h) 12) hj
  exact ⟨12 + k, by omega, by rw [runI_tail (bits_lt h), e]⟩
theorem way_meets {m : Nat} (one : Ones m) (h : Int) {j : Nat} (hj : j ≤ m) : ∃ k, k < 10 * SetTable.turns m ∧ way m h k = j := by
  obtain ⟨n, le, e⟩ := runs_meet one h hj
  obtain ⟨k, lk, e2⟩ := run_nth m (SetTable.bits h) n
  refine ⟨k, by unfold SetTable.turns; omega, ?_⟩
  unfold way
  rw [e2, ← e]
  rfl
theorem way_in (m : Nat) (h : Int) (k : Nat) : way m h k ≤ m := by
  have le : SetTable.bits h % (m + 1) ≤ m := Nat.le_of_lt_succ (Nat.mod_lt _ (Nat.succ_pos _))
  have bd := runEnd_bd le
  have q := nth_in (m := m) k (runAt m (SetTable.bits h % (m + 1)) (SetTable.bits h)) (by
    show SetTable.bits h % (m + 1) + (SetTable.runEnd m (SetTable.bits h % (m + 1)) - SetTable.bits h % (m + 1)) ≤ m
    omega)
  exact Nat.le_trans (Nat.le_add_right _ _) q
/-- a table with n slots taken -/
structure Tab (t : SetTable) (n : Nat) : Prop where
  ris : Ris t.place.toList
  dm : t.dummies = #[]
  sz : t.place.size = n
  one : Ones t.mask
  bd : ∀ x ∈ t.place.toList, x ≤ t.mask
/-- the first empty slot on the way -/
theorem Tab.first {t : SetTable} {n : Nat} (T : Tab t n) (hl : n ≤ t.mask) (h : Int) : ∃ K, K < 10 * SetTable.turns t.mask ∧ way t.mask h K ∉ t.place.toList ∧ ∀ k, k < K → way t.mask h k ∈ t.place.toList := by
  obtain ⟨j, lj, out⟩ := st_missing t.place.toList (t.mask + 1) (by rw [Array.length_toList, T.sz]; omega)
  obtain ⟨k, lk, e⟩ := way_meets T.one h (Nat.le_of_lt_succ lj)
  obtain ⟨K, h1, h2, h3⟩ := st_least (p := fun k => way t.mask h k ∉ t.place.toList) k (by rw [e]; exact out)
  exact ⟨K, Nat.lt_of_le_of_lt h1 lk, h2, fun k2 l2 => Classical.byContradiction fun c => h3 k2 l2 c⟩
theorem Tab.put {t : SetTable} {n j : Nat} (T : Tab t n) (out : j ∉ t.place.toList) (le : j ≤ t.mask) :
    SetTable.below t.place j ≤ n ∧ Tab (t.put j).1 (n + 1) ∧ (t.put j).1.fill = n + 1 := by
  obtain ⟨c1, _, _⟩ := below_cut T.ris j
  have inside : SetTable.below t.place j ≤ t.place.toList.length := by rw [Array.length_toList]; exact c1
  have laid := put_place t j
  have size : (t.put j).1.place.size = n + 1 := by
    rw [← Array.length_toList, laid, len_ins _ inside, Array.length_toList, T.sz]
  refine ⟨T.sz ▸ c1, ⟨ris_insert T.ris fun e => out (List.mem_of_getElem? (by rw [Array.getElem?_toList]; exact e)), put_dm T.dm j, size, T.one, fun x hx => ?_⟩, ?_⟩
  · rw [laid] at hx
    rcases mem_ins.1 hx with rfl | z
    · exact le
    · exact T.bd x z
  · show (t.put j).1.place.size + (t.put j).1.dummies.size = n + 1
    rw [size, put_dm T.dm j]
    rfl
/-- n are seated -/
structure Seats (m n : Nat) (owner : Array (Option Nat)) : Prop where
  sz : owner.size = m + 1
  all : ∀ k, k < n → ∃ j, j ≤ m ∧ oAt owner j = some k
  few : ∃ ps : List Nat, ps.length = n ∧ ∀ j, j ≤ m → oAt owner j ≠ none → j ∈ ps
theorem Seats.next {m n : Nat} (one : Ones m) {owner : Array (Option Nat)} (S : Seats m n owner) (le : n ≤ m) (h : Int) :
    ∃ j, SetTable.layClean.free m owner (SetTable.turns m) (SetTable.bits h % (m + 1)) (SetTable.bits h) = some j ∧ Seats m (n + 1) (owner.setIfInBounds j (some n)) := by
  obtain ⟨ps, lps, inps⟩ := S.few
  obtain ⟨j0, l0, out0⟩ := st_missing ps (m + 1) (by omega)
  have l0 := Nat.le_of_lt_succ l0
  have empty0 : oAt owner j0 = none := Classical.byContradiction fun c => out0 (inps j0 l0 c)
  obtain ⟨r, lr, er⟩ := runs_meet one h l0
  have there : way m h (off m (SetTable.bits h % (m + 1)) (SetTable.bits h) r) = j0 := by
    unfold way
    rw [nth_off, itL_run]
    exact er
  obtain ⟨K, k1, k2, k3⟩ := st_least (p := fun k => oAt owner (way m h k) = none) (off m (SetTable.bits h % (m + 1)) (SetTable.bits h) r) (by rw [there]; exact empty0)
  have got := free_spec m owner (SetTable.turns m) r (SetTable.bits h % (m + 1)) (SetTable.bits h) K (by unfold SetTable.turns; omega) k1 (fun k lk => by
    have q := k3 k lk
    cases z : oAt owner (way m h k) with
    | none => exact absurd z q
    | some _ =>
      rfl) (by
    show (oAt owner (way m h K)).isNone = true
    rw [k2]
    rfl)
  have lw := way_in m h K
  refine ⟨way m h K, got, ?_⟩
  have mine := oAt_set_self (some n) (show way m h K < owner.size by rw [S.sz]; exact Nat.lt_succ_of_le lw)
  refine ⟨by rw [Array.size_setIfInBounds]; exact S.sz, fun k lk => ?_, way m h K :: ps, by rw [List.length_cons, lps], fun j lj e => ?_⟩
  · rcases Nat.lt_or_ge k n with c | c
    · obtain ⟨j, lj, e⟩ := S.all k c
      exact ⟨j, lj, by rw [oAt_set_ne _ (fun z => by rw [z, k2] at e; cases e)]; exact e⟩
    · exact ⟨way m h K, lw, by rw [mine, show k = n by omega]⟩
  · by_cases c : j = way m h K
    · rw [c]
      exact List.mem_cons_self ..
    · rw [oAt_set_ne _ c] at e
      exact List.mem_cons_of_mem _ (inps j lj e)
theorem seats_all {m : Nat} (one : Ones m) : ∀ (rest : List Int) (n : Nat) (owner : Array (Option Nat)), Seats m n owner → n + rest.length ≤ m →
    ∃ owner', rest.foldl (stepF m) (some (owner, n)) = some (owner', n + rest.length) ∧ Seats m (n + rest.length) owner'
  | [], n, owner, S, _ => ⟨owner, rfl, S⟩
  | h :: rest, n, owner, S, le => by
    rw [List.length_cons] at le
    obtain ⟨j, e, S2⟩ := S.next one (by omega) h
    obtain ⟨owner', f, S3⟩ := seats_all one rest (n + 1) _ S2 (by omega)
    rw [List.length_cons, show n + (rest.length + 1) = n + 1 + rest.length by omega, List.foldl_cons, stepF_some e]
    exact ⟨owner', f, S3⟩
theorem anew {m : Nat} (one : Ones m) {hs : Array Int} (le : hs.size ≤ m) (t : SetTable) {wanted : Nat} (hw : SetTable.sizeAbove wanted - 1 = m) :
    ∃ t' order, t.relaid hs wanted = some (t', order) ∧ order.toList.Perm (List.range hs.size) ∧ Tab t' hs.size ∧ t'.mask = m ∧ t'.led = t.led := by
  obtain ⟨owner, f, S⟩ := seats_all one hs.toList 0 (Array.replicate (m + 1) none) ⟨by simp, fun k hk => absurd hk (Nat.not_lt_zero _), [], rfl, fun j lj e => absurd (oAt_init lj) e⟩ (by rw [Array.length_toList]; omega)
  rw [Array.length_toList, Nat.zero_add] at f S
  have laid : SetTable.layClean m hs = some owner := by rw [layClean_eq, f]; rfl
  have got : t.relaid hs wanted = some (tabOf t m owner, ((liveOf m owner).map (·.2)).toArray) := by
    rw [relaid_eq, hw, laid]
    rfl
  obtain ⟨ris, inside⟩ := ris_live (fun j => owner.getD j none) (List.range (m + 1)) (by
    unfold Ris
    first | exact List.pairwise_lt_range | exact List.pairwise_lt_range _)
  have ris : Ris ((liveOf m owner).map (·.1)) := ris
  have nd : ((liveOf m owner).map (·.1)).Nodup := List.Pairwise.imp (fun h => Nat.ne_of_lt h) ris
  have inside : ∀ x ∈ (liveOf m owner).map (·.1), x ∈ List.range (m + 1) := inside
  have count : (liveOf m owner).length = hs.size := by
    obtain ⟨ps, p1, p2⟩ := S.few
    have a := nat_nodup_len ((liveOf m owner).map (·.1)) ps nd fun x hx => by
      obtain ⟨⟨y, k⟩, hq, rfl⟩ := List.mem_map.mp hx
      obtain ⟨b1, b2⟩ := (mem_live S.sz).1 hq
      exact p2 y b1 (by rw [b2]; exact fun z => nomatch z)
    have b := nat_nodup_len (List.range hs.size) ((liveOf m owner).map (·.2)) List.nodup_range fun k hk => by
      obtain ⟨j, b1, b2⟩ := S.all k (List.mem_range.mp hk)
      exact List.mem_map.mpr ⟨(j, k), (mem_live S.sz).2 ⟨b1, b2⟩, rfl⟩
    rw [List.length_map, p1] at a
    rw [List.length_map, List.length_range] at b
    omega
  refine ⟨_, _, got, L2.perm_range hs.size _ (by show ((liveOf m owner).map (·.2)).length = _; rw [List.length_map]; exact count) fun k hk => ?_, ⟨ris, rfl, ?_, one, fun x hx => Nat.le_of_lt_succ (List.mem_range.mp (inside x hx))⟩, rfl, rfl⟩
  · obtain ⟨j, b1, b2⟩ := S.all k hk
    exact List.mem_map.mpr ⟨(j, k), (mem_live S.sz).2 ⟨b1, b2⟩, rfl⟩
  · show ((liveOf m owner).map (·.1)).toArray.size = hs.size
    rw [List.size_toArray, List.length_map]
    exact count
end Dl

/-! sets of many tuples of texts, all different: the search of a new one, one more -/
namespace Dl
open PySem PySem.Spec PyProof.Rows L2
def MaskB (m : Nat) : Prop := m = 7 ∨ m = 31 ∨ m = 127 ∨ m = 511 ∨ m = 2047
theorem MaskB.ones {m : Nat} (h : MaskB m) : Ones m := by
  rcases h with e | e | e | e | e <;> subst e
  · exact ⟨3, by decide, by decide⟩
  · exact ⟨5, by decide, by decide⟩
  · exact ⟨7, by decide, by decide⟩
  · exact ⟨9, by decide, by decide⟩
  · exact ⟨11, by decide, by decide⟩
theorem MaskB.le {m : Nat} (h : MaskB m) : m ≤ 2047 := by
  rcases h with e | e | e | e | e <;> subst e <;> decide
abbrev KeyedB := List (Addr × List Str)
def entB (P : Program) (w : World) (L : KeyedB) : List (Int × Value) := L.map fun p => (txHash P w p.2, Value.ref p.1)
/-- the set at a has the tuples L -/
structure HeldB (P : Program) (w : World) (h : Heap) (a : Addr) (L : KeyedB) (es : Array (Int × Value)) (ep : Nat) (t : SetTable) : Prop where
  obj : ∃ o, h.get? a = some o ∧ o.ExactSet ∧ o.data = .set es ep t
  ent : es.toList = entB P w L
  tab : Tab t L.length
  kind : MaskB t.mask
  txt : ∀ p ∈ L, Tx P w h p.2 p.1
  room : L.length * 5 < t.mask * 3
/-- where the walk of a hash begins -/
def fromB (m : Nat) (h : Int) : SetTable.Probe := runAt m (SetTable.bits h % (m + 1)) (SetTable.bits h)
theorem no_dummyB (m : Nat) : ∀ (n : Nat) (p : SetTable.Probe), p.dummy = none → (nth m p n).dummy = none
  | 0, _, h => h
  | n + 1, p, h => no_dummyB m n (adv m p) (by unfold adv; split <;> exact h)
theorem ones_odd {m : Nat} (one : Ones m) : m % 2 = 1 := by
  obtain ⟨n, le, e⟩ := one
  obtain ⟨k, rfl⟩ : ∃ k, n = k + 1 := ⟨n - 1, by omega⟩
  rw [Nat.pow_succ] at e
  omega
section
variable {P : Program} {w : World} {A : Around} {E : Value → Shared → Prop} {s : Shared} {a : Addr} {L : KeyedB} {es : Array (Int × Value)} {ep : Nat} {t : SetTable}
theorem entB_len (es : Array (Int × Value)) (L : KeyedB) (h : es.toList = entB P w L) : es.size = L.length := by
  rw [← Array.length_toList, h]
  exact List.length_map _
theorem entB_at (es : Array (Int × Value)) (L : KeyedB) (h : es.toList = entB P w L) {i : Nat} {p : Addr × List Str} (e : L[i]? = some p) : es[i]? = some (txHash P w p.2, Value.ref p.1) := by
  rw [← Array.getElem?_toList, h]
  unfold entB
  rw [List.getElem?_map, e]
  rfl
theorem fits_of {t : SetTable} {n k : Nat} (T : Tab t n) (le : n ≤ t.mask) (e : k = n) : t.fits k = true := by
  have e5 : t.fill ≤ t.mask := by
    show t.place.size + t.dummies.size ≤ t.mask
    rw [T.dm, T.sz]
    exact le
  unfold SetTable.fits
  rw [show t.place.size = k by rw [T.sz, e], beq_self_eq_true, Bool.true_and]
  exact decide_eq_true e5
theorem HeldB.size {h : Heap} (R : HeldB P w h a L es ep t) : es.size = L.length := entB_len es L R.ent
theorem HeldB.fits {h : Heap} (R : HeldB P w h a L es ep t) : t.fits es.size = true := fits_of R.tab (by have := R.room; omega) R.size
theorem HeldB.stays {h : Heap} (R : HeldB P w h a L es ep t) : t.gaveWay = false := by
  unfold SetTable.gaveWay
  rw [ones_odd R.tab.one]
  rfl
theorem searchB (R : HeldB P w s.heap a L es ep t) {x : Addr} {k : List Str} (tx : Tx P w s.heap k x) (hu : A.units < cLine) (new : k ∉ L.map (·.2)) {K : Nat} (bound : K < 10 * SetTable.turns t.mask)
    (free : way t.mask (txHash P w k) K ∉ t.place.toList) (taken : ∀ c, c < K → way t.mask (txHash P w k) c ∈ t.place.toList) {Q : SetFound → Shared → Prop}
    (no : Q (.free (way t.mask (txHash P w k) K) false) s) (f : Nat) :
    ∀ (c : Nat) (stand : Option SetTable.Probe), stand.getD (t.probeStart (txHash P w k)) = nth t.mask (fromB t.mask (txHash P w k)) c → c ≤ K → K - c < f →
      wpAny (model P w) A (setSearchFrom a (.ref x) (txHash P w k) true f stand) Q E s := by
  induction f with
  | zero => exact fun c stand _ _ less => absurd less (Nat.not_lt_zero _)
  | succ f ih =>
    intro c stand from_ le less
    obtain ⟨o, obj, exact_, dat⟩ := R.obj
    have go : ∀ q, nth t.mask (nth t.mask (fromB t.mask (txHash P w k)) c) q = nth t.mask (fromB t.mask (txHash P w k)) (c + q) := fun q => (nth_add t.mask c _ q).symm
    have spot : ∀ q, (nth t.mask (nth t.mask (fromB t.mask (txHash P w k)) c) q).j = way t.mask (txHash P w k) (c + q) := fun q => congrArg (fun z => SetTable.Probe.j z) (go q)
    have last : way t.mask (txHash P w k) (c + (K - c)) = way t.mask (txHash P w k) K := by rw [show c + (K - c) = K by omega]
    have told := go_spec t R.tab.ris R.tab.dm (fun i => (es[i]?.map (·.1)).getD 0) (txHash P w k) (10 * SetTable.turns t.mask) (K - c) (nth t.mask (fromB t.mask (txHash P w k)) c) (no_dummyB _ _ _ rfl) (by omega)
      (fun q lq => by rw [spot]; exact taken _ (by omega)) (by rw [spot, last]; exact free)
    rw [setSearchFrom_succ]
    apply wpAny_bind
    apply wpAny_setState_of obj dat R.fits
    dsimp only
    apply wp_if_neg (by rw [R.stays]; decide)
    try apply wpAny_bind (wpAny_pure _)
    rw [from_]
    rcases told with ⟨q, i, lq, at_i, same, before, met⟩ | ⟨none_, met⟩
    case inr =>
      rw [spot, last] at met
      have met2 : t.probe (fun i => (es[i]?.map (·.1)).getD 0) (txHash P w k) (nth t.mask (fromB t.mask (txHash P w k)) c) = some (.empty (way t.mask (txHash P w k) K) none) := met
      rw [met2]
      dsimp only
      exact wpAny_pure no
    rw [spot, go] at met
    rw [spot] at at_i
    have met2 : t.probe (fun i => (es[i]?.map (·.1)).getD 0) (txHash P w k) (nth t.mask (fromB t.mask (txHash P w k)) c) = some (.candidate (way t.mask (txHash P w k) (c + q)) i (nth t.mask (fromB t.mask (txHash P w k)) (c + (q + 1)))) := met
    rw [met2]
    dsimp only
    have il : i < L.length := by
      have z := (List.getElem?_eq_some_iff.mp at_i).1
      rw [Array.length_toList, R.tab.sz] at z
      exact z
    obtain ⟨p, li⟩ : ∃ p, L[i]? = some p := ⟨_, List.getElem?_eq_getElem il⟩
    have pm := List.mem_of_getElem? li
    have ei := entB_at es L R.ent li
    have ne : p.2 ≠ k := fun e => new (List.mem_map.mpr ⟨p, pm, e⟩)
    have live : t.slot (way t.mask (txHash P w k) (c + q)) = .live i := slot_live R.tab.ris at_i
    have rest : wpAny (model P w) A (searchRest a (.ref x) (txHash P w k) true f es t (way t.mask (txHash P w k) (c + q)) i (nth t.mask (fromB t.mask (txHash P w k)) (c + (q + 1)))) Q E s := by
      unfold searchRest
      rw [ei]
      dsimp only
      apply wpAny_bind
      apply wpAny_holding
      apply wpAny_eqBool_tuple hu (R.txt p pm) tx
      apply wpAny_bind
      apply wpAny_setState_of obj dat R.fits
      dsimp only
      apply wp_if_neg (by simp [ne])
      try apply wpAny_bind (wpAny_pure _)
      rw [sameMem]
      dsimp only
      simp only [if_true, live, ei]
      apply wpAny_bind
      apply wpAny_isSame_ref_self
      apply wpAny_bind
      apply wpAny_pure
      simp only [if_true]
      apply wp_if_neg (by simp [ne])
      exact ih (c + (q + 1)) _ rfl (by omega) (by omega)
    by_cases ld : t.led = true
    · apply wp_if_neg (by simp [ld])
      try apply wpAny_bind (wpAny_pure _)
      exact rest
    · apply wp_if_pos (by simp [ld])
      apply wpAny_bind
      refine tx_unseen tx (fun y hy => ?_) ?_
      · obtain ⟨e, he, rfl⟩ := List.mem_map.mp hy
        have he : e ∈ es := by simp at he; exact he.1
        have he : e ∈ es.toList := by simpa using he
        rw [R.ent] at he
        obtain ⟨p2, hp2, rfl⟩ := List.mem_map.mp he
        exact ⟨p2.2, p2.1, rfl, R.txt p2 hp2⟩
      · apply wp_if_neg (by decide)
        try apply wpAny_bind (wpAny_pure _)
        exact rest
theorem txB_but {h h' : Heap} {k : List Str} {b : Addr} {o : Obj} (tx : Tx P w h k b) (obj : h.get? a = some o) (dat : o.data = .set es ep t) (same : Heap.SameBut a h h') : Tx P w h' k b := by
  obtain ⟨o2, items, n, obj2, cls2, dat2, its⟩ := tx
  have ne : b ≠ a := fun e => by
    rw [e, obj] at obj2
    cases obj2
    rw [dat] at dat2
    cases dat2
  exact ⟨o2, items, n, (same.2 b ne).trans obj2, cls2, dat2, its⟩
/-- the entries in another order -/
theorem reorderB (order : Array Nat) (ent : es.toList = entB P w L) (perm : order.toList.Perm (List.range L.length)) :
    ∃ L2 : KeyedB, (order.filterMap (es[·]?)).toList = entB P w L2 ∧ L2.Perm L := by
  have step : ∀ l : List Nat, (∀ i ∈ l, i < L.length) → l.filterMap (fun i => es[i]?) = entB P w (l.filterMap fun i => L[i]?) := by
    intro l
    induction l with
    | nil => exact fun _ => rfl
    | cons i l ih =>
      intro all
      have lt := all i (List.mem_cons_self ..)
      have li : L[i]? = some L[i] := List.getElem?_eq_getElem lt
      rw [List.filterMap_cons_some (entB_at es L ent li), List.filterMap_cons_some li, ih fun j hj => all j (List.mem_cons_of_mem _ hj)]
      rfl
  refine ⟨order.toList.filterMap fun i => L[i]?, by rw [Array.toList_filterMap]; exact step order.toList fun i hi => List.mem_range.mp (perm.mem_iff.mp hi), ?_⟩
  have whole : ∀ n, n ≤ L.length → (List.range n).filterMap (fun i => L[i]?) = L.take n := by
    intro n
    induction n with
    | zero => exact fun _ => rfl
    | succ n ih =>
      intro le
      have li : L[n]? = some L[n] := List.getElem?_eq_getElem le
      rw [List.range_succ, List.filterMap_append, ih (Nat.le_of_lt le), List.take_succ, li]
      rw [List.filterMap_cons_some li]
      rfl
  have q := perm.filterMap fun i => L[i]?
  rw [whole L.length (Nat.le_refl _), List.take_length] at q
  exact q
/-- a larger table -/
theorem relayB {o : Obj} (obj : s.heap.get? a = some o) (exact_ : o.ExactSet) (dat : o.data = .set es ep t) (ent : es.toList = entB P w L) (tab : Tab t L.length) (fit : L.length ≤ t.mask) (txt : ∀ p ∈ L, Tx P w s.heap p.2 p.1)
    {wanted M : Nat} (size : SetTable.sizeAbove wanted - 1 = M) (ok : MaskB M) (room : L.length * 5 < M * 3) {Q : Unit → Shared → Prop}
    (q : ∀ h' L' es' ep' t', Heap.SameBut a s.heap h' → HeldB P w h' a L' es' ep' t' → L'.Perm L → Q () { s with heap := h' }) : wpAny (model P w) A (setRelay a wanted) Q E s := by
  have len := entB_len es L ent
  have ml := ok.le
  have keys : (es.map (·.1)).size = L.length := by rw [Array.size_map, len]
  obtain ⟨t2, order, laid, perm, tab2, mask2, led2⟩ := anew ok.ones (hs := es.map (·.1)) (by rw [keys]; omega) t size
  rw [keys] at perm tab2
  obtain ⟨L2, ent2, perm2⟩ := reorderB order ent perm
  have len2 := entB_len _ L2 ent2
  have plen := perm2.length_eq
  rw [setRelay_eq]
  apply wpAny_bind
  apply wpAny_setState_of obj dat (fits_of tab fit len)
  dsimp only
  apply wp_if_neg (by rw [sizeLine_eq]; omega)
  try apply wpAny_bind (wpAny_pure _)
  rw [laid]
  dsimp only
  apply wpAny_bind
  apply wp_if_neg (by rw [len2, len, plen]; simp)
  try apply wpAny_bind (wpAny_pure _)
  apply wpAny_pure
  dsimp only
  refine wpAny_storeSet_of obj dat ?_ (by rw [len2, plen, sizeLine_eq]; omega)
  have same : Heap.SameBut a s.heap (s.heap.update a (Obj.putSet (order.filterMap (es[·]?)) t2)) := Heap.SameBut.update ..
  exact q _ L2 _ (ep + 1) t2 same ⟨⟨_, store_at obj dat, ⟨exact_.1, exact_.2.1, exact_.2.2⟩, rfl⟩, ent2, plen ▸ tab2, by rw [mask2]; exact ok, fun p hp => txB_but (txt p (perm2.mem_iff.mp hp)) obj dat same, by rw [plen, mask2]; exact room⟩ perm2
theorem put_permB {α : Type} (l : List α) (n : Nat) (x : α) : (l.take n ++ x :: l.drop n).Perm (x :: l) := by
  have q : (l.take n ++ x :: l.drop n).Perm (x :: (l.take n ++ l.drop n)) := List.perm_middle
  rwa [List.take_append_drop] at q
theorem above20 : SetTable.sizeAbove (SetTable.grown 5) = 32 := by decide +kernel
theorem above76 : SetTable.sizeAbove (SetTable.grown 19) = 128 := by decide +kernel
theorem above308 : SetTable.sizeAbove (SetTable.grown 77) = 512 := by decide +kernel
theorem above1228 : SetTable.sizeAbove (SetTable.grown 307) = 2048 := by decide +kernel
/-- when a table is full, the next one is there -/
theorem grows {m n : Nat} (kind : MaskB m) (le : n ≤ 800) (room : n * 5 < m * 3) (full : (n + 1) * 5 ≥ m * 3) : ∃ M, SetTable.sizeAbove (SetTable.grown (n + 1)) - 1 = M ∧ MaskB M ∧ (n + 1) * 5 < M * 3 := by
  rcases kind with e | e | e | e | e <;> subst e
  · obtain rfl : n = 4 := by omega
    exact ⟨31, by rw [above20], .inr (.inl rfl), by decide⟩
  · obtain rfl : n = 18 := by omega
    exact ⟨127, by rw [above76], .inr (.inr (.inl rfl)), by decide⟩
  · obtain rfl : n = 76 := by omega
    exact ⟨511, by rw [above308], .inr (.inr (.inr (.inl rfl))), by decide⟩
  · obtain rfl : n = 306 := by omega
    exact ⟨2047, by rw [above1228], .inr (.inr (.inr (.inr rfl))), by decide⟩
  · omega
/-- one more tuple -/
theorem addB (R : HeldB P w s.heap a L es ep t) {x : Addr} {k : List Str} (tx : Tx P w s.heap k x) (hu : A.units < cLine) (new : k ∉ L.map (·.2)) (few : L.length ≤ 800) {Q : Bool → Shared → Prop}
    (q : ∀ b h' L' es' ep' t', Heap.SameBut a s.heap h' → HeldB P w h' a L' es' ep' t' → L'.Perm ((x, k) :: L) → Q b { s with heap := h' }) :
    wpAny (model P w) A (setAddHashed a (.ref x) (txHash P w k)) Q E s := by
  obtain ⟨o, obj, exact_, dat⟩ := R.obj
  have len := R.size
  have room := R.room
  obtain ⟨K, bound, free, taken⟩ := R.tab.first (by omega) (txHash P w k)
  have ml := R.kind.le
  have small : K < 100000 := by
    unfold SetTable.turns at bound
    omega
  unfold setAddHashed
  apply wpAny_holding
  rw [show (100000 : Nat) = 99999 + 1 from rfl, setAddHashedIn_succ]
  apply wpAny_bind
  apply wpAny_setState_of obj dat R.fits
  dsimp only
  apply wp_if_neg (by simp [byScan, Value.scannable])
  try refine wpAny_bind (wpAny_pure ?_)
  refine wpAny_bind (by
    unfold setSearch
    refine searchB (K := K) R tx hu new bound free taken ?_ 100000 0 none rfl (Nat.zero_le _) (by omega)
    dsimp only
    apply wpAny_bind
    apply wpAny_setState_of obj dat R.fits
    dsimp only
    obtain ⟨q1, q2, q3⟩ := R.tab.put free (way_in _ _ _)
    have q4 : (t.put (way t.mask (txHash P w k) K)).2 = SetTable.below t.place (way t.mask (txHash P w k) K) := rfl
    have q5 : (t.put (way t.mask (txHash P w k) K)).1.mask = t.mask := rfl
    generalize t.put (way t.mask (txHash P w k) K) = pt at q2 q3 q4 q5 ⊢
    obtain ⟨t1, n⟩ := pt
    dsimp only at q2 q3 q4 q5 ⊢
    subst q4
    generalize SetTable.below t.place (way t.mask (txHash P w k) K) = n at q1 ⊢
    have perm := put_permB L n (x, k)
    have ent1 : (SetTable.insertAt es n (txHash P w k, Value.ref x)).toList = entB P w (L.take n ++ (x, k) :: L.drop n) := by
      rw [SetTable.toList_insertAt, R.ent]
      unfold entB
      rw [List.map_append, List.map_cons, List.map_take, List.map_drop]
    generalize SetTable.insertAt es n (txHash P w k, Value.ref x) = es1 at ent1 ⊢
    generalize L.take n ++ (x, k) :: L.drop n = L1 at perm ent1
    have len1 := entB_len es1 L1 ent1
    have plen : L1.length = L.length + 1 := perm.length_eq
    have fin : ∀ t2 : SetTable, Tab t2 (L.length + 1) → t2.mask = t.mask → t2.fill = L.length + 1 → wpAny (model P w) A (do
        storeSet a es1 t2
        if (!false && t2.tooFull) = true then do
          setRelay a (SetTable.grown (es.size + 1))
          pure true
        else pure true) Q E s := by
      intro t2 tab2 mask2 fill2
      refine wpAny_bind (wpAny_storeSet_of obj dat ?_ (by rw [len1, plen, sizeLine_eq]; omega))
      have same : Heap.SameBut a s.heap (s.heap.update a (Obj.putSet es1 t2)) := Heap.SameBut.update ..
      have obj1 := store_at (es' := es1) (t' := t2) obj dat
      generalize s.heap.update a (Obj.putSet es1 t2) = h1 at same obj1 ⊢
      have txt1 : ∀ p ∈ L1, Tx P w h1 p.2 p.1 := fun p hp => by
        rcases List.mem_cons.mp (perm.mem_iff.mp hp) with rfl | hp
        · exact txB_but tx obj dat same
        · exact txB_but (R.txt p hp) obj dat same
      have full_iff : t2.tooFull = decide (t2.fill * 5 ≥ t2.mask * 3) := rfl
      by_cases full : t2.tooFull = true
      · apply wp_if_pos (by simp [full])
        rw [full_iff, decide_eq_true_eq, fill2, mask2] at full
        rw [len]
        obtain ⟨M, z1, z2, z3⟩ := grows R.kind few room full
        refine wpAny_bind ?_
        refine relayB (s := { s with heap := h1 }) obj1 ⟨exact_.1, exact_.2.1, exact_.2.2⟩ rfl ent1 (by rw [plen]; exact tab2) (by rw [plen, mask2]; omega) txt1 z1 z2 (by rw [plen]; exact z3) ?_
        intro h2 L2 es2 ep2 t3 same2 R2 perm2
        exact wpAny_pure (q true h2 L2 es2 ep2 t3 (same.trans same2) R2 (perm2.trans perm))
      · apply wp_if_neg (by simp [full])
        rw [full_iff, decide_eq_true_eq, fill2] at full
        exact wpAny_pure (q true h1 L1 es1 (ep + 1) t2 same ⟨⟨_, obj1, ⟨exact_.1, exact_.2.1, exact_.2.2⟩, rfl⟩, ent1, by rw [plen]; exact tab2, by rw [mask2]; exact R.kind, txt1, by rw [plen]; omega⟩ perm)
    by_cases pl : t1.plain = true
    · refine wp_if_pos pl (wpAny_bind (tx_byvalue tx fun c => ?_))
      cases c with
      | true => exact fin t1 q2 q5 q3
      | false => exact fin { t1 with plain := false } ⟨q2.ris, q2.dm, q2.sz, q2.one, q2.bd⟩ q5 q3
    · exact wp_if_neg pl (wpAny_bind (wpAny_pure (fin t1 q2 q5 q3))))
end
end Dl

/-! len(set(xs)) of a list of many tuples of texts, all different -/
namespace Dl
open PySem PySem.Spec PyProof.Rows L2
abbrev newSetB (w : World) : Obj := { cls := .type "set", dict := none, data := .set #[] 0 (.fresh 0 0 (!w.params.followText "set-order")) }
section
variable {P : Program} {w : World} {A : Around} {E : Value → Shared → Prop} {s : Shared}
theorem txB_kept {h h' : Heap} {k : List Str} {b : Addr} (tx : Tx P w h k b) (keep : ∀ c o, h.get? c = some o → h'.get? c = some o) : Tx P w h' k b := by
  obtain ⟨o, items, n, at_, rest⟩ := tx
  exact ⟨o, items, n, keep b o at_, rest⟩
theorem HeldB.moved {h h' : Heap} {a : Addr} {L : KeyedB} {es : Array (Int × Value)} {ep : Nat} {t : SetTable} (R : HeldB P w h a L es ep t) (here : ∀ o, h.get? a = some o → h'.get? a = some o) (txt : ∀ p ∈ L, Tx P w h' p.2 p.1) : HeldB P w h' a L es ep t := by
  obtain ⟨o, at_, rest⟩ := R.obj
  exact ⟨⟨o, here o at_, rest⟩, R.ent, R.tab, R.kind, txt, R.room⟩
theorem heldB_new {h : Heap} {a : Addr} (obj : h.get? a = some (newSetB w)) : HeldB P w h a [] #[] 0 (.fresh 0 0 (!w.params.followText "set-order")) :=
  ⟨⟨_, obj, ⟨rfl, rfl, rfl⟩, rfl⟩, rfl, ⟨List.Pairwise.nil, rfl, rfl, ⟨3, by decide, rfl⟩, fun x hx => (nomatch hx)⟩, .inl rfl, fun p hp => (nomatch hp), (by show 0 * 5 < 7 * 3; decide)⟩
/-- the loop of set.update -/
theorem loopB {I S : Addr} {fp wr : List Addr} {G : Array GenState → Array GenState → Prop} {n : Nat} {Pv : Nat → Value → Prop} {St : Nat → Shared → Prop} {R : Result → Shared → Prop} (W : WalksS P w A.in1 I fp wr G n Pv St) (apart : S ∉ fp) (ks : KeyedB) (size : n = ks.length) (few : ks.length ≤ 800) (once : (ks.map (·.2)).Nodup)
    (given : ∀ i v, Pv i v → ∃ p, ks[i]? = some p ∧ v = .ref p.1) (h0 : Heap) (txt : ∀ p ∈ ks, Tx P w h0 p.2 p.1) (newS : h0.get? S = none) (neww : ∀ b ∈ wr, h0.get? b = none) (hu : A.in1.units < cLine) (left : Nat) :
    ∀ (i : Nat) (s : Shared), n - i = left → i ≤ n → St i s → (∀ b o, h0.get? b = some o → s.heap.get? b = some o) → (∃ L es ep t, HeldB P w s.heap S L es ep t ∧ L.Perm (ks.take i)) →
      (∀ s' L es ep t, Moved (S :: wr) G s s' → HeldB P w s'.heap S L es ep t → L.Perm (ks.take n) → (∀ b o, h0.get? b = some o → s'.heap.get? b = some o) → R (.ok (.ret .none)) s') →
      codeAny (model P w) A (.builtin "set.update.loop" ⟨[.ref S, .ref I], []⟩) R s := by
  have apart2 : S ∉ wr := fun h => apart (W.sub _ h)
  have wider : ∀ b ∈ wr, b ∈ S :: wr := fun b hb => List.mem_cons_of_mem _ hb
  have over : ∀ {s1 s2 : Shared}, Moved wr G s1 s2 → (∀ b o, h0.get? b = some o → s1.heap.get? b = some o) → ∀ b o, h0.get? b = some o → s2.heap.get? b = some o := fun mv keep b o e =>
    mv.heap b o (fun hb => by rw [neww b hb] at e; cases e) (keep b o e)
  have inks : ∀ {i : Nat} {L : KeyedB}, L.Perm (ks.take i) → ∀ p ∈ L, p ∈ ks := fun m p hp => List.mem_of_mem_take (m.mem_iff.mp hp)
  induction left with
  | zero =>
    rintro i s left le st keep ⟨L, es, ep, t, held, met⟩ fin
    obtain rfl : i = n := by omega
    apply codeAny_builtin F.entry_set_update_loop
    rw [Around.under_plainId F.plain_set_update_loop _]
    change wpAny _ A.in1 (pyNext (.ref I) >>= _) _ _ s
    apply wpAny_bind
    refine W.done s _ _ st fun s2 mv => ?_
    change wpAny _ A.in1 (ret Value.none) _ _ s2
    have keep2 := over mv keep
    exact wpAny_pure (fin s2 L es ep t (mv.mono wider) (held.moved (fun o e => mv.heap S o apart2 e) fun p hp => txB_kept (txt p (inks met p hp)) keep2) met keep2)
  | succ left ih =>
    rintro i s more le st keep ⟨L, es, ep, t, held, met⟩ fin
    have lt : i < n := by omega
    apply codeAny_builtin F.entry_set_update_loop
    rw [Around.under_plainId F.plain_set_update_loop _]
    change wpAny _ A.in1 (pyNext (.ref I) >>= _) _ _ s
    apply wpAny_bind
    refine W.item i s _ _ lt st fun v s2 hv st2 mv => ?_
    obtain ⟨p, at_, rfl⟩ := given i v hv
    have keep2 := over mv keep
    have held2 : HeldB P w s2.heap S L es ep t := held.moved (fun o e => mv.heap S o apart2 e) fun q hq => txB_kept (txt q (inks met q hq)) keep2
    have tx : Tx P w s2.heap p.2 p.1 := txB_kept (txt p (List.mem_of_getElem? at_)) keep2
    have len : L.length = i := by rw [met.length_eq, List.length_take]; omega
    have next : ks.take (i + 1) = ks.take i ++ [p] := by rw [List.take_succ, at_]; rfl
    have new : p.2 ∉ L.map (·.2) := fun m => by
      have m2 : p.2 ∈ (ks.take i).map (·.2) := (met.map (·.2)).mem_iff.mp m
      have nd : ((ks.take (i + 1)).map (·.2)).Nodup := (List.take_sublist (i + 1) ks |>.map (·.2)).nodup once
      rw [next, List.map_append] at nd
      exact (List.nodup_append.mp nd).2.2 _ m2 _ (List.mem_singleton.mpr rfl) rfl
    change wpAny _ A.in1 (holding [Value.ref p.1] (setAdd S (.ref p.1)) >>= _) _ _ s2
    apply wpAny_bind
    apply wpAny_holding
    unfold setAdd
    apply wpAny_holding
    apply wpAny_bind
    apply wpAny_pyHash_tuple hu tx
    refine addB (s := { s2 with toks := s2.toks + (p.2.length + 1) }) held2 tx hu new (by omega) fun b h3 L3 es3 ep3 t3 same held3 perm3 => ?_
    have keep3 : ∀ b o, h0.get? b = some o → h3.get? b = some o := fun b o e => (same.2 b (fun z => by rw [z, newS] at e; cases e)).trans (keep2 b o e)
    have met3 : L3.Perm (ks.take (i + 1)) := by
      rw [next]
      exact perm3.trans ((met.cons p).trans (List.perm_append_singleton p _).symm)
    refine wpAny_pure ⟨plainId_quiet F.plain_set_update_loop _, ih (i + 1) _ (by omega) lt (W.frame _ s2 _ _ st2 (Nat.le_add_right _ _) fun b hb o e => ?_) keep3 ⟨L3, es3, ep3, t3, held3, met3⟩ fun s4 L4 es4 ep4 t4 mv4 held4 met4 keep4 => ?_⟩
    · rw [same.2 b (fun h : b = S => apart (by rw [← h]; exact hb))]
      exact e
    · refine fin s4 L4 es4 ep4 t4 (Moved.trans W.gtrans ((mv.mono wider).then_heap (Nat.le_add_right _ _) fun b o hb e => ?_) mv4) held4 met4 keep4
      rw [same.2 b (fun h : b = S => hb (by rw [h]; exact List.mem_cons_self ..))]
      exact e
set_option maxRecDepth 100000 in
set_option maxHeartbeats 3200000 in
/-- set(xs), xs a list -/
theorem call_set_many {l : Addr} {items : Array Value} (ks : KeyedB) {Q : Value → Shared → Prop} (calm : A.handled = none) (seq : s.heap.IsList l items) (its : items.toList = ks.map fun p => Value.ref p.1) (txt : ∀ p ∈ ks, Tx P w s.heap p.2 p.1) (few : ks.length ≤ 800) (once : (ks.map (·.2)).Nodup) (hu : A.units + 3 < cLine)
    (fin : ∀ (h' : Heap) (tk : Nat) L es ep t, HeldB P w h' s.heap.objs.size L es ep t → L.length = ks.length → (∀ b o, s.heap.get? b = some o → h'.get? b = some o) → Q (.ref s.heap.objs.size) { s with heap := h', toks := tk }) :
    wpAny (model P w) A (call (.type "set") [.ref l]) Q E s := by
  have count : items.size = ks.length := by
    rw [← Array.length_toList, its]
    exact List.length_map _
  obtain ⟨c, tl, mro⟩ := F.called_set.mro
  have made_ := F.called_set.made
  have sub_ := F.called_set.sub
  apply wpAny_call
  apply codeAny_of_tree
  change wpAny _ _ (callAny (.type "set") _) _ _ _
  refine wpAny_pure ⟨Code.quiet_builtin _ (by decide +kernel), ?_⟩
  apply codeAny_builtin F.entry_type_call
  rw [Around.under_plain (weight_type_call_type "set" [.ref l] []) rfl]
  have k1 := F.called_set.notType
  have k2 := F.called_set.canCreate
  have k3 := F.typeCall_set_1 (.ref l)
  repeat any_goals first | assumption | wp_step
  refine codeAny_mono (code_set_led1 (.ref l) (E := E) (Q₁ := fun obj s1 => obj = .ref s.heap.objs.size ∧ s1 = { s with heap := s.heap.push (newSetB w) }) ⟨rfl, rfl⟩) ?_
  intro r s1 hr
  match r, hr with
  | .error e, hr => exact hr
  | .ok (.ret obj), hr =>
    obtain ⟨rfl, rfl⟩ := hr
    have there : (s.heap.push (newSetB w)).get? s.heap.objs.size = some (newSetB w) := Heap.get?_push_size _ rfl
    have typ : Shared.TypeIs { s with heap := s.heap.push (newSetB w) } (.ref s.heap.objs.size) "set" := ⟨_, there, rfl⟩
    have k4 := F.called_set.init.lookup
    have k5 := F.called_set.init.bind (.ref s.heap.objs.size)
    repeat any_goals first | assumption | wp_step
    refine codeAny_mono (codeAny_call_builtin (R := wants (fun r s2 => r = .none ∧ ∃ h' tk L es ep t, s2 = { s with heap := h', toks := tk } ∧ HeldB P w h' s.heap.objs.size L es ep t ∧ L.length = ks.length ∧ ∀ b o, s.heap.get? b = some o → h'.get? b = some o) E) F.called_set.init.plain F.entry_set_init (check_set_init_1 typ ?_)) ?_
    · obtain ⟨⟨ocls, odict, odata, oslots⟩, at_, cls, nl, dat⟩ := seq
      simp only at cls dat
      subst cls
      subst dat
      have at2 : (s.heap.push (newSetB w)).get? l = some { cls := .type "list", dict := odict, data := .seq items nl, slots := oslots } := Heap.get?_push_of_some _ at_
      have k6 := F.sub_list_set
      have k7 := F.sub_list_frozenset
      have k8 : (Value.type "list" == Value.type "dict") = false := by decide
      have seq2 : (s.heap.push (newSetB w)).IsList l items := ⟨_, at2, rfl, nl, rfl⟩
      unfold Builtin.«set.__init__» noKeywords Builtin.Frozenset.updateFrom
      generalize hit : pyIter = it
      wp_walk
      subst hit
      apply wpAny_pyIter_list seq2
      apply wpAny_bind
      apply wpAny_runValue
      have old : l < s.heap.objs.size := Heap.lt_size at_
      have calm3 : A.in1.in1.in1.handled = none := by simp [calm]
      have size1 : (s.heap.push (newSetB w)).objs.size = s.heap.objs.size + 1 := Heap.size_push ..
      have apart : s.heap.objs.size ∉ [(s.heap.push (newSetB w)).objs.size, l] := by
        intro m
        rcases List.mem_cons.mp m with e | m
        · rw [size1] at e
          exact absurd e (Nat.ne_of_lt (Nat.lt_succ_self _))
        · rw [← List.mem_singleton.mp m] at old
          exact absurd old (Nat.lt_irrefl _)
      have given : ∀ (i : Nat) (v : Value), items[i]? = some v → ∃ p, ks[i]? = some p ∧ v = .ref p.1 := fun i v hv => by
        rw [← Array.getElem?_toList, its] at hv
        rw [List.getElem?_map] at hv
        cases q : ks[i]? with
        | none => rw [q] at hv; cases hv
        | some p => rw [q] at hv; exact ⟨p, rfl, (Option.some.inj hv).symm⟩
      have beyond : ∀ b, s.heap.objs.size ≤ b → s.heap.get? b = none := fun b hb => by
        cases q : s.heap.get? b with
        | none => rfl
        | some o => exact absurd (Heap.lt_size q) (Nat.not_lt.mpr hb)
      refine loopB ((Walks.list calm3 _ l (by rw [size1]; exact Nat.ne_of_lt (Nat.lt_succ_of_lt old)) items).toS) apart ks count few once given s.heap txt (beyond _ (Nat.le_refl _)) (fun b hb => beyond b (by rw [List.mem_singleton.mp hb, size1]; exact Nat.le_succ _)) hu (items.size - 0) 0 _ rfl (Nat.zero_le _)
        ⟨⟨_, Heap.get?_push_size _ rfl, rfl, rfl⟩, seq2.push _⟩ (fun b o e => Heap.get?_push_of_some _ (Heap.get?_push_of_some _ e)) ⟨[], #[], 0, _, heldB_new (Heap.get?_push_of_some _ there), List.Perm.refl _⟩ ?_
      intro s2 L es ep t mv held met keep
      obtain ⟨h2, g2, d2, tk2, os2⟩ := s2
      have e1 : g2 = s.gens := mv.gens
      have e2 : d2 = s.drawn := mv.drawn
      have e3 : os2 = s.os := mv.os
      subst e1 e2 e3
      exact wpAny_pure (wpAny_pure ⟨rfl, h2, tk2, L, es, ep, t, rfl, held, by rw [met.length_eq, List.length_take]; omega, keep⟩)
    · intro r2 s2 hr2
      match r2, hr2 with
      | .error e, hr2 => exact hr2
      | .ok (.ret r), hr2 =>
        obtain ⟨rfl, h2, tk2, L, es, ep, t, rfl, held, met, keep⟩ := hr2
        repeat any_goals first | assumption | wp_step
        exact fin _ _ _ _ _ _ held met keep
end
/-- len(set(xs)), all different -/
def tLenMany (K : PySem.W.Frag) (ta : TE) : TE := fun σ H Q => ta σ H fun x H1 => ∃ (l : Addr) (M : KeyedB), x = V.ref l ∧ SqL K H1 l (M.map fun q => V.ref q.1) ∧ (∀ q ∈ M, SqT K H1 q.1 (q.2.map V.str)) ∧ M.length ≤ 800 ∧ (M.map (·.2)).Nodup ∧ Q (.int (M.length : Nat)) H1
theorem refs_B : ∀ {ks : KeyedB} {us : List Value}, Vals (ks.map fun p => V.ref p.1) us → us = ks.map fun p => Value.ref p.1
  | [], _, .nil => rfl
  | p :: ks, _, .cons r t => by
    cases r
    rw [refs_B t]
    rfl
theorem items_B {P : Program} {w : World} : ∀ {k : List Str} {us : List Value}, Vals (k.map V.str) us → ItemsAre (strKind P w) k us
  | [], _, .nil => .nil
  | z :: k, _, .cons r t => by
    obtain ⟨tk, rfl⟩ := r
    refine .cons ?_ (items_B t)
    show Value.isStrOf z (.str z tk) = true
    simp [Value.isStrOf]
theorem txB_of {X : Cx} {pins : List (Addr × Obj)} {σ : L2.St} {H : Hp} {s : Shared} {b : Addr} {k : List Str} (I : Inv X pins σ H s) (h : SqT X.K H b (k.map V.str)) : Tx X.prog X.w s.heap k b := by
  obtain ⟨its, r, ⟨o, at_, cls, n, dat⟩, _⟩ := I.tuple h
  exact ⟨o, its.toArray, n, at_, cls, dat, by simpa using items_B r⟩
theorem pe_lenMany {X : Cx} {a : Expr} {ta : TE} {p p2 q pos : Pos} (calm : X.calm = true) (hu : X.A.units + 64 < cLine) (g1 : Gl X "len") (m1 : X.mg "len" = none) (g2 : Gl X "set") (m2 : X.mg "set" = none) (arg : PE X a ta)
    (one : starEach [a] X.env = (false, eval a X.env) :: starEach [] X.env := by rfl) : PE X (.Call (.Name "len" p) [.Call (.Name "set" p2) [a] [] q] [] pos) (tLenMany X.K ta) := by
  constructor
  intro pins s σ H Q I told
  refine Call_ (ld_blt I g1 m1 PySem.boot_len ?_)
  refine callWith_builtin1 (args_cons ?_ rfl) rfl rfl
  refine Call_ (ld_blt I g2 m2 boot_set ?_)
  refine callWith_type1 (args_cons (thn (arg.run pins s σ H _ I told) fun v s1 ⟨x, H1, J, rel, more⟩ => args_nil ?_) one) one rfl
  obtain ⟨l, M, rfl, seq, txs, few, once, goal⟩ := more
  cases rel
  obtain ⟨its, rv, pl, _⟩ := J.list seq
  refine call_set_many (P := X.prog) (w := X.w) M (J.ok.hd calm) pl.isList (by simpa using refs_B rv) (fun p hp => txB_of J (txs p hp)) few once (by omega) fun h' tk L es ep t held len keep => ?_
  refine args_nil ?_
  obtain ⟨o, ho, hex, hd⟩ := held.obj
  have J2 : Inv X pins σ H1 { s1 with heap := h', toks := tk } := J.kept (t' := tk) keep
  refine call_len_set ho hex hd held.fits (by rw [held.size, len]; omega) ⟨.int (M.length : Nat), H1, J2.tok _, ⟨_, by rw [held.size, len]⟩, goal⟩
end Dl

/-! k10: _law_is_integer, _law_kind_ok -/
namespace Dl
open PySem PySem.Spec PyProof.Rows L2
structure NIs10 (K : PySem.W.Frag) (c : NCls) (CN CB : Addr) : Prop where
  ty : ∀ C, c.D C → PySem.W.findIn K (.ref C) "__class__" = some (some (.builtin "object.__class__"))
  get : PySem.W.specialIn K (.builtin "object.__class__") "__get__" = some (some (.builtin "getset_descriptor.__get__"))
  takes : PySem.W.takesIn K (.builtin "object.__class__") = some true
  node : ∀ C, c.D C → PySem.W.kitOne K (.ref C) (.ref CN) = some true
  br : ∀ C, c.D C → PySem.W.kitOne K (.ref C) (.ref CB) = some (decide (C ≠ c.L))
  leaf : ∀ C, c.D C → PySem.W.kitOne K (.ref C) (.ref c.L) = some (decide (C = c.L))
  row : ∀ C, c.D C → PySem.W.kitOne K (.ref C) (.ref c.R) = some (decide (C = c.R))
  grp : ∀ C, c.D C → PySem.W.kitOne K (.ref C) (.ref c.G) = some (decide (C = c.G))
  kindL : ∃ u, Con K c.L "KIND" (.str "leaf") u
theorem NIs10.tyOf {K : PySem.W.Frag} {c : NCls} {CN CB : Addr} (S : NIs10 K c CN CB) (N : NFacts K c) {H : Hp} {p C dx : Addr} {fs : List (Str × V)} (h : H p = some (.ins C dx fs)) (d : c.D C) : TyX K H (.ref p) (.ref C) := .base (.ins h (N.cl C d) (S.ty C d) S.get S.takes (N.eq.mro C d))
structure TxtK10 (mg : Str → Option Value) (c : NCls) (CN CB : Addr) : Prop where
  isinstance : mg "isinstance" = none
  int : mg "int" = none
  bool : mg "bool" = none
  str : mg "str" = none
  tuple : mg "tuple" = none
  len : mg "len" = none
  list : mg "list" = none
  set : mg "set" = none
  range : mg "range" = none
  gLeaf : mg "Leaf" = some (.ref c.L)
  gGroup : mg "Group" = some (.ref c.G)
  gRow : mg "Row" = some (.ref c.R)
  gNode : mg "Node" = some (.ref CN)
  gBranch : mg "Branch" = some (.ref CB)
def spInt10 : Sp := fun vs H Q _ => ∃ n : Int, vs = [.int n] ∧ Q (.bl true) H
def spKind (c : NCls) : Sp := fun vs H Q _ => ∃ p v s, vs = [.ref p, v] ∧ NodeAt c H p s ∧ ShAt H v s ∧ s.Ok ∧ (∀ z ∈ s.leaves, canS z) ∧ Q (.bl true) H
section
variable {P : Program} {w : World} {K : PySem.W.Frag} {mg : Str → Option Value} {base : Heap} {c : NCls} {CN CB : Addr}
theorem scIsInt10 : FnScope ["_law_value"] ["_law_value"] (defScope sLawIsInteger) := ⟨rfl, rfl, rfl, by decide +kernel, rfl, by decide +kernel, by decide +kernel⟩
theorem ok_int10 {f : Addr} {fd : FuncData} (F : Fun K "_law_is_integer" "_law_is_integer" sLawIsInteger f fd) (T : TxtK10 mg c CN CB) : FnOk P w K mg base CX0 1 f fd ["_law_value"] spInt10 := by
  refine F.ok scIsInt10 (fun vs H Q E h => ?_) (fun cdv A outer s H vs Q E hr h => ?_)
  · obtain ⟨n, rfl, _⟩ := h
    rfl
  · obtain ⟨n, rfl, k⟩ := h
    refine ⟨_, (pss_one (ps_ret (pe_and (pe_callB call_isi (by rfl) T.isinstance (by decide +kernel) (pa_cons (pv 0) (pa_cons (pe_bltn (v := .ty "int") (by rfl) T.int (by decide +kernel) rfl) pa_nil))) (pe_one (pe_not (pe_callB call_isi (by rfl) T.isinstance (by decide +kernel) (pa_cons (pv 0) (pa_cons (pe_bltn (v := .ty "bool") (by rfl) T.bool (by decide +kernel) rfl) pa_nil)))))))), ?_⟩
    refine ⟨_, rfl, _, _, _, _, true, rfl, ClsV.ty "int", .base (.int n), kit_ty (by decide +kernel), true, rfl, iteT ?_⟩
    exact ⟨_, rfl, _, _, _, _, false, rfl, ClsV.ty "bool", .base (.int n), kit_ty (by decide +kernel), false, rfl, k⟩
theorem leaf10 {H : Hp} {p : Addr} {s : Sh} {n : Str} (h : NodeAt c H p s) (e : s = .leaf n) : ∃ dx, H p = some (.ins c.L dx [("name", .str n)]) := by
  cases h with
  | leaf _ dx n h1 => cases e; exact ⟨dx, h1⟩
  | br => cases e
theorem br10 {H : Hp} {p : Addr} {s : Sh} {row : Bool} {ps : List Sh} (h : NodeAt c H p s) (e : s = .br row ps) : ∃ dx t, ∃ L : Parts, H p = some (.ins (c.of row) dx [("parts", .ref t)]) ∧ H t = some (.tup (L.map fun q => V.ref q.1)) ∧ L.map (·.2) = ps := by
  cases h with
  | leaf => cases e
  | br row _ dx t L h1 h2 h3 h4 => cases e; exact ⟨dx, t, L, h1, h2, rfl⟩
theorem scKind : FnScope ["_law_node_here", "_law_shape_here"] ["_law_node_here", "_law_shape_here"] (defScope sLawKindOk) := ⟨rfl, rfl, rfl, by decide +kernel, rfl, by decide +kernel, by decide +kernel⟩
theorem ok_kind10 {f : Addr} {fd : FuncData} (F : Fun K "_law_kind_ok" "_law_kind_ok" sLawKindOk f fd) (T : TxtK10 mg c CN CB) (N : NFacts K c) (NK : NKind K c) (S : NIs10 K c CN CB) : FnOk P w K mg base CX0 1 f fd ["_law_node_here", "_law_shape_here"] (spKind c) := by
  refine F.ok scKind (fun vs H Q E h => ?_) (fun cdv A outer s H vs Q E hr h => ?_)
  · obtain ⟨p, v, s, rfl, _⟩ := h
    rfl
  · obtain ⟨p, v, s, rfl, nd, sv, ok, cz, k⟩ := h
    refine ⟨_, (pss_cons (ps_if (PW.pt (pw_or (pt_not (pt_val (pe_callB call_isi (by rfl) T.isinstance (by decide +kernel) (pa_cons (pv 0) (pa_cons (pe_glob (v := .ref CN) (by rfl) T.gNode rfl) pa_nil))))) (pw_or1 (pt_cmpR op_eq (pe_callB call_isi (by rfl) T.isinstance (by decide +kernel) (pa_cons (pv 0) (pa_cons (pe_glob (v := .ref CB) (by rfl) T.gBranch rfl) pa_nil))) (pe_callB call_isi (by rfl) T.isinstance (by decide +kernel) (pa_cons (pv 1) (pa_cons (pe_bltn (v := .ty "str") (by rfl) T.str (by decide +kernel) rfl) pa_nil))) (nomark _))))) (pss_one (ps_ret pe_bl)) pss_nil)
        (pss_cons (ps_if (pt_val (pe_callB call_isi (by rfl) T.isinstance (by decide +kernel) (pa_cons (pv 1) (pa_cons (pe_bltn (v := .ty "str") (by rfl) T.str (by decide +kernel) rfl) pa_nil)))) (pss_one (ps_ret (pe_and (pe_callB call_isi (by rfl) T.isinstance (by decide +kernel) (pa_cons (pv 0) (pa_cons (pe_glob (v := .ref c.L) (by rfl) T.gLeaf rfl) pa_nil))) (pe_and (pe_cmpR op_eq (pe_con (pv 0) rfl) pe_str (nomark _)) (pe_one (pe_cmpR (op_eqD hr.units) (pe_fld (pv 0) rfl) (pv 1) (nomark _))))))) pss_nil)
        (pss_cons (ps_if (PW.pt (pw_or (pt_cmpR op_ne (pe_callB call_isi (by rfl) T.isinstance (by decide +kernel) (pa_cons (pv 0) (pa_cons (pe_glob (v := .ref c.R) (by rfl) T.gRow rfl) pa_nil))) (pe_cmpR op_eq (pe_ix ix_tup (pv 1) pe_int (fun _ _ => rfl)) pe_str (nomark _)) (nomark _)) (pw_or1 (pt_cmpR op_ne (pe_callB call_isi (by rfl) T.isinstance (by decide +kernel) (pa_cons (pv 0) (pa_cons (pe_glob (v := .ref c.G) (by rfl) T.gGroup rfl) pa_nil))) (pe_cmpR op_eq (pe_ix ix_tup (pv 1) pe_int (fun _ _ => rfl)) pe_str (nomark _)) (nomark _))))) (pss_one (ps_ret pe_bl)) pss_nil)
        (pss_one (ps_ret (pe_and (pe_cmpR op_eq (pe_con (pv 0) rfl) (pe_ix ix_tup (pv 1) pe_int (fun _ _ => rfl)) (nomark _)) (pe_and (pe_callB call_isi (by rfl) T.isinstance (by decide +kernel) (pa_cons (pe_fld (pv 0) rfl) (pa_cons (pe_bltn (v := .ty "tuple") (by rfl) T.tuple (by decide +kernel) rfl) pa_nil))) (pe_one (pe_cmpR op_eq (pe_callB call_len_seq (by rfl) T.len PySem.boot_len (pa_cons (pe_fld (pv 0) rfl) pa_nil)) (pe_op op_sub (pe_callB call_len_seq (by rfl) T.len PySem.boot_len (pa_cons (pv 1) pa_nil)) pe_int) (nomark _)))))))))), ?_⟩
    cases sv with
    | leaf n =>
      obtain ⟨dx, h1⟩ := leaf10 nd rfl
      have dC : c.D c.L := .inl rfl
      have ty := S.tyOf N h1 dC
      obtain ⟨u, con⟩ := S.kindL
      have kb : PySem.W.kitOne K (.ref c.L) (.ref CB) = some false := by rw [S.br _ dC]; simp
      have kl : PySem.W.kitOne K (.ref c.L) (.ref c.L) = some true := by rw [S.leaf _ dC]; simp
      have shn : SeqAt.shaped (.str n) = true := shaped_of (cz n (by rw [Sh.leaves]; exact List.mem_singleton.mpr rfl)) (by rw [PyData.depth]; decide)
      refine ⟨_, rfl, _, _, _, _, true, rfl, ClsV.own CN, ty, S.node _ dC, true, rfl, iteZ rfl ?_⟩
      refine ⟨_, rfl, _, _, _, _, false, rfl, ClsV.own CB, ty, kb, _, rfl, _, _, _, _, true, rfl, ClsV.ty "str", .base (.str n), kit_ty (by decide +kernel), rfl, _, rfl, iteZ (by decide +kernel) ?_⟩
      refine ⟨_, rfl, .str n, _, _, _, true, rfl, ClsV.ty "str", .base (.str n), kit_ty (by decide +kernel), true, rfl, iteT ?_⟩
      refine ⟨_, rfl, _, _, _, _, true, rfl, ClsV.own c.L, ty, kl, true, rfl, iteT ?_⟩
      refine ⟨_, rfl, p, c.L, dx, _, _, u, rfl, h1, N.cl _ dC, con, lookN (by decide +kernel), rfl, _, rfl, iteY (by decide +kernel) ?_⟩
      refine ⟨_, rfl, p, c.L, dx, _, _, rfl, h1, N.cl _ dC, N.name, lookS _ _, _, rfl, .str n, .str n, .str n, .str n, shn, shn, ?_⟩
      have e : PyData.eqv (.str n) (.str n) = true := by simp [PyData.eqv]
      rw [e]
      exact k
    | br row a M g1 g2 =>
      obtain ⟨dx, q, L, h1, h2, e⟩ := br10 nd rfl
      have dC : c.D (c.of row) := c.of_D row
      have ty := S.tyOf N h1 dC
      obtain ⟨u, con⟩ := NK.kind row
      have nl : c.of row ≠ c.L := N.lof row
      have kb : PySem.W.kitOne K (.ref (c.of row)) (.ref CB) = some true := by rw [S.br _ dC]; simp [nl]
      have len : L.length = M.length := by
        have := congrArg List.length e
        rwa [List.length_map, List.length_map] at this
      refine ⟨_, rfl, _, _, _, _, true, rfl, ClsV.own CN, ty, S.node _ dC, true, rfl, iteZ rfl ?_⟩
      refine ⟨_, rfl, _, _, _, _, true, rfl, ClsV.own CB, ty, kb, _, rfl, _, _, _, _, false, rfl, ClsV.ty "str", .base (.tup g1), kit_ty (by decide +kernel), rfl, _, rfl, iteZ (by decide +kernel) ?_⟩
      refine ⟨_, rfl, .ref a, _, _, _, false, rfl, ClsV.ty "str", .base (.tup g1), kit_ty (by decide +kernel), false, rfl, iteF ?_⟩
      have kr : PySem.W.kitOne K (.ref (c.of row)) (.ref c.R) = some (decide (kindS row = "row")) := by
        rw [S.row _ dC]
        cases row
        · rw [decide_eq_false (show ¬ c.of false = c.R from N.gr)]; decide +kernel
        · rw [decide_eq_true (show c.of true = c.R from rfl)]; decide +kernel
      have kg : PySem.W.kitOne K (.ref (c.of row)) (.ref c.G) = some (decide (kindS row = "group")) := by
        rw [S.grp _ dC]
        cases row
        · rw [decide_eq_true (show c.of false = c.G from rfl)]; decide +kernel
        · rw [decide_eq_false (show ¬ c.of true = c.G from fun e => N.gr e.symm)]; decide +kernel
      refine ⟨_, rfl, _, _, _, _, _, rfl, ClsV.own c.R, ty, kr, _, rfl, a, _, 0, _, rfl, rfl, SqT.of g1, at_first10 rfl, rfl, rfl, _, rfl, iteZ ?_ ?_⟩
      · cases row <;> decide +kernel
      refine ⟨_, rfl, _, _, _, _, _, rfl, ClsV.own c.G, ty, kg, _, rfl, a, _, 0, _, rfl, rfl, SqT.of g1, at_first10 rfl, rfl, rfl, _, rfl, iteZ ?_ ?_⟩
      · cases row <;> decide +kernel
      refine ⟨_, rfl, p, c.of row, dx, _, _, u, rfl, h1, N.cl _ dC, con, lookN (by decide +kernel), _, rfl, a, _, 0, _, rfl, rfl, SqT.of g1, at_first10 rfl, rfl, _, rfl, iteY ?_ ?_⟩
      · cases row <;> decide +kernel
      refine ⟨_, rfl, p, c.of row, dx, _, _, rfl, h1, N.cl _ dC, N.parts row, lookS _ _, _, _, _, _, true, rfl, ClsV.ty "tuple", .base (.tup h2), kit_ty (by decide +kernel), true, rfl, iteT ?_⟩
      refine ⟨_, rfl, p, c.of row, dx, _, _, rfl, h1, N.cl _ dC, N.parts row, lookS _ _, _, _, rfl, .inr (SqT.of h2), _, rfl, a, _, rfl, .inr (SqT.of g1), _, _, rfl, rfl, rfl, ?_⟩
      have e2 : V.int ((L.map fun q => V.ref q.1).length : Nat) = V.int (((V.str (kindS row) :: M.map (·.1)).length : Nat) - 1) := by
        rw [List.length_map, List.length_cons, List.length_map, len]
        congr 1
        omega
      rw [decide_eq_true e2]
      exact k
end
end Dl

/-! shapes as data -/
namespace Dl
open PySem PySem.Spec PyProof.Rows L2
mutual
def Sh.dat : Sh → PyData
  | .leaf n => .str n
  | .br row ps => .tuple (.str (kindS row) :: Sh.datL ps)
def Sh.datL : List Sh → List PyData
  | [] => []
  | p :: r => p.dat :: Sh.datL r
end
theorem datL_eq : ∀ ps : List Sh, Sh.datL ps = ps.map Sh.dat
  | [] => rfl
  | p :: r => by rw [Sh.datL, datL_eq r, List.map_cons]
theorem dp_all {K : PySem.W.Frag} {H : Hp} : ∀ {L : List (V × Sh)}, (∀ q ∈ L, Dp K H q.1 q.2.dat) → DpAll K H (L.map (·.1)) (L.map fun q => q.2.dat)
  | [], _ => .nil
  | q :: r, h => .cons (h q (List.mem_cons_self ..)) (dp_all fun z hz => h z (List.mem_cons_of_mem _ hz))
theorem ShAt.dp {K : PySem.W.Frag} {H : Hp} {v : V} {s : Sh} (h : ShAt H v s) : Dp K H v s.dat := by
  induction h with
  | leaf n => rw [Sh.dat]; exact .str n
  | br row a L h1 _ ih =>
    rw [Sh.dat, datL_eq, List.map_map]
    exact .tup (SqT.of h1) (.cons (.str _) (dp_all ih))
theorem kind_can (row : Bool) : PyData.canLay0 (.str (kindS row)) = true := by
  cases row <;> exact can_of (by decide +kernel)
theorem dat_can {s : Sh} (h : ∀ z ∈ s.leaves, canS z) : s.dat.canLay0 = true := by
  induction s using Sh.ind with
  | hl n => rw [Sh.dat]; exact h n (by rw [Sh.leaves]; exact List.mem_singleton.mpr rfl)
  | hb row ps ih =>
    rw [leaves_br] at h
    have all : ∀ l : List Sh, (∀ p ∈ l, p.dat.canLay0 = true) → PyData.canLayAll0 (l.map Sh.dat) = true := by
      intro l
      induction l with
      | nil => intro _; simp [PyData.canLayAll0]
      | cons p r ih =>
        intro hl
        rw [List.map_cons, PyData.canLayAll0, hl p (List.mem_cons_self ..), ih fun q hq => hl q (List.mem_cons_of_mem _ hq)]
        rfl
    rw [Sh.dat, datL_eq, PyData.canLay0, PyData.canLayAll0, kind_can, all ps fun p hp => ih p hp fun z hz => h z (List.mem_flatMap.mpr ⟨p, hp, hz⟩)]
    rfl
theorem dat_depth (s : Sh) : s.dat.depth ≤ s.depth + 1 := by
  induction s using Sh.ind with
  | hl n => rw [Sh.dat, PyData.depth]; omega
  | hb row ps ih =>
    have all : ∀ (l : List Sh) (m : Nat), (∀ p ∈ l, p.dat.depth ≤ m) → PyData.depthAll (l.map Sh.dat) ≤ m := by
      intro l
      induction l with
      | nil => intro m _; simp [PyData.depthAll]
      | cons p r ih =>
        intro m hl
        rw [List.map_cons, PyData.depthAll]
        have a := hl p (List.mem_cons_self ..)
        have b := ih m fun q hq => hl q (List.mem_cons_of_mem _ hq)
        omega
    have e := all ps (Sh.depth (.br row ps)) fun p hp => by
      have := ih p hp
      have d := depth_mem hp
      rw [Sh.depth]
      omega
    rw [Sh.dat, datL_eq, PyData.depth, PyData.depthAll, PyData.depth]
    omega
theorem dat_shaped {s : Sh} (h : ∀ z ∈ s.leaves, canS z) (d : s.depth ≤ 60) : SeqAt.shaped s.dat = true := by
  unfold SeqAt.shaped
  rw [dat_can h, Bool.true_and]
  have := dat_depth s
  exact decide_eq_true (by omega)
theorem eqv_dat (s : Sh) : PyData.eqv s.dat s.dat = true := by
  induction s using Sh.ind with
  | hl n => rw [Sh.dat]; simp [PyData.eqv]
  | hb row ps ih =>
    have all : ∀ l : List Sh, (∀ p ∈ l, PyData.eqv p.dat p.dat = true) → PyData.eqvAll (l.map Sh.dat) (l.map Sh.dat) = true := by
      intro l
      induction l with
      | nil => intro _; simp [PyData.eqvAll]
      | cons p r ih =>
        intro hl
        rw [List.map_cons, PyData.eqvAll, hl p (List.mem_cons_self ..), ih fun q hq => hl q (List.mem_cons_of_mem _ hq)]
        rfl
    rw [Sh.dat, datL_eq, PyData.eqv, PyData.eqvAll, all ps ih]
    simp [PyData.eqv]
theorem eqv_strsL (zs : List Str) : PyData.eqv (.list (zs.map PyData.str)) (.list (zs.map PyData.str)) = true := by
  rw [PyData.eqv, eqvAll_strs]
  exact decide_eq_true rfl
theorem shaped_strsL {zs : List Str} (h : ∀ z ∈ zs, canS z) : SeqAt.shaped (.list (zs.map PyData.str)) = true := by
  unfold SeqAt.shaped
  rw [Bool.and_eq_true, PyData.canLay0, PyData.depth, depthAll_strs]
  exact ⟨canAll_strs h, by decide⟩
end Dl

/-! pq10: picked by tools/pick.py -/
namespace Dl
open PySem PySem.Spec PyProof.Rows L2
def ltS (x y : Str) : Bool := PySem.W.dataLt (.str x) (.str y)
def minS (z : Str) (zs : List Str) : Str := zs.foldl (fun a y => if ltS y a then y else a) z
def Sh.least (s : Sh) : Str := match s.leaves with
  | [] => ""
  | z :: zs => minS z zs
theorem flat_perm {α β : Type} {f : α → List β} {l m : List α} (h : l.Perm m) : (l.flatMap f).Perm (m.flatMap f) := by
  induction h with
  | nil => exact .refl _
  | cons x _ ih => rw [List.flatMap_cons, List.flatMap_cons]; exact ih.append_left _
  | swap x y l =>
    rw [List.flatMap_cons, List.flatMap_cons, List.flatMap_cons, List.flatMap_cons, ← List.append_assoc, ← List.append_assoc]
    exact List.perm_append_comm.append_right _
  | trans _ _ a b => exact a.trans b
theorem minS_mem : ∀ (z : Str) (zs : List Str), minS z zs ∈ z :: zs
  | z, [] => List.mem_singleton.mpr rfl
  | z, y :: r => by
    unfold minS
    rw [List.foldl_cons]
    have h := minS_mem (if ltS y z then y else z) r
    unfold minS at h
    rcases List.mem_cons.mp h with e | h
    · rw [e]
      split
      · exact List.mem_cons_of_mem _ (List.mem_cons_self ..)
      · exact List.mem_cons_self ..
    · exact List.mem_cons_of_mem _ (List.mem_cons_of_mem _ h)
theorem least_mem {s : Sh} (wd : s.Wd) : s.least ∈ s.leaves := by
  have pos := wd.pos
  unfold Sh.least
  match e : s.leaves, pos with
  | z :: zs, _ => exact minS_mem z zs
/-- o is written by the shapes one behind the other -/
def Cat (qs : List Sh) (o : List Str) : Prop := o ∈ prodO (qs.map Sh.orders)
theorem cat_cons {p : Sh} {qs : List Sh} {o : List Str} : Cat (p :: qs) o ↔ ∃ a ∈ p.orders, ∃ b, Cat qs b ∧ o = a ++ b := by
  unfold Cat
  rw [List.map_cons, mem_prod_cons]
section
variable {c : List Str}
theorem ord_ne {p : Sh} {o : List Str} (wd : p.Wd) (h : o ∈ p.orders) : o ≠ [] := fun e => by
  have := order_len h
  have q := wd.pos
  rw [e] at this
  rw [← this] at q
  exact absurd q (by decide)
end
def pos (o : List Str) (x : Str) : Nat := o.idxOf x
theorem cat_uniq : ∀ {qs rs : List Sh} {o : List Str}, rs.Perm qs → (∀ p ∈ qs, p.Wd) → (qs.flatMap Sh.leaves).Nodup → Cat qs o → Cat rs o → rs = qs
  | [], rs, o, pp, _, _, _, _ => List.perm_nil.mp pp
  | p :: r, rs, o, pp, wd, nd, h1, h2 => by
    match rs, pp, h2 with
    | [], pp, _ => exact absurd (List.nil_perm.mp pp) (by simp)
    | p' :: r', pp, h2 =>
    obtain ⟨a, ha, b, hb, rfl⟩ := cat_cons.mp h1
    obtain ⟨a', ha', b', hb', e⟩ := cat_cons.mp h2
    have wp := wd p (List.mem_cons_self ..)
    have mp' : p' ∈ p :: r := pp.mem_iff.mp (List.mem_cons_self ..)
    have wp' := wd p' mp'
    rw [List.flatMap_cons] at nd
    obtain ⟨_, n2, n3⟩ := List.nodup_append.mp nd
    have ep : p' = p := by
      rcases List.mem_cons.mp mp' with e1 | m
      · exact e1
      · exfalso
        have na := ord_ne wp ha
        have na' := ord_ne wp' ha'
        match a, a', na, na', e, ha, ha' with
        | z :: _, z' :: _, _, _, e, ha, ha' =>
          have ez : z = z' := (List.cons.inj e).1
          have hz : z ∈ p.leaves := (order_perm p _ ha).mem_iff.mp (List.mem_cons_self ..)
          have hz' : z' ∈ p'.leaves := (order_perm p' _ ha').mem_iff.mp (List.mem_cons_self ..)
          exact n3 z hz z' (List.mem_flatMap.mpr ⟨p', m, hz'⟩) ez
    subst ep
    have el : a.length = a'.length := by rw [order_len ha, order_len ha']
    obtain ⟨_, eb⟩ := List.append_inj e el
    subst eb
    rw [cat_uniq ((List.perm_cons _).mp pp) (fun q hq => wd q (List.mem_cons_of_mem _ hq)) n2 hb hb']
section
variable {row : Bool} {ps : List Sh}
theorem flat_nd {qs : List Sh} (pq : qs.Perm ps) (nd : (ps.flatMap Sh.leaves).Nodup) : (qs.flatMap Sh.leaves).Nodup := (flat_perm pq).nodup_iff.mpr nd
end
theorem part_nd {ps : List Sh} {p : Sh} (nd : (ps.flatMap Sh.leaves).Nodup) (hp : p ∈ ps) : p.leaves.Nodup := by
  obtain ⟨A, B, rfl⟩ := List.append_of_mem hp
  rw [List.flatMap_append, List.flatMap_cons] at nd
  exact (List.nodup_append.mp (List.nodup_append.mp nd).2.1).1
theorem parts_nd {ps : List Sh} (wd : ∀ p ∈ ps, p.Wd) (nd : (ps.flatMap Sh.leaves).Nodup) : ps.Nodup := by
  induction ps with
  | nil => exact .nil
  | cons p r ih =>
    rw [List.flatMap_cons] at nd
    obtain ⟨_, n2, n3⟩ := List.nodup_append.mp nd
    refine List.nodup_cons.mpr ⟨fun m => ?_, ih (fun q hq => wd q (List.mem_cons_of_mem _ hq)) n2⟩
    have h := least_mem (wd p (List.mem_cons_self ..))
    exact n3 _ h _ (List.mem_flatMap.mpr ⟨p, m, h⟩) rfl
theorem fold_nodup : ∀ (xss : List (List (List Str))) (acc : List (List Str)), acc.Nodup → (∀ a ∈ acc, ∀ b ∈ acc, a.length = b.length) → (∀ xs ∈ xss, xs.Nodup ∧ ∀ a ∈ xs, ∀ b ∈ xs, a.length = b.length) → (xss.foldl (fun (made inner : List (List Str)) => made.flatMap fun o => inner.map fun i => o ++ i) acc).Nodup
  | [], acc, h, _, _ => h
  | x :: r, acc, h, l, hx => by
    rw [List.foldl_cons]
    obtain ⟨n1, l1⟩ := hx x (List.mem_cons_self ..)
    refine fold_nodup r _ ?_ (fun a ha b hb => ?_) fun xs hxs => hx xs (List.mem_cons_of_mem _ hxs)
    · refine List.pairwise_flatMap.mpr ⟨fun o _ => List.Pairwise.map _ (fun a b ne e => ne (List.append_cancel_left e)) n1, ?_⟩
      refine List.Pairwise.imp_of_mem (fun {o o'} ho ho' ne => ?_) h
      intro u hu v hv e
      obtain ⟨i, _, rfl⟩ := List.mem_map.mp hu
      obtain ⟨j, _, rfl⟩ := List.mem_map.mp hv
      exact ne (List.append_inj e (l o ho o' ho')).1
    · obtain ⟨o, ho, ha⟩ := List.mem_flatMap.mp ha
      obtain ⟨o', ho', hb⟩ := List.mem_flatMap.mp hb
      obtain ⟨i, hi, rfl⟩ := List.mem_map.mp ha
      obtain ⟨j, hj, rfl⟩ := List.mem_map.mp hb
      rw [List.length_append, List.length_append, l o ho o' ho', l1 i hi j hj]
theorem prod_nodup {xss : List (List (List Str))} (h : ∀ xs ∈ xss, xs.Nodup ∧ ∀ a ∈ xs, ∀ b ∈ xs, a.length = b.length) : (prodO xss).Nodup := fold_nodup xss [[]] (by simp) (fun a ha b hb => by rw [List.mem_singleton.mp ha, List.mem_singleton.mp hb]) h
theorem waysN_nodup (n : Nat) : ∀ t, (waysN n t).Nodup
  | 0 => by show ([[]] : List (List Nat)).Nodup; simp
  | t + 1 => by
    unfold waysN
    refine List.pairwise_flatMap.mpr ⟨fun w _ => ?_, ?_⟩
    · refine List.Pairwise.map _ (fun a b ne e => ne ?_) (List.Pairwise.sublist List.filter_sublist List.nodup_range)
      have := List.append_cancel_left e
      simpa using this
    · refine List.Pairwise.imp (fun {w w'} ne => ?_) (waysN_nodup n t)
      intro u hu v hv e
      obtain ⟨i, _, rfl⟩ := List.mem_map.mp hu
      obtain ⟨j, _, rfl⟩ := List.mem_map.mp hv
      exact ne (List.append_inj' e rfl).1
theorem ways_nodup {row : Bool} {n : Nat} (two : 2 ≤ n) : (ways row n).Nodup := by
  cases row with
  | false => exact waysN_nodup n n
  | true =>
    unfold ways
    refine List.nodup_cons.mpr ⟨fun h => ?_, by simp⟩
    have e := List.mem_singleton.mp h
    have := congrArg (fun l : List Nat => l[0]?) e
    simp only [List.getElem?_map] at this
    rw [List.getElem?_range (show 0 < n by omega)] at this
    simp at this
    omega
theorem parts_inj {ps : List Sh} (nd : ps.Nodup) : ∀ {w w' : List Nat}, (∀ k ∈ w, k < ps.length) → (∀ k ∈ w', k < ps.length) → partsBy ps w = partsBy ps w' → w = w'
  | [], [], _, _, _ => rfl
  | [], _ :: _, _, _, e => by cases e
  | _ :: _, [], _, _, e => by cases e
  | k :: w, k' :: w', h, h', e => by
    unfold partsBy at e
    rw [List.map_cons, List.map_cons] at e
    obtain ⟨e1, e2⟩ := List.cons.inj e
    have hk := h k (List.mem_cons_self ..)
    have hk' := h' k' (List.mem_cons_self ..)
    rw [getD_at hk, getD_at hk'] at e1
    rw [(List.getElem_inj nd).mp e1, parts_inj nd (fun j hj => h j (List.mem_cons_of_mem _ hj)) (fun j hj => h' j (List.mem_cons_of_mem _ hj)) e2]
theorem orders_nodup {s : Sh} (wd : s.Wd) (nd : s.leaves.Nodup) : s.orders.Nodup := by
  induction s using Sh.ind with
  | hl n => rw [Sh.orders]; simp
  | hb row ps ih =>
    cases wd with
    | br _ _ two hw =>
    rw [leaves_br] at nd
    rw [Sh.orders]
    refine List.pairwise_flatMap.mpr ⟨fun w hw' => ?_, ?_⟩
    · rw [getD_orders (way_lt hw')]
      refine prod_nodup fun xs hxs => ?_
      obtain ⟨p, hp, rfl⟩ := List.mem_map.mp hxs
      have hp := (partsBy_perm hw').mem_iff.mp hp
      exact ⟨ih p hp (hw p hp) (part_nd nd hp), fun a ha b hb => by rw [order_len ha, order_len hb]⟩
    · refine List.Pairwise.imp_of_mem (fun {w w'} m m' ne => ?_) (ways_nodup two)
      intro o ho o' ho' e
      subst e
      rw [getD_orders (way_lt m)] at ho
      rw [getD_orders (way_lt m')] at ho'
      have p1 := partsBy_perm m
      have p2 := partsBy_perm m'
      exact ne (parts_inj (parts_nd hw nd) (way_lt m) (way_lt m') (cat_uniq (p1.trans p2.symm) (fun p hp => hw p (p2.mem_iff.mp hp)) (flat_nd p2 nd) ho' ho))
end Dl

/-! leaves, text and shape of every node, by its depth -/
namespace Dl
open PySem PySem.Spec PyProof.Rows L2
theorem deepN {K : PySem.W.Frag} {c : NCls} {H : Hp} {p dx : Addr} {fs : List (Str × V)} {s : Sh} {row : Bool} (N : NFacts K c) (hp : H p = some (.ins (c.of row) dx fs)) (nd : NodeAt c H p s) : 1 ≤ s.depth := by
  cases nd with
  | leaf _ dx' n h1 =>
    rw [h1] at hp
    injection (Option.some.inj hp) with e
    exact absurd e.symm (N.lof row)
  | br row' _ dx' t L h1 _ _ _ => rw [Sh.depth]; omega
section
variable {P : Program} {w : World} {K : PySem.W.Frag} {mg : Str → Option Value} {base : Heap} {c : NCls}
theorem HasM.mono {CX : CXT} {j k : Nat} {m : Str} {ps : List Str} {sp : Addr → Sp} {C : Addr} (h : HasM P w K mg base CX j m ps sp C) (le : j ≤ k) : HasM P w K mg base CX k m ps sp C := by
  obtain ⟨cl, f, fd, a, b, F⟩ := h
  exact ⟨cl, f, fd, a, b, F.mono le⟩
theorem dmono {CX : CXT} {j k : Nat} {x : Str} {ps : List Str} {sp : Sp} (h : Dfn P w K mg base CX j x ps sp) (le : j ≤ k) : Dfn P w K mg base CX k x ps sp := by
  obtain ⟨f, fd, a, b, d, F⟩ := h
  exact ⟨f, fd, a, b, d, F.mono le⟩
structure NodeM2 (P : Program) (w : World) (K : PySem.W.Frag) (mg : Str → Option Value) (base : Heap) (c : NCls) (d : Nat) : Prop where
  leaves : ∀ C, c.D C → HasM P w K mg base CX0 (2 * d + 1) "leaves" ["self"] (spLeaves c d) C
  text : ∀ C, c.D C → HasM P w K mg base CX0 (2 * d + 1) "text" ["self"] (spText c d) C
  shape : ∀ C, c.D C → HasM P w K mg base CX0 (d + 1) "shape" ["self"] (spShapeN c d) C
theorem no_l (N : NFacts K c) (row : Bool) (k : Nat) (f : Addr) (fd : FuncData) : FnOk P w K mg base CX0 k f fd ["self"] (spLeaves c 0 (c.of row)) := by
  have no : ∀ vs H Q E, ¬ spLeaves c 0 (c.of row) vs H Q E := fun vs H Q E h => by
    obtain ⟨p, s, dx, fs, rfl, hp, nd, hd, _⟩ := h
    have := deepN N hp nd
    omega
  exact ⟨fun vs H Q E h => (no _ _ _ _ h).elim, fun A outer s H args us vs Q E _ _ _ _ h => (no _ _ _ _ h).elim⟩
theorem no_t (N : NFacts K c) (row : Bool) (k : Nat) (f : Addr) (fd : FuncData) : FnOk P w K mg base CX0 k f fd ["self"] (spText c 0 (c.of row)) := by
  have no : ∀ vs H Q E, ¬ spText c 0 (c.of row) vs H Q E := fun vs H Q E h => by
    obtain ⟨p, s, dx, fs, rfl, hp, nd, hd, _⟩ := h
    have := deepN N hp nd
    omega
  exact ⟨fun vs H Q E h => (no _ _ _ _ h).elim, fun A outer s H args us vs Q E _ _ _ _ h => (no _ _ _ _ h).elim⟩
theorem no_s (N : NFacts K c) (row : Bool) (k : Nat) (f : Addr) (fd : FuncData) : FnOk P w K mg base CX0 k f fd ["self"] (spShapeN c 0 (c.of row)) := by
  have no : ∀ vs H Q E, ¬ spShapeN c 0 (c.of row) vs H Q E := fun vs H Q E h => by
    obtain ⟨p, s, dx, fs, rfl, hp, nd, hd, _⟩ := h
    have := deepN N hp nd
    omega
  exact ⟨fun vs H Q E h => (no _ _ _ _ h).elim, fun A outer s H args us vs Q E _ _ _ _ h => (no _ _ _ _ h).elim⟩
/-- where the nine methods and the two defs stand -/
structure NodeT2 (K : PySem.W.Frag) (mg : Str → Option Value) (c : NCls) : Prop where
  facts : NFacts K c
  kind : NKind K c
  txt : TxtNd mg
  lL : ∃ f fd, Meth K c.L "leaves" f ∧ Binds K fd ["self"] [] ∧ Fun K "leaves" "Leaf.leaves" sLeafLeaves f fd
  lG : ∃ f fd, Meth K c.G "leaves" f ∧ Binds K fd ["self"] [] ∧ Fun K "leaves" "Group.leaves" sGroupLeaves f fd
  lR : ∃ f fd, Meth K c.R "leaves" f ∧ Binds K fd ["self"] [] ∧ Fun K "leaves" "Row.leaves" sRowLeaves f fd
  tL : ∃ f fd, Meth K c.L "text" f ∧ Binds K fd ["self"] [] ∧ Fun K "text" "Leaf.text" sLeafText f fd
  tG : ∃ f fd, Meth K c.G "text" f ∧ Binds K fd ["self"] [] ∧ Fun K "text" "Group.text" sGroupText f fd
  tR : ∃ f fd, Meth K c.R "text" f ∧ Binds K fd ["self"] [] ∧ Fun K "text" "Row.text" sRowText f fd
  sL : ∃ f fd, Meth K c.L "shape" f ∧ Binds K fd ["self"] [] ∧ Fun K "shape" "Leaf.shape" sLeafShape f fd
  sG : ∃ f fd, Meth K c.G "shape" f ∧ Binds K fd ["self"] [] ∧ Fun K "shape" "Group.shape" sGroupShape f fd
  sR : ∃ f fd, Meth K c.R "shape" f ∧ Binds K fd ["self"] [] ∧ Fun K "shape" "Row.shape" sRowShape f fd
  of_ : ∃ f fd, mg "_leaves_of" = some (.ref f) ∧ PySem.W.keepIn K (.ref f) = true ∧ Binds K fd ["parts"] [] ∧ Fun K "_leaves_of" "_leaves_of" sLeavesOf f fd
  texts : ∃ f fd, mg "_texts_of" = some (.ref f) ∧ PySem.W.keepIn K (.ref f) = true ∧ Binds K fd ["parts"] [] ∧ Fun K "_texts_of" "_texts_of" sTextsOf f fd
theorem nodes_all2 (T : NodeT2 K mg c) : ∀ d, NodeM2 P w K mg base c d := by
  have N := T.facts
  obtain ⟨f1, d1, m1, b1, F1⟩ := T.lL
  obtain ⟨f2, d2, m2, b2, F2⟩ := T.lG
  obtain ⟨f3, d3, m3, b3, F3⟩ := T.lR
  obtain ⟨f4, d4, m4, b4, F4⟩ := T.tL
  obtain ⟨f5, d5, m5, b5, F5⟩ := T.tG
  obtain ⟨f6, d6, m6, b6, F6⟩ := T.tR
  obtain ⟨f7, d7, m7, b7, F7⟩ := T.sL
  obtain ⟨f8, d8, m8, b8, F8⟩ := T.sG
  obtain ⟨f9, d9, m9, b9, F9⟩ := T.sR
  obtain ⟨fo, dO, mo, ko, bo, Fo⟩ := T.of_
  obtain ⟨ft, dt, mt, kt, bt, Ft⟩ := T.texts
  intro d
  induction d with
  | zero =>
    refine ⟨fun C dC => ?_, fun C dC => ?_, fun C dC => ?_⟩
    · rcases dC with rfl | rfl | rfl
      · exact ⟨N.cl _ (.inl rfl), f1, d1, m1, b1, ok_leafleaves F1 N 0⟩
      · exact ⟨N.cl _ (.inr (.inl rfl)), f2, d2, m2, b2, no_l N false 1 f2 d2⟩
      · exact ⟨N.cl _ (.inr (.inr rfl)), f3, d3, m3, b3, no_l N true 1 f3 d3⟩
    · rcases dC with rfl | rfl | rfl
      · exact ⟨N.cl _ (.inl rfl), f4, d4, m4, b4, ok_leaftext F4 N 0⟩
      · exact ⟨N.cl _ (.inr (.inl rfl)), f5, d5, m5, b5, no_t N false 1 f5 d5⟩
      · exact ⟨N.cl _ (.inr (.inr rfl)), f6, d6, m6, b6, no_t N true 1 f6 d6⟩
    · rcases dC with rfl | rfl | rfl
      · exact ⟨N.cl _ (.inl rfl), f7, d7, m7, b7, ok_leafshape F7 N 0⟩
      · exact ⟨N.cl _ (.inr (.inl rfl)), f8, d8, m8, b8, no_s N false 1 f8 d8⟩
      · exact ⟨N.cl _ (.inr (.inr rfl)), f9, d9, m9, b9, no_s N true 1 f9 d9⟩
  | succ d ih =>
    have gO : Dfn P w K mg base CX0 (2 * d + 2) "_leaves_of" ["parts"] (spLeavesOf K c d) := ⟨fo, dO, mo, ko, bo, ok_leavesof Fo T.txt ih.leaves⟩
    have gT : Dfn P w K mg base CX0 (2 * d + 2) "_texts_of" ["parts"] (spTextsOf K c d) := ⟨ft, dt, mt, kt, bt, ok_textsof Ft ih.text⟩
    refine ⟨fun C dC => ?_, fun C dC => ?_, fun C dC => ?_⟩
    · rcases dC with rfl | rfl | rfl
      · exact ⟨N.cl _ (.inl rfl), f1, d1, m1, b1, (ok_leafleaves F1 N (d + 1)).mono (by omega)⟩
      · exact ⟨N.cl _ (.inr (.inl rfl)), f2, d2, m2, b2, ok_groupleaves F2 N gO⟩
      · exact ⟨N.cl _ (.inr (.inr rfl)), f3, d3, m3, b3, ok_rowleaves F3 N gO⟩
    · rcases dC with rfl | rfl | rfl
      · exact ⟨N.cl _ (.inl rfl), f4, d4, m4, b4, (ok_leaftext F4 N (d + 1)).mono (by omega)⟩
      · exact ⟨N.cl _ (.inr (.inl rfl)), f5, d5, m5, b5, ok_grouptext F5 N gT⟩
      · exact ⟨N.cl _ (.inr (.inr rfl)), f6, d6, m6, b6, ok_rowtext F6 N gT⟩
    · rcases dC with rfl | rfl | rfl
      · exact ⟨N.cl _ (.inl rfl), f7, d7, m7, b7, (ok_leafshape F7 N (d + 1)).mono (by omega)⟩
      · exact ⟨N.cl _ (.inr (.inl rfl)), f8, d8, m8, b8, ok_groupshape F8 N T.kind ih.shape⟩
      · exact ⟨N.cl _ (.inr (.inr rfl)), f9, d9, m9, b9, ok_rowshape F9 N T.kind ih.shape⟩
theorem nis10_mk {L G R N B : Addr} (y1 : PySem.W.findIn K (.ref L) "__class__" = some (some (.builtin "object.__class__"))) (y2 : PySem.W.findIn K (.ref G) "__class__" = some (some (.builtin "object.__class__"))) (y3 : PySem.W.findIn K (.ref R) "__class__" = some (some (.builtin "object.__class__")))
    (get : PySem.W.specialIn K (.builtin "object.__class__") "__get__" = some (some (.builtin "getset_descriptor.__get__"))) (takes : PySem.W.takesIn K (.builtin "object.__class__") = some true)
    (n1 : PySem.W.kitOne K (.ref L) (.ref N) = some true) (n2 : PySem.W.kitOne K (.ref G) (.ref N) = some true) (n3 : PySem.W.kitOne K (.ref R) (.ref N) = some true)
    (b1 : PySem.W.kitOne K (.ref L) (.ref B) = some false) (b2 : PySem.W.kitOne K (.ref G) (.ref B) = some true) (b3 : PySem.W.kitOne K (.ref R) (.ref B) = some true)
    (l1 : PySem.W.kitOne K (.ref L) (.ref L) = some true) (l2 : PySem.W.kitOne K (.ref G) (.ref L) = some false) (l3 : PySem.W.kitOne K (.ref R) (.ref L) = some false)
    (r1 : PySem.W.kitOne K (.ref L) (.ref R) = some false) (r2 : PySem.W.kitOne K (.ref G) (.ref R) = some false) (r3 : PySem.W.kitOne K (.ref R) (.ref R) = some true)
    (g1 : PySem.W.kitOne K (.ref L) (.ref G) = some false) (g2 : PySem.W.kitOne K (.ref G) (.ref G) = some true) (g3 : PySem.W.kitOne K (.ref R) (.ref G) = some false)
    (kd : ∃ t, PySem.W.findIn K (.ref L) "KIND" = some (some (.str "leaf" t)) ∧ PySem.W.specialIn K (.str "leaf" t) "__get__" = some none)
    (lg : L ≠ G) (lr : L ≠ R) (gr : G ≠ R) : NIs10 K ⟨L, G, R⟩ N B := by
  refine ⟨fun C h => ?_, get, takes, fun C h => ?_, fun C h => ?_, fun C h => ?_, fun C h => ?_, fun C h => ?_, ?_⟩
  · rcases (h : C = L ∨ C = G ∨ C = R) with rfl | rfl | rfl
    · exact y1
    · exact y2
    · exact y3
  · rcases (h : C = L ∨ C = G ∨ C = R) with rfl | rfl | rfl
    · exact n1
    · exact n2
    · exact n3
  · rcases (h : C = L ∨ C = G ∨ C = R) with rfl | rfl | rfl
    · rw [b1]; exact congrArg some (decide_eq_false (fun e => e rfl)).symm
    · rw [b2]; exact congrArg some (decide_eq_true (Ne.symm lg)).symm
    · rw [b3]; exact congrArg some (decide_eq_true (Ne.symm lr)).symm
  · rcases (h : C = L ∨ C = G ∨ C = R) with rfl | rfl | rfl
    · rw [l1]; exact congrArg some (decide_eq_true rfl).symm
    · rw [l2]; exact congrArg some (decide_eq_false (Ne.symm lg)).symm
    · rw [l3]; exact congrArg some (decide_eq_false (Ne.symm lr)).symm
  · rcases (h : C = L ∨ C = G ∨ C = R) with rfl | rfl | rfl
    · rw [r1]; exact congrArg some (decide_eq_false lr).symm
    · rw [r2]; exact congrArg some (decide_eq_false gr).symm
    · rw [r3]; exact congrArg some (decide_eq_true rfl).symm
  · rcases (h : C = L ∨ C = G ∨ C = R) with rfl | rfl | rfl
    · rw [g1]; exact congrArg some (decide_eq_false lg).symm
    · rw [g2]; exact congrArg some (decide_eq_true rfl).symm
    · rw [g3]; exact congrArg some (decide_eq_false (Ne.symm gr)).symm
  · obtain ⟨t, a, b⟩ := kd
    exact ⟨_, a, ⟨t, rfl⟩, b, by decide +kernel⟩
theorem nk_mk {L G R : Addr} (g : ∃ t, PySem.W.findIn K (.ref G) "KIND" = some (some (.str "group" t)) ∧ PySem.W.specialIn K (.str "group" t) "__get__" = some none) (r : ∃ t, PySem.W.findIn K (.ref R) "KIND" = some (some (.str "row" t)) ∧ PySem.W.specialIn K (.str "row" t) "__get__" = some none) : NKind K ⟨L, G, R⟩ := by
  refine ⟨fun row => ?_⟩
  cases row with
  | false =>
    obtain ⟨t, a, b⟩ := g
    exact ⟨_, a, ⟨t, rfl⟩, b, by decide +kernel⟩
  | true =>
    obtain ⟨t, a, b⟩ := r
    exact ⟨_, a, ⟨t, rfl⟩, b, by decide +kernel⟩
end
end Dl

/-! many of every node, by its depth -/
namespace Dl
open PySem PySem.Spec PyProof.Rows L2
section
variable {P : Program} {w : World} {K : PySem.W.Frag} {mg : Str → Option Value} {base : Heap} {c : NCls}
structure NodeT3 (K : PySem.W.Frag) (mg : Str → Option Value) (c : NCls) : Prop where
  facts : NFacts K c
  len : mg "len" = none
  fact : mg "factorial" = some (.builtin "math.factorial")
  mL : ∃ f fd, Meth K c.L "many" f ∧ Binds K fd ["self"] [] ∧ Fun K "many" "Leaf.many" sLeafMany f fd
  mG : ∃ f fd, Meth K c.G "many" f ∧ Binds K fd ["self"] [] ∧ Fun K "many" "Group.many" sGroupMany f fd
  mR : ∃ f fd, Meth K c.R "many" f ∧ Binds K fd ["self"] [] ∧ Fun K "many" "Row.many" sRowMany f fd
  in_ : ∃ f fd, mg "_many_within" = some (.ref f) ∧ PySem.W.keepIn K (.ref f) = true ∧ Binds K fd ["parts"] [] ∧ Fun K "_many_within" "_many_within" sManyWithin f fd
theorem no_m (N : NFacts K c) (row : Bool) (k : Nat) (f : Addr) (fd : FuncData) : FnOk P w K mg base CX0 k f fd ["self"] (spMany c 0 (c.of row)) := by
  have no : ∀ vs H Q E, ¬ spMany c 0 (c.of row) vs H Q E := fun vs H Q E h => by
    obtain ⟨p, s, dx, fs, rfl, hp, nd, hd, _⟩ := h
    have := deepN N hp nd
    omega
  exact ⟨fun vs H Q E h => (no _ _ _ _ h).elim, fun A outer s H args us vs Q E _ _ _ _ h => (no _ _ _ _ h).elim⟩
theorem many_all (T : NodeT3 K mg c) : ∀ d, ∀ C, c.D C → HasM P w K mg base CX0 (2 * d + 1) "many" ["self"] (spMany c d) C := by
  have N := T.facts
  obtain ⟨f1, d1, m1, b1, F1⟩ := T.mL
  obtain ⟨f2, d2, m2, b2, F2⟩ := T.mG
  obtain ⟨f3, d3, m3, b3, F3⟩ := T.mR
  obtain ⟨fo, dO, mo, ko, bo, Fo⟩ := T.in_
  intro d
  induction d with
  | zero =>
    intro C dC
    rcases dC with rfl | rfl | rfl
    · exact ⟨N.cl _ (.inl rfl), f1, d1, m1, b1, ok_leafmany F1 N 0⟩
    · exact ⟨N.cl _ (.inr (.inl rfl)), f2, d2, m2, b2, no_m N false 1 f2 d2⟩
    · exact ⟨N.cl _ (.inr (.inr rfl)), f3, d3, m3, b3, no_m N true 1 f3 d3⟩
  | succ d ih =>
    have gO : Dfn P w K mg base CX0 (2 * d + 2) "_many_within" ["parts"] (spManyIn K c d) := ⟨fo, dO, mo, ko, bo, ok_manyin Fo ih⟩
    intro C dC
    rcases dC with rfl | rfl | rfl
    · exact ⟨N.cl _ (.inl rfl), f1, d1, m1, b1, (ok_leafmany F1 N (d + 1)).mono (by omega)⟩
    · exact ⟨N.cl _ (.inr (.inl rfl)), f2, d2, m2, b2, ok_groupmany F2 N T.len T.fact gO⟩
    · exact ⟨N.cl _ (.inr (.inr rfl)), f3, d3, m3, b3, ok_rowmany F3 N gO⟩
end
end Dl

/-! the law -/
namespace Dl
open PySem PySem.Spec PyProof.Rows L2
def spLaw10 (K : PySem.W.Frag) : Sp := fun vs H Q _ => ∃ (a : Addr) (ns : List Int), vs = [.ref a] ∧ SqL K H a (ns.map V.int) ∧ ns.length ≤ 63 ∧ ∀ H', Q (.bl true) H'
structure KindC (K : PySem.W.Frag) (C : Addr) (z : Str) : Prop where
  rd : ClX.CRead K C (.type "type")
  at_ : ∃ u, ClX.CVal K C (.type "type") "KIND" (.str z) u
theorem tlen_small {s : Sh} (wd : s.Wd) (h : ∀ z ∈ s.leaves, z.length ≤ 12) : s.tlen + 4 ≤ 18 * s.leaves.length := by
  induction s using Sh.ind with
  | hl n =>
    have := h n (by rw [Sh.leaves]; exact List.mem_singleton.mpr rfl)
    rw [Sh.tlen, Sh.leaves]
    show n.length + 4 ≤ 18 * 1
    omega
  | hb row ps ih =>
    cases wd with
    | br _ _ two hw =>
    have sum : ∀ l : List Sh, (∀ p ∈ l, p.tlen + 4 ≤ 18 * p.leaves.length) → Sh.tlenL l + 3 * l.length ≤ 18 * (l.flatMap Sh.leaves).length := by
      intro l
      induction l with
      | nil => intro _; exact Nat.le_refl _
      | cons p r ih =>
        intro hl
        have a := hl p (List.mem_cons_self ..)
        have b := ih fun q hq => hl q (List.mem_cons_of_mem _ hq)
        rw [Sh.tlenL, List.flatMap_cons, List.length_append, List.length_cons]
        omega
    rw [leaves_br] at h ⊢
    have := sum ps fun p hp => ih p hp (hw p hp) fun z hz => h z (List.mem_flatMap.mpr ⟨p, hp, hz⟩)
    rw [Sh.tlen]
    omega
theorem br10p {c : NCls} {H : Hp} {p : Addr} {s : Sh} {row : Bool} {ps : List Sh} (h : NodeAt c H p s) (e : s = .br row ps) : ∃ dx t, ∃ L : Parts, H p = some (.ins (c.of row) dx [("parts", .ref t)]) ∧ H t = some (.tup (L.map fun q => V.ref q.1)) ∧ L.map (·.2) = ps ∧ ∀ q ∈ L, NodeAt c H q.1 q.2 := by
  cases h with
  | leaf => cases e
  | br row _ dx t L h1 h2 h3 h4 => cases e; exact ⟨dx, t, L, h1, h2, rfl, h4⟩
section
variable {P : Program} {w : World} {K : PySem.W.Frag} {mg : Str → Option Value} {base : Heap} {c : NCls} {CN CB : Addr}
theorem scLaw10 : FnScope ["_law_script", "_law_bag_here", "_law_names_here", "_law_shape_here", "_law_node_here", "_law_orders", "_law_turn", "_law_leaves", "_law_many"] ["_law_script"] (defScope sLaw) := ⟨rfl, rfl, rfl, by decide +kernel, rfl, by decide +kernel, by decide +kernel⟩
theorem ok_law10 {f : Addr} {fd : FuncData} (F : Fun K "law" "law" sLaw f fd) (T : TxtK10 mg c CN CB) (N : NFacts K c) (kL : KindC K c.L "leaf") (kG : KindC K c.G "group") (kR : KindC K c.R "row")
    (gB : Dfn P w K mg base CX0 1 "_law_bag" ["_law_script"] (spBag K)) (gT : Dfn P w K mg base CX0 1 "_law_take" ["_law_bag_here", "_law_size"] spTake)
    (gN : Dfn P w K mg base CX0 3 "_law_names" ["_law_bag_here", "_law_count"] spNames) (gS : Dfn P w K mg base CX0 7 "_law_shape" ["_law_bag_here", "_law_names_here"] (spShape 6))
    (gNo : Dfn P w K mg base CX0 8 "_law_node" ["_law_shape_here"] (spNode c 5)) (gE : Dfn P w K mg base CX0 7 "_law_expand" ["_law_shape_here"] (spExpand K 5))
    (gI : Dfn P w K mg base CX0 1 "_law_is_integer" ["_law_value"] spInt10) (gTx : Dfn P w K mg base CX0 6 "_law_shape_text" ["_law_shape_here"] (spShText 5)) (gK : Dfn P w K mg base CX0 1 "_law_kind_ok" ["_law_node_here", "_law_shape_here"] (spKind c))
    (M2 : NodeM2 P w K mg base c 5) (hMa : ∀ C, c.D C → HasM P w K mg base CX0 11 "many" ["self"] (spMany c 5) C) :
    FnOk P w K mg base CX0 13 f fd ["_law_script"] (spLaw10 K) := by
  obtain ⟨fB, dB, mBag, kBag, bBag, GBag⟩ := gB
  obtain ⟨fT, dT, mTake, kTake, bTake, GTake⟩ := gT
  obtain ⟨fN, dN, mNames, kNames, bNames, GNames⟩ := gN
  obtain ⟨fS, dS, mShape, kShape, bShape, GShape⟩ := gS
  obtain ⟨fNo, dNo, mNode, kNode, bNode, GNode⟩ := gNo
  obtain ⟨fE, dE, mExpand, kExpand, bExpand, GExpand⟩ := gE
  obtain ⟨fI, dI, mInt, kInt, bInt, GInt⟩ := gI
  obtain ⟨fX, dX, mText, kText, bText, GText⟩ := gTx
  obtain ⟨fK, dK, mKind, kKind, bKind, GKind⟩ := gK
  have hLv := M2.leaves
  have hSh := M2.shape
  have hTx := M2.text
  refine F.ok scLaw10 (fun vs H Q E h => ?_) (fun cdv A outer s H vs Q E hr h => ?_)
  · obtain ⟨a, ns, rfl, _⟩ := h
    rfl
  · obtain ⟨a0, ns, rfl, hS, hlen, k⟩ := h
    have hr12 : Room 11 _ := hr.mono (by decide)
    have hr6 : Room 6 _ := hr.mono (by decide)
    have hr8 : Room 8 _ := hr.mono (by decide)
    have hr7 : Room 7 _ := hr.mono (by decide)
    have hr3 : Room 3 _ := hr.mono (by decide)
    have hr1 : Room 1 _ := hr.mono (by decide)
    refine ⟨_, (pss_cons (ps_set (i := 1) scLaw10.nd rfl (Or.inl rfl) (pe_call GBag hr1 (by rfl) mBag kBag bBag .nil pass0 (pa_cons (pv 0) pa_nil)))
        (pss_cons (ps_set (i := 2) scLaw10.nd rfl (Or.inl rfl) (pe_call GNames hr3 (by rfl) mNames kNames bNames .nil pass0 (pa_cons (pv 1) (pa_cons (pe_op op_add pe_int (pe_call GTake hr1 (by rfl) mTake kTake bTake .nil pass0 (pa_cons (pv 1) (pa_cons pe_int pa_nil)))) pa_nil))))
        (pss_cons (ps_set (i := 3) scLaw10.nd rfl (Or.inl rfl) (pe_call GShape hr7 (by rfl) mShape kShape bShape .nil pass0 (pa_cons (pv 1) (pa_cons (pv 2) pa_nil))))
        (pss_cons (ps_set (i := 4) scLaw10.nd rfl (Or.inl rfl) (pe_call GNode hr8 (by rfl) mNode kNode bNode .nil pass0 (pa_cons (pv 3) pa_nil)))
        (pss_cons (ps_set (i := 5) scLaw10.nd rfl (Or.inl rfl) (pe_call GExpand hr7 (by rfl) mExpand kExpand bExpand .nil pass0 (pa_cons (pv 3) pa_nil)))
        (pss_cons (ps_if (pt_cmpR op_ne (pe_lenMany rfl hr.units (by rfl) T.len (by rfl) T.set (pv 5)) (pe_callB call_len_seq (by rfl) T.len PySem.boot_len (pa_cons (pv 5) pa_nil)) (nomark _)) (pss_one (ps_ret pe_bl)) pss_nil)
        (pss_cons (ps_for PassesOwn.never rfl (pi_range1 (by rfl) T.range (pa_cons pe_int pa_nil)) (pg_name (i := 6) scLaw10.nd rfl (Or.inl rfl)) (pss_cons (ps_set (i := 7) scLaw10.nd rfl (Or.inl rfl) (pe_methD0 (pv 4) hLv hr12 pass0))
        (pss_cons (ps_set (i := 8) scLaw10.nd rfl (Or.inl rfl) (pe_methD0 (pv 4) hMa hr12 pass0))
        (pss_cons (ps_if (PW.pt (pw_or (pt_not (pt_val (pe_callB call_isi (by rfl) T.isinstance (by decide +kernel) (pa_cons (pv 7) (pa_cons (pe_bltn (v := .ty "tuple") (by rfl) T.tuple (by decide +kernel) rfl) pa_nil))))) (pw_or (pt_cmpR (op_neD hr.units) (pe_callTy call_list_of (by rfl) T.list (by decide +kernel) (pa_cons (pv 7) pa_nil)) (pv 2) (nomark _)) (pw_or1 (pt_cmpR (op_neD hr.units) (pe_methD0 (pv 4) hSh hr6 pass0) (pv 3) (nomark _)))))) (pss_one (ps_ret pe_bl)) pss_nil)
        (pss_one (ps_if (PW.pt (pw_or (pt_not (pt_val (pe_call GInt hr1 (by rfl) mInt kInt bInt .nil pass0 (pa_cons (pv 8) pa_nil)))) (pw_or (pt_cmpR op_ne (pv 8) (pe_callB call_len_seq (by rfl) T.len PySem.boot_len (pa_cons (pv 5) pa_nil)) (nomark _)) (pw_or1 (pt_cmpR op_ne (pe_methD0 (pv 4) hTx hr12 pass0) (pe_call GText hr6 (by rfl) mText kText bText .nil pass0 (pa_cons (pv 3) pa_nil)) (nomark _)))))) (pss_one (ps_ret pe_bl)) pss_nil))))))
        (pss_cons (ps_if (PW.pt (pw_or (pt_cmpR op_ne (ClX.pe_cval (pe_glob (v := .ref c.R) (by rfl) T.gRow rfl)) pe_str (nomark _)) (pw_or (pt_cmpR op_ne (ClX.pe_cval (pe_glob (v := .ref c.G) (by rfl) T.gGroup rfl)) pe_str (nomark _)) (pw_or (pt_cmpR op_ne (ClX.pe_cval (pe_glob (v := .ref c.L) (by rfl) T.gLeaf rfl)) pe_str (nomark _)) (pw_or1 (pt_not (pt_val (pe_call GKind hr1 (by rfl) mKind kKind bKind .nil pass0 (pa_cons (pv 4) (pa_cons (pv 3) pa_nil)))))))))) (pss_one (ps_ret pe_bl)) pss_nil)
        (pss_one (ps_ret (pe_or (pe_callB call_isi (by rfl) T.isinstance (by decide +kernel) (pa_cons (pv 3) (pa_cons (pe_bltn (v := .ty "str") (by rfl) T.str (by decide +kernel) rfl) pa_nil))) (pe_one (pe_call GKind hr1 (by rfl) mKind kKind bKind .nil pass0 (pa_cons (pe_ix ix_tup (pe_fld (pv 4) rfl) pe_int (fun _ _ => rfl)) (pa_cons (pe_ix ix_tup (pv 3) pe_int (fun _ _ => rfl)) pa_nil))))))))))))))), ?_⟩
    refine ⟨_, rfl, a0, ns, rfl, hS, hlen, fun H1 b L s1 hb0 hL hok => ?_⟩
    refine ⟨_, rfl, _, rfl, b, L, 6, rfl, hL, hok, by decide, by decide, fun L1 n ok1 n0 n1 => ⟨_, _, rfl, rfl, b, L1, 1 + n, rfl, upd_same, ok1, by omega, by omega, fun H2 u L2 zs s2 hun hu hb2 ok2 okz hz => ?_⟩⟩
    have nub : u ≠ b := fun e => by rw [e, upd_same] at hun; cases hun
    have zl : 1 ≤ zs.length ∧ zs.length ≤ 6 := by omega
    clear hL hok s1 s2 ok1 hun hz n0 n1
    refine ⟨_, rfl, _, rfl, b, u, L2, zs, rfl, hb2, ok2, nub, hu, zl.1, zl.2, fun H3 v s L3 s3 hb3 ok3 sv lf gd dp => ?_⟩
    have hu3 := s3 _ _ nub hu
    have sm : ∀ z ∈ s.leaves, z.length ≤ 12 := fun z hz => (valid_small (okz.valid (by rw [← lf]; exact hz))).1
    have cz : ∀ z ∈ s.leaves, canS z := fun z hz => valid_can (okz.valid (by rw [← lf]; exact hz))
    have d5 : s.depth ≤ 5 := by omega
    refine ⟨_, rfl, v, s, rfl, sv, gd, d5, sm, fun H4 p s4 _ nd => ?_⟩
    refine ⟨_, rfl, v, s, rfl, sv.of s4, gd, d5, by rw [lf]; omega, sm, fun H5 q M s5 hq0 oM eM => ?_⟩
    have nd := nd.of s5
    have s45 := s4.trans s5
    have hu5 := s45 _ _ hu3
    have sv5 := sv.of s45
    have ml : M.length = s.many := by rw [← orders_len gd, ← eM, List.length_map]
    have m720 := many_720 gd (by rw [lf]; omega)
    have once : (M.map (·.2)).Nodup := by
      rw [eM]
      exact orders_nodup (ok_wd gd) (by rw [lf]; exact okz.nd)
    have tl : s.tlen ≤ 100000 := by
      have := tlen_small (ok_wd gd) sm
      rw [lf] at this
      omega
    clear s3 s4 s5 s45 sv hb3 hu3 hu hb2 ok2
    refine ⟨_, rfl, q, M, rfl, SqL.of oM.lst, oM.all, by omega, once, _, rfl, q, _, rfl, .inl (SqL.of oM.lst), rfl, _, rfl, iteZ (by simp) ?_⟩
    obtain ⟨C, dx, fn, fv, hi0, dC, fe⟩ := nd.ins
    have dLv : (("leaves" : Str) == fn) = false := by rcases fe with rfl | rfl <;> decide +kernel
    have dMa : (("many" : Str) == fn) = false := by rcases fe with rfl | rfl <;> decide +kernel
    have dSh : (("shape" : Str) == fn) = false := by rcases fe with rfl | rfl <;> decide +kernel
    have dTx : (("text" : Str) == fn) = false := by rcases fe with rfl | rfl <;> decide +kernel
    have l6 : s.leaves.length ≤ 6 := by rw [lf]; omega
    have shL : SeqAt.shaped (.list (s.leaves.map PyData.str)) = true := shaped_strsL cz
    have shD : SeqAt.shaped s.dat = true := dat_shaped cz (by omega)
    have big : s.many ≤ BIG := Nat.le_trans m720 (by decide +kernel)
    refine ⟨_, rfl, by decide, by decide, ?_⟩
    refine for_it (walk_range (lo := 0) (n := 2)) (fun i σ H' => ∃ (x6 x7 x8 : Option V), σ = [some (.ref a0), some (.ref b), some (.ref u), some v, some (.ref p), some (.ref q), x6, x7, x8] ∧ Same H5 H') ⟨none, none, none, rfl, Same.refl _⟩ (fun _ _ _ _ _ => trivial) ?_ ?_
    · rintro i v' σ H6 H7 hi ⟨x6, x7, x8, rfl, s7⟩ ⟨rfl, rfl⟩
      refine ⟨_, rfl, p, C, dx, _, rfl, s7 _ _ hi0, dC, lookN dLv, p, s, dx, _, rfl, s7 _ _ hi0, nd.of s7, d5, by omega, fun H8 t s8 ht => ?_⟩
      have s58 := s7.trans s8
      refine ⟨_, rfl, p, C, dx, _, rfl, s58 _ _ hi0, dC, lookN dMa, p, s, dx, _, rfl, s58 _ _ hi0, nd.of s58, d5, big, by omega, ok_wd gd, fun H9 s9 => ?_⟩
      have s59 := s58.trans s9
      have ht9 := s9 _ _ ht
      refine ⟨_, rfl, _, _, _, _, true, rfl, ClsV.ty "tuple", .base (.tup ht9), kit_ty (by decide +kernel), true, rfl, iteZ rfl ?_⟩
      refine ⟨_, rfl, t, _, rfl, .inr (SqT.of ht9), fun ll hll => ?_⟩
      have s10 := Same.upd_new hll (o := .lst (s.leaves.map V.str))
      have s510 := s59.trans s10
      refine ⟨_, rfl, .list (s.leaves.map PyData.str), .list (zs.map PyData.str), .lst (SqL.of upd_same) (dpAll_strs _), .lst (SqL.of (s510 _ _ hu5)) (dpAll_strs _), shL, by rw [← lf]; exact shL, _, rfl, iteZ (by rw [lf, eqv_strsL]; rfl) ?_⟩
      generalize upd H9 ll (.lst (s.leaves.map V.str)) = H10 at *
      refine ⟨_, rfl, p, C, dx, _, rfl, s510 _ _ hi0, dC, lookN dSh, p, s, dx, _, rfl, s510 _ _ hi0, nd.of s510, d5, tl, fun H11 v2 s11 sv2 => ?_⟩
      have s511 := s510.trans s11
      refine ⟨_, rfl, s.dat, s.dat, sv2.dp, (sv5.of s511).dp, shD, shD, _, rfl, iteZ (by rw [eqv_dat]; rfl) ?_⟩
      refine ⟨_, rfl, _, rfl, true, rfl, iteZ rfl ?_⟩
      refine ⟨_, rfl, _, rfl, q, _, rfl, .inl (SqL.of (s511 _ _ oM.lst)), rfl, _, rfl, iteZ (by rw [List.length_map, ml]; simp) ?_⟩
      refine ⟨_, rfl, p, C, dx, _, rfl, s511 _ _ hi0, dC, lookN dTx, p, s, dx, _, rfl, s511 _ _ hi0, nd.of s511, d5, tl, fun H12 s12 => ?_⟩
      have s512 := s511.trans s12
      refine ⟨_, rfl, v, s, rfl, sv5.of s512, d5, tl, fun H13 s13 => ?_⟩
      exact ⟨rfl, _, rfl, iteZ (by simp) ⟨_, _, _, rfl, s512.trans s13⟩⟩
    rintro σ H6 ⟨x6, x7, x8, rfl, s6⟩
    obtain ⟨uR, hR⟩ := kR.at_
    obtain ⟨uG, hG⟩ := kG.at_
    obtain ⟨uL, hLf⟩ := kL.at_
    refine ⟨c.R, _, _, uR, rfl, kR.rd, hR, rfl, _, rfl, iteZ (by decide +kernel) ?_⟩
    refine ⟨c.G, _, _, uG, rfl, kG.rd, hG, rfl, _, rfl, iteZ (by decide +kernel) ?_⟩
    refine ⟨c.L, _, _, uL, rfl, kL.rd, hLf, rfl, _, rfl, iteZ (by decide +kernel) ?_⟩
    have nd6 := nd.of s6
    have sv6 := sv5.of s6
    refine ⟨_, rfl, _, rfl, p, v, s, rfl, nd6, sv6, gd, cz, true, rfl, iteZ rfl ?_⟩
    clear hi0 fe dLv dMa dSh dTx sv5 nd eM ml once oM tl big shD shL m720 lf l6
    cases sv6 with
    | leaf n => exact ⟨_, rfl, .str n, _, _, _, true, rfl, ClsV.ty "str", .base (.str n), kit_ty (by decide +kernel), true, rfl, iteT (k H6)⟩
    | br row a M2 g1 g2 =>
      obtain ⟨dx2, t2, L2, h1, h2, e, h4⟩ := br10p nd6 rfl
      refine ⟨_, rfl, .ref a, _, _, _, false, rfl, ClsV.ty "str", .base (.tup g1), kit_ty (by decide +kernel), false, rfl, iteF ?_⟩
      cases gd with
      | br _ _ two four three parts =>
      match L2, M2, e, two, h2, h4, g1, g2, parts, cz with
      | [], M2, e, two, _, _, _, _, _, _ => exact absurd (e ▸ two) (by decide)
      | _ :: _, [], _, two, _, _, _, _, _, _ => exact absurd two (by decide)
      | l :: Lr, m :: Mr, e, two, h2, h4, g1, g2, parts, cz =>
        have e0 : l.2 = m.2 := by
          rw [List.map_cons, List.map_cons] at e
          exact (List.cons.inj e).1
        refine ⟨_, rfl, p, c.of row, dx2, _, _, rfl, h1, N.cl _ (c.of_D row), N.parts row, lookS _ _, t2, _, 0, _, rfl, rfl, SqT.of h2, at_first10 rfl, _, rfl, a, _, 1, _, rfl, rfl, SqT.of g1, atI_nat (j := 1) rfl, ?_⟩
        refine ⟨l.1, m.1, m.2, rfl, e0 ▸ h4 l (List.mem_cons_self ..), g2 m (List.mem_cons_self ..), parts m.2 (by rw [List.map_cons]; exact List.mem_cons_self ..), fun z hz => cz z ?_, k H6⟩
        rw [leaves_br, List.map_cons, List.flatMap_cons]
        exact List.mem_append_left _ hz
end
end Dl

namespace Dl
open PySem PySem.Spec PyProof.Rows L2
theorem nf_mk {K : PySem.W.Frag} {L G R : Addr} (cL : Cls K L) (cG : Cls K G) (cR : Cls K R) (nL : NoAttr K L "name") (nG : NoAttr K G "parts") (nR : NoAttr K R "parts")
    (eL : PySem.W.findIn K (.ref L) "__eq__" = some (some (.builtin "object.__eq__"))) (eG : PySem.W.findIn K (.ref G) "__eq__" = some (some (.builtin "object.__eq__"))) (eR : PySem.W.findIn K (.ref R) "__eq__" = some (some (.builtin "object.__eq__")))
    (mL : PySem.W.mroIn K L (.type "object") = some true) (mG : PySem.W.mroIn K G (.type "object") = some true) (mR : PySem.W.mroIn K R (.type "object") = some true)
    (lg : PySem.W.subIn K (.ref L) (.ref G) = some false) (gl : PySem.W.subIn K (.ref G) (.ref L) = some false) (lr : PySem.W.subIn K (.ref L) (.ref R) = some false) (rl : PySem.W.subIn K (.ref R) (.ref L) = some false)
    (gr : PySem.W.subIn K (.ref G) (.ref R) = some false) (rg : PySem.W.subIn K (.ref R) (.ref G) = some false) (n1 : L ≠ G) (n2 : L ≠ R) (n3 : G ≠ R) : NFacts K ⟨L, G, R⟩ := by
  have self : ∀ C, PySem.W.notFirst K C (.ref C) = true := fun C => by unfold PySem.W.notFirst; simp
  have sub : ∀ {C C' : Addr}, PySem.W.subIn K (.ref C') (.ref C) = some false → PySem.W.notFirst K C (.ref C') = true := fun h => by unfold PySem.W.notFirst; rw [h]; simp
  refine ⟨fun C h => ?_, nL, fun row => ?_, ⟨fun C h => ?_, fun C h => ?_, fun C C' h h' => ?_⟩, n1, n2, n3⟩
  · rcases (h : C = L ∨ C = G ∨ C = R) with rfl | rfl | rfl
    · exact cL
    · exact cG
    · exact cR
  · cases row
    · exact nG
    · exact nR
  · rcases (h : C = L ∨ C = G ∨ C = R) with rfl | rfl | rfl
    · exact eL
    · exact eG
    · exact eR
  · rcases (h : C = L ∨ C = G ∨ C = R) with rfl | rfl | rfl
    · exact mL
    · exact mG
    · exact mR
  · rcases (h : C = L ∨ C = G ∨ C = R) with rfl | rfl | rfl <;> rcases (h' : C' = _ ∨ C' = _ ∨ C' = _) with rfl | rfl | rfl
    · exact self _
    · exact sub gl
    · exact sub rl
    · exact sub lg
    · exact self _
    · exact sub rg
    · exact sub lr
    · exact sub gr
    · exact self _
end Dl

namespace Dl
open PySem PySem.Spec PyProof.Rows L2
theorem all_mk {l : PySem.W.OpenLaw} {w : World} {K : PySem.W.Frag} {h : Heap} {mg : Str → Option Value} {fa f_leaves_of f_many_within f_texts_of f_law_bag f_law_take f_law_name f_law_names f_law_is_integer f_law_shape f_law_node f_law_ways f_law_expand f_law_shape_text f_law_kind_ok f_law C_Node C_Branch f_Branch_init C_Leaf f_Leaf_init f_Leaf_leaves f_Leaf_text f_Leaf_shape f_Leaf_many C_Group f_Group_leaves f_Group_text f_Group_shape f_Group_many C_Row f_Row_leaves f_Row_text f_Row_shape f_Row_many : Addr} (X : K.In h) (G : h.Ns mainGlobals mg) (hfa : mg "law" = some (.ref fa))
    {od_leaves_of an_leaves_of od_many_within an_many_within od_texts_of an_texts_of od_law_bag an_law_bag od_law_take an_law_take od_law_name an_law_name od_law_names an_law_names od_law_is_integer an_law_is_integer od_law_shape an_law_shape od_law_node an_law_node od_law_ways an_law_ways od_law_expand an_law_expand od_law_shape_text an_law_shape_text od_law_kind_ok an_law_kind_ok od_law an_law od_Branch_init an_Branch_init od_Leaf_init an_Leaf_init od_Leaf_leaves an_Leaf_leaves od_Leaf_text an_Leaf_text od_Leaf_shape an_Leaf_shape od_Leaf_many an_Leaf_many od_Group_leaves an_Group_leaves od_Group_text an_Group_text od_Group_shape an_Group_shape od_Group_many an_Group_many od_Row_leaves an_Row_leaves od_Row_text an_Row_text od_Row_shape an_Row_shape od_Row_many an_Row_many : Option Addr} {sl_leaves_of sl_many_within sl_texts_of sl_law_bag sl_law_take sl_law_name sl_law_names sl_law_is_integer sl_law_shape sl_law_node sl_law_ways sl_law_expand sl_law_shape_text sl_law_kind_ok sl_law sl_Branch_init sl_Leaf_init sl_Leaf_leaves sl_Leaf_text sl_Leaf_shape sl_Leaf_many sl_Group_leaves sl_Group_text sl_Group_shape sl_Group_many sl_Row_leaves sl_Row_text sl_Row_shape sl_Row_many : Array (Option Value)} {oc_leaves_of kV_leaves_of dc_leaves_of pm_leaves_of cd_leaves_of ct_leaves_of oc_many_within kV_many_within dc_many_within pm_many_within cd_many_within ct_many_within oc_texts_of kV_texts_of dc_texts_of pm_texts_of cd_texts_of ct_texts_of oc_law_bag kV_law_bag dc_law_bag pm_law_bag cd_law_bag ct_law_bag oc_law_take kV_law_take dc_law_take pm_law_take cd_law_take ct_law_take oc_law_name kV_law_name dc_law_name pm_law_name cd_law_name ct_law_name oc_law_names kV_law_names dc_law_names pm_law_names cd_law_names ct_law_names oc_law_is_integer kV_law_is_integer dc_law_is_integer pm_law_is_integer cd_law_is_integer ct_law_is_integer oc_law_shape kV_law_shape dc_law_shape pm_law_shape cd_law_shape ct_law_shape oc_law_node kV_law_node dc_law_node pm_law_node cd_law_node ct_law_node oc_law_ways kV_law_ways dc_law_ways pm_law_ways cd_law_ways ct_law_ways oc_law_expand kV_law_expand dc_law_expand pm_law_expand cd_law_expand ct_law_expand oc_law_shape_text kV_law_shape_text dc_law_shape_text pm_law_shape_text cd_law_shape_text ct_law_shape_text oc_law_kind_ok kV_law_kind_ok dc_law_kind_ok pm_law_kind_ok cd_law_kind_ok ct_law_kind_ok oc_law kV_law dc_law pm_law cd_law ct_law oc_Branch_init kV_Branch_init dc_Branch_init pm_Branch_init cd_Branch_init ct_Branch_init oc_Leaf_init kV_Leaf_init dc_Leaf_init pm_Leaf_init cd_Leaf_init ct_Leaf_init oc_Leaf_leaves kV_Leaf_leaves dc_Leaf_leaves pm_Leaf_leaves cd_Leaf_leaves ct_Leaf_leaves oc_Leaf_text kV_Leaf_text dc_Leaf_text pm_Leaf_text cd_Leaf_text ct_Leaf_text oc_Leaf_shape kV_Leaf_shape dc_Leaf_shape pm_Leaf_shape cd_Leaf_shape ct_Leaf_shape oc_Leaf_many kV_Leaf_many dc_Leaf_many pm_Leaf_many cd_Leaf_many ct_Leaf_many oc_Group_leaves kV_Group_leaves dc_Group_leaves pm_Group_leaves cd_Group_leaves ct_Group_leaves oc_Group_text kV_Group_text dc_Group_text pm_Group_text cd_Group_text ct_Group_text oc_Group_shape kV_Group_shape dc_Group_shape pm_Group_shape cd_Group_shape ct_Group_shape oc_Group_many kV_Group_many dc_Group_many pm_Group_many cd_Group_many ct_Group_many oc_Row_leaves kV_Row_leaves dc_Row_leaves pm_Row_leaves cd_Row_leaves ct_Row_leaves oc_Row_text kV_Row_text dc_Row_text pm_Row_text cd_Row_text ct_Row_text oc_Row_shape kV_Row_shape dc_Row_shape pm_Row_shape cd_Row_shape ct_Row_shape oc_Row_many kV_Row_many dc_Row_many pm_Row_many cd_Row_many ct_Row_many : Value}
    (a_leaves_of : PySem.W.nsIn K mainGlobals "_leaves_of" = some (some (.ref f_leaves_of)))
    (l_leaves_of : K.lookup f_leaves_of = some ⟨oc_leaves_of, od_leaves_of, .func (PySem.W.fnOf "_leaves_of" "_leaves_of" (defArgs sLeavesOf) (defBody sLeavesOf) (defScope sLeavesOf) .none kV_leaves_of dc_leaves_of pm_leaves_of an_leaves_of cd_leaves_of ct_leaves_of), sl_leaves_of⟩)
    (c_leaves_of : PySem.W.codeIn K cd_leaves_of "_leaves_of" = true)
    (k_leaves_of : PySem.W.keepIn K (.ref f_leaves_of) = true)
    (a_many_within : PySem.W.nsIn K mainGlobals "_many_within" = some (some (.ref f_many_within)))
    (l_many_within : K.lookup f_many_within = some ⟨oc_many_within, od_many_within, .func (PySem.W.fnOf "_many_within" "_many_within" (defArgs sManyWithin) (defBody sManyWithin) (defScope sManyWithin) .none kV_many_within dc_many_within pm_many_within an_many_within cd_many_within ct_many_within), sl_many_within⟩)
    (c_many_within : PySem.W.codeIn K cd_many_within "_many_within" = true)
    (k_many_within : PySem.W.keepIn K (.ref f_many_within) = true)
    (a_texts_of : PySem.W.nsIn K mainGlobals "_texts_of" = some (some (.ref f_texts_of)))
    (l_texts_of : K.lookup f_texts_of = some ⟨oc_texts_of, od_texts_of, .func (PySem.W.fnOf "_texts_of" "_texts_of" (defArgs sTextsOf) (defBody sTextsOf) (defScope sTextsOf) .none kV_texts_of dc_texts_of pm_texts_of an_texts_of cd_texts_of ct_texts_of), sl_texts_of⟩)
    (c_texts_of : PySem.W.codeIn K cd_texts_of "_texts_of" = true)
    (k_texts_of : PySem.W.keepIn K (.ref f_texts_of) = true)
    (a_law_bag : PySem.W.nsIn K mainGlobals "_law_bag" = some (some (.ref f_law_bag)))
    (l_law_bag : K.lookup f_law_bag = some ⟨oc_law_bag, od_law_bag, .func (PySem.W.fnOf "_law_bag" "_law_bag" (defArgs sBag) (defBody sBag) (defScope sBag) .none kV_law_bag dc_law_bag pm_law_bag an_law_bag cd_law_bag ct_law_bag), sl_law_bag⟩)
    (c_law_bag : PySem.W.codeIn K cd_law_bag "_law_bag" = true)
    (k_law_bag : PySem.W.keepIn K (.ref f_law_bag) = true)
    (a_law_take : PySem.W.nsIn K mainGlobals "_law_take" = some (some (.ref f_law_take)))
    (l_law_take : K.lookup f_law_take = some ⟨oc_law_take, od_law_take, .func (PySem.W.fnOf "_law_take" "_law_take" (defArgs sTake) (defBody sTake) (defScope sTake) .none kV_law_take dc_law_take pm_law_take an_law_take cd_law_take ct_law_take), sl_law_take⟩)
    (c_law_take : PySem.W.codeIn K cd_law_take "_law_take" = true)
    (k_law_take : PySem.W.keepIn K (.ref f_law_take) = true)
    (a_law_name : PySem.W.nsIn K mainGlobals "_law_name" = some (some (.ref f_law_name)))
    (l_law_name : K.lookup f_law_name = some ⟨oc_law_name, od_law_name, .func (PySem.W.fnOf "_law_name" "_law_name" (defArgs sLawName) (defBody sLawName) (defScope sLawName) .none kV_law_name dc_law_name pm_law_name an_law_name cd_law_name ct_law_name), sl_law_name⟩)
    (c_law_name : PySem.W.codeIn K cd_law_name "_law_name" = true)
    (k_law_name : PySem.W.keepIn K (.ref f_law_name) = true)
    (a_law_names : PySem.W.nsIn K mainGlobals "_law_names" = some (some (.ref f_law_names)))
    (l_law_names : K.lookup f_law_names = some ⟨oc_law_names, od_law_names, .func (PySem.W.fnOf "_law_names" "_law_names" (defArgs sLawNames) (defBody sLawNames) (defScope sLawNames) .none kV_law_names dc_law_names pm_law_names an_law_names cd_law_names ct_law_names), sl_law_names⟩)
    (c_law_names : PySem.W.codeIn K cd_law_names "_law_names" = true)
    (k_law_names : PySem.W.keepIn K (.ref f_law_names) = true)
    (a_law_is_integer : PySem.W.nsIn K mainGlobals "_law_is_integer" = some (some (.ref f_law_is_integer)))
    (l_law_is_integer : K.lookup f_law_is_integer = some ⟨oc_law_is_integer, od_law_is_integer, .func (PySem.W.fnOf "_law_is_integer" "_law_is_integer" (defArgs sLawIsInteger) (defBody sLawIsInteger) (defScope sLawIsInteger) .none kV_law_is_integer dc_law_is_integer pm_law_is_integer an_law_is_integer cd_law_is_integer ct_law_is_integer), sl_law_is_integer⟩)
    (c_law_is_integer : PySem.W.codeIn K cd_law_is_integer "_law_is_integer" = true)
    (k_law_is_integer : PySem.W.keepIn K (.ref f_law_is_integer) = true)
    (a_law_shape : PySem.W.nsIn K mainGlobals "_law_shape" = some (some (.ref f_law_shape)))
    (l_law_shape : K.lookup f_law_shape = some ⟨oc_law_shape, od_law_shape, .func (PySem.W.fnOf "_law_shape" "_law_shape" (defArgs sLawShape) (defBody sLawShape) (defScope sLawShape) .none kV_law_shape dc_law_shape pm_law_shape an_law_shape cd_law_shape ct_law_shape), sl_law_shape⟩)
    (c_law_shape : PySem.W.codeIn K cd_law_shape "_law_shape" = true)
    (k_law_shape : PySem.W.keepIn K (.ref f_law_shape) = true)
    (a_law_node : PySem.W.nsIn K mainGlobals "_law_node" = some (some (.ref f_law_node)))
    (l_law_node : K.lookup f_law_node = some ⟨oc_law_node, od_law_node, .func (PySem.W.fnOf "_law_node" "_law_node" (defArgs sLawNode) (defBody sLawNode) (defScope sLawNode) .none kV_law_node dc_law_node pm_law_node an_law_node cd_law_node ct_law_node), sl_law_node⟩)
    (c_law_node : PySem.W.codeIn K cd_law_node "_law_node" = true)
    (k_law_node : PySem.W.keepIn K (.ref f_law_node) = true)
    (a_law_ways : PySem.W.nsIn K mainGlobals "_law_ways" = some (some (.ref f_law_ways)))
    (l_law_ways : K.lookup f_law_ways = some ⟨oc_law_ways, od_law_ways, .func (PySem.W.fnOf "_law_ways" "_law_ways" (defArgs sLawWays) (defBody sLawWays) (defScope sLawWays) .none kV_law_ways dc_law_ways pm_law_ways an_law_ways cd_law_ways ct_law_ways), sl_law_ways⟩)
    (c_law_ways : PySem.W.codeIn K cd_law_ways "_law_ways" = true)
    (k_law_ways : PySem.W.keepIn K (.ref f_law_ways) = true)
    (a_law_expand : PySem.W.nsIn K mainGlobals "_law_expand" = some (some (.ref f_law_expand)))
    (l_law_expand : K.lookup f_law_expand = some ⟨oc_law_expand, od_law_expand, .func (PySem.W.fnOf "_law_expand" "_law_expand" (defArgs sLawExpand) (defBody sLawExpand) (defScope sLawExpand) .none kV_law_expand dc_law_expand pm_law_expand an_law_expand cd_law_expand ct_law_expand), sl_law_expand⟩)
    (c_law_expand : PySem.W.codeIn K cd_law_expand "_law_expand" = true)
    (k_law_expand : PySem.W.keepIn K (.ref f_law_expand) = true)
    (a_law_shape_text : PySem.W.nsIn K mainGlobals "_law_shape_text" = some (some (.ref f_law_shape_text)))
    (l_law_shape_text : K.lookup f_law_shape_text = some ⟨oc_law_shape_text, od_law_shape_text, .func (PySem.W.fnOf "_law_shape_text" "_law_shape_text" (defArgs sLawShapeText) (defBody sLawShapeText) (defScope sLawShapeText) .none kV_law_shape_text dc_law_shape_text pm_law_shape_text an_law_shape_text cd_law_shape_text ct_law_shape_text), sl_law_shape_text⟩)
    (c_law_shape_text : PySem.W.codeIn K cd_law_shape_text "_law_shape_text" = true)
    (k_law_shape_text : PySem.W.keepIn K (.ref f_law_shape_text) = true)
    (a_law_kind_ok : PySem.W.nsIn K mainGlobals "_law_kind_ok" = some (some (.ref f_law_kind_ok)))
    (l_law_kind_ok : K.lookup f_law_kind_ok = some ⟨oc_law_kind_ok, od_law_kind_ok, .func (PySem.W.fnOf "_law_kind_ok" "_law_kind_ok" (defArgs sLawKindOk) (defBody sLawKindOk) (defScope sLawKindOk) .none kV_law_kind_ok dc_law_kind_ok pm_law_kind_ok an_law_kind_ok cd_law_kind_ok ct_law_kind_ok), sl_law_kind_ok⟩)
    (c_law_kind_ok : PySem.W.codeIn K cd_law_kind_ok "_law_kind_ok" = true)
    (k_law_kind_ok : PySem.W.keepIn K (.ref f_law_kind_ok) = true)
    (a_law : PySem.W.nsIn K mainGlobals "law" = some (some (.ref f_law)))
    (l_law : K.lookup f_law = some ⟨oc_law, od_law, .func (PySem.W.fnOf "law" "law" (defArgs sLaw) (defBody sLaw) (defScope sLaw) .none kV_law dc_law pm_law an_law cd_law ct_law), sl_law⟩)
    (c_law : PySem.W.codeIn K cd_law "law" = true)
    (k_law : PySem.W.keepIn K (.ref f_law) = true)
    (a_Node : PySem.W.nsIn K mainGlobals "Node" = some (some (.ref C_Node)))
    (a_Branch : PySem.W.nsIn K mainGlobals "Branch" = some (some (.ref C_Branch)))
    (pg_Branch : PySem.W.plainGet K C_Branch Str.empty = true)
    (hd_Branch : PySem.W.hasDictIn K C_Branch = true)
    (po_Branch : PySem.W.plainOver K C_Branch = true)
    (sa_Branch : PySem.W.findIn K (.ref C_Branch) "__setattr__" = some (some (.builtin "object.__setattr__")))
    (mk_Branch : PySem.W.makesIn K C_Branch = true)
    (kc_Branch : PySem.W.keepIn K (.ref C_Branch) = true)
    (i_Branch_init : PySem.W.findIn K (.ref C_Branch) "__init__" = some (some (.ref f_Branch_init)))
    (fn_Branch_init : PySem.W.isFn K (.ref f_Branch_init) = true)
    (l_Branch_init : K.lookup f_Branch_init = some ⟨oc_Branch_init, od_Branch_init, .func (PySem.W.fnOf "__init__" "Branch.__init__" (defArgs sBranchInit) (defBody sBranchInit) (defScope sBranchInit) .none kV_Branch_init dc_Branch_init pm_Branch_init an_Branch_init cd_Branch_init ct_Branch_init), sl_Branch_init⟩)
    (c_Branch_init : PySem.W.codeIn K cd_Branch_init "Branch.__init__" = true)
    (k_Branch_init : PySem.W.keepIn K (.ref f_Branch_init) = true)
    (a_Leaf : PySem.W.nsIn K mainGlobals "Leaf" = some (some (.ref C_Leaf)))
    (pg_Leaf : PySem.W.plainGet K C_Leaf Str.empty = true)
    (hd_Leaf : PySem.W.hasDictIn K C_Leaf = true)
    (po_Leaf : PySem.W.plainOver K C_Leaf = true)
    (sa_Leaf : PySem.W.findIn K (.ref C_Leaf) "__setattr__" = some (some (.builtin "object.__setattr__")))
    (mk_Leaf : PySem.W.makesIn K C_Leaf = true)
    (kc_Leaf : PySem.W.keepIn K (.ref C_Leaf) = true)
    (n_Leaf_name : PySem.W.findIn K (.ref C_Leaf) "name" = some none)
    (i_Leaf_init : PySem.W.findIn K (.ref C_Leaf) "__init__" = some (some (.ref f_Leaf_init)))
    (fn_Leaf_init : PySem.W.isFn K (.ref f_Leaf_init) = true)
    (l_Leaf_init : K.lookup f_Leaf_init = some ⟨oc_Leaf_init, od_Leaf_init, .func (PySem.W.fnOf "__init__" "Leaf.__init__" (defArgs sLeafInit) (defBody sLeafInit) (defScope sLeafInit) .none kV_Leaf_init dc_Leaf_init pm_Leaf_init an_Leaf_init cd_Leaf_init ct_Leaf_init), sl_Leaf_init⟩)
    (c_Leaf_init : PySem.W.codeIn K cd_Leaf_init "Leaf.__init__" = true)
    (k_Leaf_init : PySem.W.keepIn K (.ref f_Leaf_init) = true)
    (i_Leaf_leaves : PySem.W.findIn K (.ref C_Leaf) "leaves" = some (some (.ref f_Leaf_leaves)))
    (fn_Leaf_leaves : PySem.W.isFn K (.ref f_Leaf_leaves) = true)
    (l_Leaf_leaves : K.lookup f_Leaf_leaves = some ⟨oc_Leaf_leaves, od_Leaf_leaves, .func (PySem.W.fnOf "leaves" "Leaf.leaves" (defArgs sLeafLeaves) (defBody sLeafLeaves) (defScope sLeafLeaves) .none kV_Leaf_leaves dc_Leaf_leaves pm_Leaf_leaves an_Leaf_leaves cd_Leaf_leaves ct_Leaf_leaves), sl_Leaf_leaves⟩)
    (c_Leaf_leaves : PySem.W.codeIn K cd_Leaf_leaves "Leaf.leaves" = true)
    (k_Leaf_leaves : PySem.W.keepIn K (.ref f_Leaf_leaves) = true)
    (i_Leaf_text : PySem.W.findIn K (.ref C_Leaf) "text" = some (some (.ref f_Leaf_text)))
    (fn_Leaf_text : PySem.W.isFn K (.ref f_Leaf_text) = true)
    (l_Leaf_text : K.lookup f_Leaf_text = some ⟨oc_Leaf_text, od_Leaf_text, .func (PySem.W.fnOf "text" "Leaf.text" (defArgs sLeafText) (defBody sLeafText) (defScope sLeafText) .none kV_Leaf_text dc_Leaf_text pm_Leaf_text an_Leaf_text cd_Leaf_text ct_Leaf_text), sl_Leaf_text⟩)
    (c_Leaf_text : PySem.W.codeIn K cd_Leaf_text "Leaf.text" = true)
    (k_Leaf_text : PySem.W.keepIn K (.ref f_Leaf_text) = true)
    (i_Leaf_shape : PySem.W.findIn K (.ref C_Leaf) "shape" = some (some (.ref f_Leaf_shape)))
    (fn_Leaf_shape : PySem.W.isFn K (.ref f_Leaf_shape) = true)
    (l_Leaf_shape : K.lookup f_Leaf_shape = some ⟨oc_Leaf_shape, od_Leaf_shape, .func (PySem.W.fnOf "shape" "Leaf.shape" (defArgs sLeafShape) (defBody sLeafShape) (defScope sLeafShape) .none kV_Leaf_shape dc_Leaf_shape pm_Leaf_shape an_Leaf_shape cd_Leaf_shape ct_Leaf_shape), sl_Leaf_shape⟩)
    (c_Leaf_shape : PySem.W.codeIn K cd_Leaf_shape "Leaf.shape" = true)
    (k_Leaf_shape : PySem.W.keepIn K (.ref f_Leaf_shape) = true)
    (i_Leaf_many : PySem.W.findIn K (.ref C_Leaf) "many" = some (some (.ref f_Leaf_many)))
    (fn_Leaf_many : PySem.W.isFn K (.ref f_Leaf_many) = true)
    (l_Leaf_many : K.lookup f_Leaf_many = some ⟨oc_Leaf_many, od_Leaf_many, .func (PySem.W.fnOf "many" "Leaf.many" (defArgs sLeafMany) (defBody sLeafMany) (defScope sLeafMany) .none kV_Leaf_many dc_Leaf_many pm_Leaf_many an_Leaf_many cd_Leaf_many ct_Leaf_many), sl_Leaf_many⟩)
    (c_Leaf_many : PySem.W.codeIn K cd_Leaf_many "Leaf.many" = true)
    (k_Leaf_many : PySem.W.keepIn K (.ref f_Leaf_many) = true)
    (a_Group : PySem.W.nsIn K mainGlobals "Group" = some (some (.ref C_Group)))
    (pg_Group : PySem.W.plainGet K C_Group Str.empty = true)
    (hd_Group : PySem.W.hasDictIn K C_Group = true)
    (po_Group : PySem.W.plainOver K C_Group = true)
    (sa_Group : PySem.W.findIn K (.ref C_Group) "__setattr__" = some (some (.builtin "object.__setattr__")))
    (kc_Group : PySem.W.keepIn K (.ref C_Group) = true)
    (n_Group_parts : PySem.W.findIn K (.ref C_Group) "parts" = some none)
    (i_Group_leaves : PySem.W.findIn K (.ref C_Group) "leaves" = some (some (.ref f_Group_leaves)))
    (fn_Group_leaves : PySem.W.isFn K (.ref f_Group_leaves) = true)
    (l_Group_leaves : K.lookup f_Group_leaves = some ⟨oc_Group_leaves, od_Group_leaves, .func (PySem.W.fnOf "leaves" "Group.leaves" (defArgs sGroupLeaves) (defBody sGroupLeaves) (defScope sGroupLeaves) .none kV_Group_leaves dc_Group_leaves pm_Group_leaves an_Group_leaves cd_Group_leaves ct_Group_leaves), sl_Group_leaves⟩)
    (c_Group_leaves : PySem.W.codeIn K cd_Group_leaves "Group.leaves" = true)
    (k_Group_leaves : PySem.W.keepIn K (.ref f_Group_leaves) = true)
    (i_Group_text : PySem.W.findIn K (.ref C_Group) "text" = some (some (.ref f_Group_text)))
    (fn_Group_text : PySem.W.isFn K (.ref f_Group_text) = true)
    (l_Group_text : K.lookup f_Group_text = some ⟨oc_Group_text, od_Group_text, .func (PySem.W.fnOf "text" "Group.text" (defArgs sGroupText) (defBody sGroupText) (defScope sGroupText) .none kV_Group_text dc_Group_text pm_Group_text an_Group_text cd_Group_text ct_Group_text), sl_Group_text⟩)
    (c_Group_text : PySem.W.codeIn K cd_Group_text "Group.text" = true)
    (k_Group_text : PySem.W.keepIn K (.ref f_Group_text) = true)
    (i_Group_shape : PySem.W.findIn K (.ref C_Group) "shape" = some (some (.ref f_Group_shape)))
    (fn_Group_shape : PySem.W.isFn K (.ref f_Group_shape) = true)
    (l_Group_shape : K.lookup f_Group_shape = some ⟨oc_Group_shape, od_Group_shape, .func (PySem.W.fnOf "shape" "Group.shape" (defArgs sGroupShape) (defBody sGroupShape) (defScope sGroupShape) .none kV_Group_shape dc_Group_shape pm_Group_shape an_Group_shape cd_Group_shape ct_Group_shape), sl_Group_shape⟩)
    (c_Group_shape : PySem.W.codeIn K cd_Group_shape "Group.shape" = true)
    (k_Group_shape : PySem.W.keepIn K (.ref f_Group_shape) = true)
    (i_Group_many : PySem.W.findIn K (.ref C_Group) "many" = some (some (.ref f_Group_many)))
    (fn_Group_many : PySem.W.isFn K (.ref f_Group_many) = true)
    (l_Group_many : K.lookup f_Group_many = some ⟨oc_Group_many, od_Group_many, .func (PySem.W.fnOf "many" "Group.many" (defArgs sGroupMany) (defBody sGroupMany) (defScope sGroupMany) .none kV_Group_many dc_Group_many pm_Group_many an_Group_many cd_Group_many ct_Group_many), sl_Group_many⟩)
    (c_Group_many : PySem.W.codeIn K cd_Group_many "Group.many" = true)
    (k_Group_many : PySem.W.keepIn K (.ref f_Group_many) = true)
    (a_Row : PySem.W.nsIn K mainGlobals "Row" = some (some (.ref C_Row)))
    (pg_Row : PySem.W.plainGet K C_Row Str.empty = true)
    (hd_Row : PySem.W.hasDictIn K C_Row = true)
    (po_Row : PySem.W.plainOver K C_Row = true)
    (sa_Row : PySem.W.findIn K (.ref C_Row) "__setattr__" = some (some (.builtin "object.__setattr__")))
    (kc_Row : PySem.W.keepIn K (.ref C_Row) = true)
    (n_Row_parts : PySem.W.findIn K (.ref C_Row) "parts" = some none)
    (i_Row_leaves : PySem.W.findIn K (.ref C_Row) "leaves" = some (some (.ref f_Row_leaves)))
    (fn_Row_leaves : PySem.W.isFn K (.ref f_Row_leaves) = true)
    (l_Row_leaves : K.lookup f_Row_leaves = some ⟨oc_Row_leaves, od_Row_leaves, .func (PySem.W.fnOf "leaves" "Row.leaves" (defArgs sRowLeaves) (defBody sRowLeaves) (defScope sRowLeaves) .none kV_Row_leaves dc_Row_leaves pm_Row_leaves an_Row_leaves cd_Row_leaves ct_Row_leaves), sl_Row_leaves⟩)
    (c_Row_leaves : PySem.W.codeIn K cd_Row_leaves "Row.leaves" = true)
    (k_Row_leaves : PySem.W.keepIn K (.ref f_Row_leaves) = true)
    (i_Row_text : PySem.W.findIn K (.ref C_Row) "text" = some (some (.ref f_Row_text)))
    (fn_Row_text : PySem.W.isFn K (.ref f_Row_text) = true)
    (l_Row_text : K.lookup f_Row_text = some ⟨oc_Row_text, od_Row_text, .func (PySem.W.fnOf "text" "Row.text" (defArgs sRowText) (defBody sRowText) (defScope sRowText) .none kV_Row_text dc_Row_text pm_Row_text an_Row_text cd_Row_text ct_Row_text), sl_Row_text⟩)
    (c_Row_text : PySem.W.codeIn K cd_Row_text "Row.text" = true)
    (k_Row_text : PySem.W.keepIn K (.ref f_Row_text) = true)
    (i_Row_shape : PySem.W.findIn K (.ref C_Row) "shape" = some (some (.ref f_Row_shape)))
    (fn_Row_shape : PySem.W.isFn K (.ref f_Row_shape) = true)
    (l_Row_shape : K.lookup f_Row_shape = some ⟨oc_Row_shape, od_Row_shape, .func (PySem.W.fnOf "shape" "Row.shape" (defArgs sRowShape) (defBody sRowShape) (defScope sRowShape) .none kV_Row_shape dc_Row_shape pm_Row_shape an_Row_shape cd_Row_shape ct_Row_shape), sl_Row_shape⟩)
    (c_Row_shape : PySem.W.codeIn K cd_Row_shape "Row.shape" = true)
    (k_Row_shape : PySem.W.keepIn K (.ref f_Row_shape) = true)
    (i_Row_many : PySem.W.findIn K (.ref C_Row) "many" = some (some (.ref f_Row_many)))
    (fn_Row_many : PySem.W.isFn K (.ref f_Row_many) = true)
    (l_Row_many : K.lookup f_Row_many = some ⟨oc_Row_many, od_Row_many, .func (PySem.W.fnOf "many" "Row.many" (defArgs sRowMany) (defBody sRowMany) (defScope sRowMany) .none kV_Row_many dc_Row_many pm_Row_many an_Row_many cd_Row_many ct_Row_many), sl_Row_many⟩)
    (c_Row_many : PySem.W.codeIn K cd_Row_many "Row.many" = true)
    (k_Row_many : PySem.W.keepIn K (.ref f_Row_many) = true)
    (q_eq_Leaf : PySem.W.findIn K (.ref C_Leaf) "__eq__" = some (some (.builtin "object.__eq__")))
    (q_eq_Group : PySem.W.findIn K (.ref C_Group) "__eq__" = some (some (.builtin "object.__eq__")))
    (q_eq_Row : PySem.W.findIn K (.ref C_Row) "__eq__" = some (some (.builtin "object.__eq__")))
    (q_mro_Leaf : PySem.W.mroIn K C_Leaf (.type "object") = some true)
    (q_mro_Group : PySem.W.mroIn K C_Group (.type "object") = some true)
    (q_mro_Row : PySem.W.mroIn K C_Row (.type "object") = some true)
    (q_s_Leaf_Group : PySem.W.subIn K (.ref C_Leaf) (.ref C_Group) = some false)
    (q_s_Leaf_Row : PySem.W.subIn K (.ref C_Leaf) (.ref C_Row) = some false)
    (q_s_Group_Leaf : PySem.W.subIn K (.ref C_Group) (.ref C_Leaf) = some false)
    (q_s_Group_Row : PySem.W.subIn K (.ref C_Group) (.ref C_Row) = some false)
    (q_s_Row_Leaf : PySem.W.subIn K (.ref C_Row) (.ref C_Leaf) = some false)
    (q_s_Row_Group : PySem.W.subIn K (.ref C_Row) (.ref C_Group) = some false)
    (q_mk_Group : PySem.W.makesIn K C_Group = true)
    (q_mk_Row : PySem.W.makesIn K C_Row = true)
    (q_i_Group : PySem.W.findIn K (.ref C_Group) "__init__" = some (some (.ref f_Branch_init)))
    (q_i_Row : PySem.W.findIn K (.ref C_Row) "__init__" = some (some (.ref f_Branch_init)))
    (q_lg : C_Leaf ≠ C_Group)
    (q_lr : C_Leaf ≠ C_Row)
    (q_gr : C_Group ≠ C_Row)
    (q_cls_Leaf : PySem.W.findIn K (.ref C_Leaf) "__class__" = some (some (.builtin "object.__class__")))
    (q_cls_Group : PySem.W.findIn K (.ref C_Group) "__class__" = some (some (.builtin "object.__class__")))
    (q_cls_Row : PySem.W.findIn K (.ref C_Row) "__class__" = some (some (.builtin "object.__class__")))
    (q_get : PySem.W.specialIn K (.builtin "object.__class__") "__get__" = some (some (.builtin "getset_descriptor.__get__")))
    (q_takes : PySem.W.takesIn K (.builtin "object.__class__") = some true)
    (q_kn_Leaf : PySem.W.kitOne K (.ref C_Leaf) (.ref C_Node) = some true)
    (q_kn_Group : PySem.W.kitOne K (.ref C_Group) (.ref C_Node) = some true)
    (q_kn_Row : PySem.W.kitOne K (.ref C_Row) (.ref C_Node) = some true)
    (q_kb_Leaf : PySem.W.kitOne K (.ref C_Leaf) (.ref C_Branch) = some false)
    (q_kb_Group : PySem.W.kitOne K (.ref C_Group) (.ref C_Branch) = some true)
    (q_kb_Row : PySem.W.kitOne K (.ref C_Row) (.ref C_Branch) = some true)
    (q_kl_Leaf : PySem.W.kitOne K (.ref C_Leaf) (.ref C_Leaf) = some true)
    (q_kl_Group : PySem.W.kitOne K (.ref C_Group) (.ref C_Leaf) = some false)
    (q_kl_Row : PySem.W.kitOne K (.ref C_Row) (.ref C_Leaf) = some false)
    (q_kr_Leaf : PySem.W.kitOne K (.ref C_Leaf) (.ref C_Row) = some false)
    (q_kr_Group : PySem.W.kitOne K (.ref C_Group) (.ref C_Row) = some false)
    (q_kr_Row : PySem.W.kitOne K (.ref C_Row) (.ref C_Row) = some true)
    (q_kg_Leaf : PySem.W.kitOne K (.ref C_Leaf) (.ref C_Group) = some false)
    (q_kg_Group : PySem.W.kitOne K (.ref C_Group) (.ref C_Group) = some true)
    (q_kg_Row : PySem.W.kitOne K (.ref C_Row) (.ref C_Group) = some false)
    (q_rd_Leaf : PySem.W.readsIn K C_Leaf (.type "type") = true)
    (q_rd_Group : PySem.W.readsIn K C_Group (.type "type") = true)
    (q_rd_Row : PySem.W.readsIn K C_Row (.type "type") = true)
    (q_ga_Leaf : PySem.W.specialIn K (.ref C_Leaf) "__getattribute__" = some (some (.builtin "type.__getattribute__")))
    (q_ga_Group : PySem.W.specialIn K (.ref C_Group) "__getattribute__" = some (some (.builtin "type.__getattribute__")))
    (q_ga_Row : PySem.W.specialIn K (.ref C_Row) "__getattribute__" = some (some (.builtin "type.__getattribute__")))
    (q_kv_Leaf : clsStr K C_Leaf "KIND" "leaf" = true)
    (q_kv_Group : clsStr K C_Group "KIND" "group" = true)
    (q_kv_Row : clsStr K C_Row "KIND" "row" = true)
    (kd_Leaf : ∃ t, PySem.W.findIn K (.ref C_Leaf) "KIND" = some (some (.str "leaf" t)) ∧ PySem.W.specialIn K (.str "leaf" t) "__get__" = some none)
    (kd_Group : ∃ t, PySem.W.findIn K (.ref C_Group) "KIND" = some (some (.str "group" t)) ∧ PySem.W.specialIn K (.str "group" t) "__get__" = some none)
    (kd_Row : ∃ t, PySem.W.findIn K (.ref C_Row) "KIND" = some (some (.str "row" t)) ∧ PySem.W.specialIn K (.str "row" t) "__get__" = some none)
    (q_fact : PySem.W.nsIn K mainGlobals "factorial" = some (some (.builtin "math.factorial")))
    (z_len : PySem.W.nsIn K mainGlobals "len" = some none)
    (z_int : PySem.W.nsIn K mainGlobals "int" = some none)
    (z_abs : PySem.W.nsIn K mainGlobals "abs" = some none)
    (z_isinstance : PySem.W.nsIn K mainGlobals "isinstance" = some none)
    (z_str : PySem.W.nsIn K mainGlobals "str" = some none)
    (z_list : PySem.W.nsIn K mainGlobals "list" = some none)
    (z_range : PySem.W.nsIn K mainGlobals "range" = some none)
    (z_tuple : PySem.W.nsIn K mainGlobals "tuple" = some none)
    (z_bool : PySem.W.nsIn K mainGlobals "bool" = some none)
    (z_min : PySem.W.nsIn K mainGlobals "min" = some none)
    (z_max : PySem.W.nsIn K mainGlobals "max" = some none)
    (z_set : PySem.W.nsIn K mainGlobals "set" = some none) :
    ∃ fd : FuncData, (∀ (s : Shared) (v : Value), BindsTo s fd ⟨[v], []⟩ [("_law_script", v)]) ∧ ∀ base : Heap, K.In base → base.Ns mainGlobals mg → FnOk l.prog w K mg base CX0 13 fa fd ["_law_script"] (spLaw10 K) := by
  have e := hfa.symm.trans (PySem.W.mg_of X G a_law)
  cases e
  have n_len := PySem.W.mg_none_of X G z_len
  have n_int := PySem.W.mg_none_of X G z_int
  have n_abs := PySem.W.mg_none_of X G z_abs
  have n_isinstance := PySem.W.mg_none_of X G z_isinstance
  have n_str := PySem.W.mg_none_of X G z_str
  have n_list := PySem.W.mg_none_of X G z_list
  have n_range := PySem.W.mg_none_of X G z_range
  have n_tuple := PySem.W.mg_none_of X G z_tuple
  have n_bool := PySem.W.mg_none_of X G z_bool
  have n_min := PySem.W.mg_none_of X G z_min
  have n_max := PySem.W.mg_none_of X G z_max
  have n_set := PySem.W.mg_none_of X G z_set
  have TB : TxtB mg := ⟨n_len, n_int, n_abs⟩
  have TM : TxtM mg := ⟨n_range, n_len, n_str⟩
  have TSh : TxtSh mg := ⟨n_len, n_min, n_max, n_range, n_tuple⟩
  have TW : TxtW mg := ⟨n_range, n_list⟩
  have TE : TxtE mg := ⟨n_isinstance, n_str, n_len, n_list⟩
  have TNd : TxtNd mg := ⟨n_tuple, n_list, n_len⟩
  have TX : TxtShT mg := ⟨n_isinstance, n_str⟩
  have cL : Cls K C_Leaf := ⟨pg_Leaf, hd_Leaf, po_Leaf, sa_Leaf⟩
  have cG : Cls K C_Group := ⟨pg_Group, hd_Group, po_Group, sa_Group⟩
  have cR : Cls K C_Row := ⟨pg_Row, hd_Row, po_Row, sa_Row⟩
  have NF : NFacts K ⟨C_Leaf, C_Group, C_Row⟩ := nf_mk cL cG cR n_Leaf_name n_Group_parts n_Row_parts q_eq_Leaf q_eq_Group q_eq_Row q_mro_Leaf q_mro_Group q_mro_Row q_s_Leaf_Group q_s_Group_Leaf q_s_Leaf_Row q_s_Row_Leaf q_s_Group_Row q_s_Row_Group q_lg q_lr q_gr
  have NS : NIs10 K ⟨C_Leaf, C_Group, C_Row⟩ C_Node C_Branch := nis10_mk q_cls_Leaf q_cls_Group q_cls_Row q_get q_takes q_kn_Leaf q_kn_Group q_kn_Row q_kb_Leaf q_kb_Group q_kb_Row q_kl_Leaf q_kl_Group q_kl_Row q_kr_Leaf q_kr_Group q_kr_Row q_kg_Leaf q_kg_Group q_kg_Row kd_Leaf q_lg q_lr q_gr
  have NK : NKind K ⟨C_Leaf, C_Group, C_Row⟩ := nk_mk kd_Group kd_Row
  have TNo : TxtNo K mg ⟨C_Leaf, C_Group, C_Row⟩ := ⟨n_isinstance, n_str, n_len, PySem.W.mg_of X G a_Leaf, PySem.W.mg_of X G a_Group, PySem.W.mg_of X G a_Row⟩
  have TK : TxtK10 mg ⟨C_Leaf, C_Group, C_Row⟩ C_Node C_Branch := ⟨n_isinstance, n_int, n_bool, n_str, n_tuple, n_len, n_list, n_set, n_range, PySem.W.mg_of X G a_Leaf, PySem.W.mg_of X G a_Group, PySem.W.mg_of X G a_Row, PySem.W.mg_of X G a_Node, PySem.W.mg_of X G a_Branch⟩
  have F_leaves_of := fun_mk (st := sLeavesOf) l_leaves_of c_leaves_of k_leaves_of
  have b_leaves_of := F_leaves_of.binds (ps := ["parts"]) fun _ _ _ _ _ _ us hl => match us, hl with | [_], _ => rfl
  have F_many_within := fun_mk (st := sManyWithin) l_many_within c_many_within k_many_within
  have b_many_within := F_many_within.binds (ps := ["parts"]) fun _ _ _ _ _ _ us hl => match us, hl with | [_], _ => rfl
  have F_texts_of := fun_mk (st := sTextsOf) l_texts_of c_texts_of k_texts_of
  have b_texts_of := F_texts_of.binds (ps := ["parts"]) fun _ _ _ _ _ _ us hl => match us, hl with | [_], _ => rfl
  have F_law_bag := fun_mk (st := sBag) l_law_bag c_law_bag k_law_bag
  have b_law_bag := F_law_bag.binds (ps := ["_law_script"]) fun _ _ _ _ _ _ us hl => match us, hl with | [_], _ => rfl
  have F_law_take := fun_mk (st := sTake) l_law_take c_law_take k_law_take
  have b_law_take := F_law_take.binds (ps := ["_law_bag_here", "_law_size"]) fun _ _ _ _ _ _ us hl => match us, hl with | [_, _], _ => rfl
  have F_law_name := fun_mk (st := sLawName) l_law_name c_law_name k_law_name
  have b_law_name := F_law_name.binds (ps := ["_law_bag_here", "_law_used"]) fun _ _ _ _ _ _ us hl => match us, hl with | [_, _], _ => rfl
  have F_law_names := fun_mk (st := sLawNames) l_law_names c_law_names k_law_names
  have b_law_names := F_law_names.binds (ps := ["_law_bag_here", "_law_count"]) fun _ _ _ _ _ _ us hl => match us, hl with | [_, _], _ => rfl
  have F_law_is_integer := fun_mk (st := sLawIsInteger) l_law_is_integer c_law_is_integer k_law_is_integer
  have b_law_is_integer := F_law_is_integer.binds (ps := ["_law_value"]) fun _ _ _ _ _ _ us hl => match us, hl with | [_], _ => rfl
  have F_law_shape := fun_mk (st := sLawShape) l_law_shape c_law_shape k_law_shape
  have b_law_shape := F_law_shape.binds (ps := ["_law_bag_here", "_law_names_here"]) fun _ _ _ _ _ _ us hl => match us, hl with | [_, _], _ => rfl
  have F_law_node := fun_mk (st := sLawNode) l_law_node c_law_node k_law_node
  have b_law_node := F_law_node.binds (ps := ["_law_shape_here"]) fun _ _ _ _ _ _ us hl => match us, hl with | [_], _ => rfl
  have F_law_ways := fun_mk (st := sLawWays) l_law_ways c_law_ways k_law_ways
  have b_law_ways := F_law_ways.binds (ps := ["_law_kind", "_law_count"]) fun _ _ _ _ _ _ us hl => match us, hl with | [_, _], _ => rfl
  have F_law_expand := fun_mk (st := sLawExpand) l_law_expand c_law_expand k_law_expand
  have b_law_expand := F_law_expand.binds (ps := ["_law_shape_here"]) fun _ _ _ _ _ _ us hl => match us, hl with | [_], _ => rfl
  have F_law_shape_text := fun_mk (st := sLawShapeText) l_law_shape_text c_law_shape_text k_law_shape_text
  have b_law_shape_text := F_law_shape_text.binds (ps := ["_law_shape_here"]) fun _ _ _ _ _ _ us hl => match us, hl with | [_], _ => rfl
  have F_law_kind_ok := fun_mk (st := sLawKindOk) l_law_kind_ok c_law_kind_ok k_law_kind_ok
  have b_law_kind_ok := F_law_kind_ok.binds (ps := ["_law_node_here", "_law_shape_here"]) fun _ _ _ _ _ _ us hl => match us, hl with | [_, _], _ => rfl
  have F_Leaf_init := fun_mk (st := sLeafInit) l_Leaf_init c_Leaf_init k_Leaf_init
  have b_Leaf_init := F_Leaf_init.binds (ps := ["self", "name"]) fun _ _ _ _ _ _ us hl => match us, hl with | [_, _], _ => rfl
  have F_Branch_init := fun_mk (st := sBranchInit) l_Branch_init c_Branch_init k_Branch_init
  have F_Leaf_leaves := fun_mk (st := sLeafLeaves) l_Leaf_leaves c_Leaf_leaves k_Leaf_leaves
  have b_Leaf_leaves := F_Leaf_leaves.binds (ps := ["self"]) fun _ _ _ _ _ _ us hl => match us, hl with | [_], _ => rfl
  have F_Leaf_text := fun_mk (st := sLeafText) l_Leaf_text c_Leaf_text k_Leaf_text
  have b_Leaf_text := F_Leaf_text.binds (ps := ["self"]) fun _ _ _ _ _ _ us hl => match us, hl with | [_], _ => rfl
  have F_Leaf_shape := fun_mk (st := sLeafShape) l_Leaf_shape c_Leaf_shape k_Leaf_shape
  have b_Leaf_shape := F_Leaf_shape.binds (ps := ["self"]) fun _ _ _ _ _ _ us hl => match us, hl with | [_], _ => rfl
  have F_Leaf_many := fun_mk (st := sLeafMany) l_Leaf_many c_Leaf_many k_Leaf_many
  have b_Leaf_many := F_Leaf_many.binds (ps := ["self"]) fun _ _ _ _ _ _ us hl => match us, hl with | [_], _ => rfl
  have F_Group_leaves := fun_mk (st := sGroupLeaves) l_Group_leaves c_Group_leaves k_Group_leaves
  have b_Group_leaves := F_Group_leaves.binds (ps := ["self"]) fun _ _ _ _ _ _ us hl => match us, hl with | [_], _ => rfl
  have F_Group_text := fun_mk (st := sGroupText) l_Group_text c_Group_text k_Group_text
  have b_Group_text := F_Group_text.binds (ps := ["self"]) fun _ _ _ _ _ _ us hl => match us, hl with | [_], _ => rfl
  have F_Group_shape := fun_mk (st := sGroupShape) l_Group_shape c_Group_shape k_Group_shape
  have b_Group_shape := F_Group_shape.binds (ps := ["self"]) fun _ _ _ _ _ _ us hl => match us, hl with | [_], _ => rfl
  have F_Group_many := fun_mk (st := sGroupMany) l_Group_many c_Group_many k_Group_many
  have b_Group_many := F_Group_many.binds (ps := ["self"]) fun _ _ _ _ _ _ us hl => match us, hl with | [_], _ => rfl
  have F_Row_leaves := fun_mk (st := sRowLeaves) l_Row_leaves c_Row_leaves k_Row_leaves
  have b_Row_leaves := F_Row_leaves.binds (ps := ["self"]) fun _ _ _ _ _ _ us hl => match us, hl with | [_], _ => rfl
  have F_Row_text := fun_mk (st := sRowText) l_Row_text c_Row_text k_Row_text
  have b_Row_text := F_Row_text.binds (ps := ["self"]) fun _ _ _ _ _ _ us hl => match us, hl with | [_], _ => rfl
  have F_Row_shape := fun_mk (st := sRowShape) l_Row_shape c_Row_shape k_Row_shape
  have b_Row_shape := F_Row_shape.binds (ps := ["self"]) fun _ _ _ _ _ _ us hl => match us, hl with | [_], _ => rfl
  have F_Row_many := fun_mk (st := sRowMany) l_Row_many c_Row_many k_Row_many
  have b_Row_many := F_Row_many.binds (ps := ["self"]) fun _ _ _ _ _ _ us hl => match us, hl with | [_], _ => rfl
  have NT : NodeT2 K mg ⟨C_Leaf, C_Group, C_Row⟩ := ⟨NF, NK, TNd, ⟨_, _, ⟨i_Leaf_leaves, fn_Leaf_leaves, F_Leaf_leaves.kp⟩, b_Leaf_leaves, F_Leaf_leaves⟩, ⟨_, _, ⟨i_Group_leaves, fn_Group_leaves, F_Group_leaves.kp⟩, b_Group_leaves, F_Group_leaves⟩, ⟨_, _, ⟨i_Row_leaves, fn_Row_leaves, F_Row_leaves.kp⟩, b_Row_leaves, F_Row_leaves⟩, ⟨_, _, ⟨i_Leaf_text, fn_Leaf_text, F_Leaf_text.kp⟩, b_Leaf_text, F_Leaf_text⟩, ⟨_, _, ⟨i_Group_text, fn_Group_text, F_Group_text.kp⟩, b_Group_text, F_Group_text⟩, ⟨_, _, ⟨i_Row_text, fn_Row_text, F_Row_text.kp⟩, b_Row_text, F_Row_text⟩, ⟨_, _, ⟨i_Leaf_shape, fn_Leaf_shape, F_Leaf_shape.kp⟩, b_Leaf_shape, F_Leaf_shape⟩, ⟨_, _, ⟨i_Group_shape, fn_Group_shape, F_Group_shape.kp⟩, b_Group_shape, F_Group_shape⟩, ⟨_, _, ⟨i_Row_shape, fn_Row_shape, F_Row_shape.kp⟩, b_Row_shape, F_Row_shape⟩, ⟨_, _, PySem.W.mg_of X G a_leaves_of, F_leaves_of.kp, b_leaves_of, F_leaves_of⟩, ⟨_, _, PySem.W.mg_of X G a_texts_of, F_texts_of.kp, b_texts_of, F_texts_of⟩⟩
  have NT3 : NodeT3 K mg ⟨C_Leaf, C_Group, C_Row⟩ := ⟨NF, n_len, PySem.W.mg_of X G q_fact, ⟨_, _, ⟨i_Leaf_many, fn_Leaf_many, F_Leaf_many.kp⟩, b_Leaf_many, F_Leaf_many⟩, ⟨_, _, ⟨i_Group_many, fn_Group_many, F_Group_many.kp⟩, b_Group_many, F_Group_many⟩, ⟨_, _, ⟨i_Row_many, fn_Row_many, F_Row_many.kp⟩, b_Row_many, F_Row_many⟩, ⟨_, _, PySem.W.mg_of X G a_many_within, F_many_within.kp, b_many_within, F_many_within⟩⟩
  refine ⟨_, fun s v => .of_eq rfl, fun base _ _ => ok_law10 (fun_mk (st := sLaw) l_law c_law k_law) TK NF ⟨⟨q_rd_Leaf, q_ga_Leaf⟩, clsStr_ok q_kv_Leaf⟩ ⟨⟨q_rd_Group, q_ga_Group⟩, clsStr_ok q_kv_Group⟩ ⟨⟨q_rd_Row, q_ga_Row⟩, clsStr_ok q_kv_Row⟩ ?_ ?_ ?_ ?_ ?_ ?_ ?_ ?_ ?_ (nodes_all2 NT 5) (many_all NT3 5)⟩
  · exact ⟨_, _, PySem.W.mg_of X G a_law_bag, F_law_bag.kp, b_law_bag, ok_bag F_law_bag TB⟩
  · exact ⟨_, _, PySem.W.mg_of X G a_law_take, F_law_take.kp, b_law_take, ok_take F_law_take TB⟩
  · have gT : Dfn l.prog w K mg base CX0 1 "_law_take" ["_law_bag_here", "_law_size"] spTake := ⟨_, _, PySem.W.mg_of X G a_law_take, F_law_take.kp, b_law_take, ok_take F_law_take TB⟩
    have g1 : Dfn l.prog w K mg base CX0 2 "_law_name" ["_law_bag_here", "_law_used"] spName := ⟨_, _, PySem.W.mg_of X G a_law_name, F_law_name.kp, b_law_name, ok_name F_law_name TM gT⟩
    exact ⟨_, _, PySem.W.mg_of X G a_law_names, F_law_names.kp, b_law_names, ok_names F_law_names TM g1⟩
  · have gT : Dfn l.prog w K mg base CX0 1 "_law_take" ["_law_bag_here", "_law_size"] spTake := ⟨_, _, PySem.W.mg_of X G a_law_take, F_law_take.kp, b_law_take, ok_take F_law_take TB⟩
    exact ⟨_, _, PySem.W.mg_of X G a_law_shape, F_law_shape.kp, b_law_shape, ok_shape F_law_shape TSh gT (PySem.W.mg_of X G a_law_shape) b_law_shape 6 (by decide)⟩
  · exact ⟨_, _, PySem.W.mg_of X G a_law_node, F_law_node.kp, b_law_node, ok_node F_law_node TNo NF ⟨_, _, ⟨mk_Leaf, i_Leaf_init, fn_Leaf_init, kc_Leaf⟩, b_Leaf_init, ok_leafinit F_Leaf_init NF⟩ ⟨_, ⟨q_mk_Group, q_i_Group, fn_Branch_init, kc_Group⟩, ok_branch F_Branch_init NF false⟩ ⟨_, ⟨q_mk_Row, q_i_Row, fn_Branch_init, kc_Row⟩, ok_branch F_Branch_init NF true⟩ (PySem.W.mg_of X G a_law_node) b_law_node 5⟩
  · have gW : Dfn l.prog w K mg base CX0 1 "_law_ways" ["_law_kind", "_law_count"] spWays := ⟨_, _, PySem.W.mg_of X G a_law_ways, F_law_ways.kp, b_law_ways, ok_ways F_law_ways TW⟩
    exact ⟨_, _, PySem.W.mg_of X G a_law_expand, F_law_expand.kp, b_law_expand, ok_expand F_law_expand TE gW (PySem.W.mg_of X G a_law_expand) b_law_expand 5⟩
  · exact ⟨_, _, PySem.W.mg_of X G a_law_is_integer, F_law_is_integer.kp, b_law_is_integer, ok_int10 F_law_is_integer TK⟩
  · exact ⟨_, _, PySem.W.mg_of X G a_law_shape_text, F_law_shape_text.kp, b_law_shape_text, ok_shtext F_law_shape_text TX (PySem.W.mg_of X G a_law_shape_text) b_law_shape_text 5⟩
  · exact ⟨_, _, PySem.W.mg_of X G a_law_kind_ok, F_law_kind_ok.kp, b_law_kind_ok, ok_kind10 F_law_kind_ok TK NF NK NS⟩
theorem walk {l : PySem.W.OpenLaw} {q : Program} {loose : List Str} {XP : (Str → Option Value) → Heap → Prop} {YP : World → Heap → Prop} {d : DefRec} {K : Params → PySem.W.Frag} (hn : l.most = some 63) (hdf : d.params.defaults = [])
    (hY : ∀ (w : World) (h : Heap), YP w h → (K w.params).In h)
    (F : ∀ (w : World) (mg : Str → Option Value) (fa : Addr) (h : Heap), (K w.params).In h → h.Ns mainGlobals mg → mg d.name = some (.ref fa) →
      ∃ fd : FuncData, (∀ (s : Shared) (u : Value), BindsTo s fd ⟨[u], []⟩ [("_law_script", u)]) ∧ ∀ base : Heap, (K w.params).In base → base.Ns mainGlobals mg → FnOk l.prog w (K w.params) mg base CX0 13 fa fd ["_law_script"] (spLaw10 (K w.params))) :
    PySem.W.WalkO q loose XP YP l.row.toRowW d [] (fun f vs => PySem.call f vs) :=
  walk_of (n := 63) (k := 13) (x := "_law_script") (CX := fun _ => CX0) (sp := fun w => spLaw10 (K w.params)) hn (by decide) hdf ⟨rfl, by decide, by decide⟩ hY F
    (fun _ _ a ns hl _ hS => ⟨a, ns, rfl, hS, hl, fun _ => rfl⟩) fun _ _ _ _ _ z => z
end Dl

namespace Dl
open PySem PySem.Spec PyProof.Rows L2
theorem factsA {l : PySem.W.OpenLaw} {w : World} {K : PySem.W.Frag} {h : Heap} {mg : Str → Option Value} {fa : Addr} (X : K.In h) (G : h.Ns mainGlobals mg) (hfa : mg "law" = some (.ref fa)) (c : SaysX fbA fnA tsA w K) :
    ∃ fd : FuncData, (∀ (s : Shared) (v : Value), BindsTo s fd ⟨[v], []⟩ [("_law_script", v)]) ∧ ∀ base : Heap, K.In base → base.Ns mainGlobals mg → FnOk l.prog w K mg base CX0 13 fa fd ["_law_script"] (spLaw10 K) := by
  obtain ⟨a_leaves_of, a_many_within, a_texts_of, a_law_bag, a_law_take, a_law_name, a_law_names, a_law_is_integer, a_law_shape, a_law_node, a_law_ways, a_law_expand, a_law_shape_text, a_law_kind_ok, a_law, a_Node⟩ := of_decide_eq_true (show decide (P0 K) = true from c.fact 0 (f := ch0) rfl)
  obtain ⟨a_Branch, pg_Branch, hd_Branch, po_Branch, sa_Branch, mk_Branch, kc_Branch, i_Branch_init, fn_Branch_init, a_Leaf, pg_Leaf, hd_Leaf, po_Leaf, sa_Leaf, mk_Leaf, kc_Leaf⟩ := of_decide_eq_true (show decide (P1 K) = true from c.fact 1 (f := ch1) rfl)
  obtain ⟨n_Leaf_name, i_Leaf_init, fn_Leaf_init, i_Leaf_leaves, fn_Leaf_leaves, i_Leaf_text, fn_Leaf_text, i_Leaf_shape, fn_Leaf_shape, i_Leaf_many, fn_Leaf_many, a_Group, pg_Group, hd_Group, po_Group, sa_Group⟩ := of_decide_eq_true (show decide (P2 K) = true from c.fact 2 (f := ch2) rfl)
  obtain ⟨kc_Group, n_Group_parts, i_Group_leaves, fn_Group_leaves, i_Group_text, fn_Group_text, i_Group_shape, fn_Group_shape, i_Group_many, fn_Group_many, a_Row, pg_Row, hd_Row, po_Row, sa_Row, kc_Row⟩ := of_decide_eq_true (show decide (P3 K) = true from c.fact 3 (f := ch3) rfl)
  obtain ⟨n_Row_parts, i_Row_leaves, fn_Row_leaves, i_Row_text, fn_Row_text, i_Row_shape, fn_Row_shape, i_Row_many, fn_Row_many, q_eq_Leaf, q_eq_Group, q_eq_Row, q_mro_Leaf, q_mro_Group, q_mro_Row, q_s_Leaf_Group⟩ := of_decide_eq_true (show decide (P4 K) = true from c.fact 4 (f := ch4) rfl)
  obtain ⟨q_s_Leaf_Row, q_s_Group_Leaf, q_s_Group_Row, q_s_Row_Leaf, q_s_Row_Group, q_mk_Group, q_mk_Row, q_i_Group, q_i_Row, q_lg, q_lr, q_gr, q_cls_Leaf, q_cls_Group, q_cls_Row, q_get⟩ := of_decide_eq_true (show decide (P5 K) = true from c.fact 5 (f := ch5) rfl)
  obtain ⟨q_takes, q_kn_Leaf, q_kn_Group, q_kn_Row, q_kb_Leaf, q_kb_Group, q_kb_Row, q_kl_Leaf, q_kl_Group, q_kl_Row, q_kr_Leaf, q_kr_Group, q_kr_Row, q_kg_Leaf, q_kg_Group, q_kg_Row⟩ := of_decide_eq_true (show decide (P6 K) = true from c.fact 6 (f := ch6) rfl)
  obtain ⟨q_rd_Leaf, q_rd_Group, q_rd_Row, q_ga_Leaf, q_ga_Group, q_ga_Row, q_kv_Leaf, q_kv_Group, q_kv_Row, q_fact, z_len, z_int, z_abs, z_isinstance, z_str, z_list⟩ := of_decide_eq_true (show decide (P7 K) = true from c.fact 7 (f := ch7) rfl)
  obtain ⟨z_range, z_tuple, z_bool, z_min, z_max, z_set⟩ := of_decide_eq_true (show decide (P8 K) = true from c.fact 8 (f := ch8) rfl)
  have kd_Leaf := conX_ok (show conX K (AC_Leaf K) "KIND" "leaf" = true from c.fact 9 (f := ex0) rfl)
  have kd_Group := conX_ok (show conX K (AC_Group K) "KIND" "group" = true from c.fact 10 (f := ex1) rfl)
  have kd_Row := conX_ok (show conX K (AC_Row K) "KIND" "row" = true from c.fact 11 (f := ex2) rfl)
  obtain ⟨_, F_leaves_of⟩ := c.def_ 0 (d := fx0) rfl
  obtain ⟨_, _, _, _, _, _, _, _, _, rfl, l_leaves_of, c_leaves_of⟩ := F_leaves_of.ex
  have k_leaves_of := F_leaves_of.kp
  obtain ⟨_, F_many_within⟩ := c.def_ 1 (d := fx1) rfl
  obtain ⟨_, _, _, _, _, _, _, _, _, rfl, l_many_within, c_many_within⟩ := F_many_within.ex
  have k_many_within := F_many_within.kp
  obtain ⟨_, F_texts_of⟩ := c.def_ 2 (d := fx2) rfl
  obtain ⟨_, _, _, _, _, _, _, _, _, rfl, l_texts_of, c_texts_of⟩ := F_texts_of.ex
  have k_texts_of := F_texts_of.kp
  obtain ⟨_, F_law_bag⟩ := c.def_ 3 (d := fx3) rfl
  obtain ⟨_, _, _, _, _, _, _, _, _, rfl, l_law_bag, c_law_bag⟩ := F_law_bag.ex
  have k_law_bag := F_law_bag.kp
  obtain ⟨_, F_law_take⟩ := c.def_ 4 (d := fx4) rfl
  obtain ⟨_, _, _, _, _, _, _, _, _, rfl, l_law_take, c_law_take⟩ := F_law_take.ex
  have k_law_take := F_law_take.kp
  obtain ⟨_, F_law_name⟩ := c.def_ 5 (d := fx5) rfl
  obtain ⟨_, _, _, _, _, _, _, _, _, rfl, l_law_name, c_law_name⟩ := F_law_name.ex
  have k_law_name := F_law_name.kp
  obtain ⟨_, F_law_names⟩ := c.def_ 6 (d := fx6) rfl
  obtain ⟨_, _, _, _, _, _, _, _, _, rfl, l_law_names, c_law_names⟩ := F_law_names.ex
  have k_law_names := F_law_names.kp
  obtain ⟨_, F_law_is_integer⟩ := c.def_ 7 (d := fx7) rfl
  obtain ⟨_, _, _, _, _, _, _, _, _, rfl, l_law_is_integer, c_law_is_integer⟩ := F_law_is_integer.ex
  have k_law_is_integer := F_law_is_integer.kp
  obtain ⟨_, F_law_shape⟩ := c.def_ 8 (d := fx8) rfl
  obtain ⟨_, _, _, _, _, _, _, _, _, rfl, l_law_shape, c_law_shape⟩ := F_law_shape.ex
  have k_law_shape := F_law_shape.kp
  obtain ⟨_, F_law_node⟩ := c.def_ 9 (d := fx9) rfl
  obtain ⟨_, _, _, _, _, _, _, _, _, rfl, l_law_node, c_law_node⟩ := F_law_node.ex
  have k_law_node := F_law_node.kp
  obtain ⟨_, F_law_ways⟩ := c.def_ 10 (d := fx10) rfl
  obtain ⟨_, _, _, _, _, _, _, _, _, rfl, l_law_ways, c_law_ways⟩ := F_law_ways.ex
  have k_law_ways := F_law_ways.kp
  obtain ⟨_, F_law_expand⟩ := c.def_ 11 (d := fx11) rfl
  obtain ⟨_, _, _, _, _, _, _, _, _, rfl, l_law_expand, c_law_expand⟩ := F_law_expand.ex
  have k_law_expand := F_law_expand.kp
  obtain ⟨_, F_law_shape_text⟩ := c.def_ 12 (d := fx12) rfl
  obtain ⟨_, _, _, _, _, _, _, _, _, rfl, l_law_shape_text, c_law_shape_text⟩ := F_law_shape_text.ex
  have k_law_shape_text := F_law_shape_text.kp
  obtain ⟨_, F_law_kind_ok⟩ := c.def_ 13 (d := fx13) rfl
  obtain ⟨_, _, _, _, _, _, _, _, _, rfl, l_law_kind_ok, c_law_kind_ok⟩ := F_law_kind_ok.ex
  have k_law_kind_ok := F_law_kind_ok.kp
  obtain ⟨_, F_law⟩ := c.def_ 14 (d := fx14) rfl
  obtain ⟨_, _, _, _, _, _, _, _, _, rfl, l_law, c_law⟩ := F_law.ex
  have k_law := F_law.kp
  obtain ⟨_, F_Branch_init⟩ := c.def_ 15 (d := fx15) rfl
  obtain ⟨_, _, _, _, _, _, _, _, _, rfl, l_Branch_init, c_Branch_init⟩ := F_Branch_init.ex
  have k_Branch_init := F_Branch_init.kp
  obtain ⟨_, F_Leaf_init⟩ := c.def_ 16 (d := fx16) rfl
  obtain ⟨_, _, _, _, _, _, _, _, _, rfl, l_Leaf_init, c_Leaf_init⟩ := F_Leaf_init.ex
  have k_Leaf_init := F_Leaf_init.kp
  obtain ⟨_, F_Leaf_leaves⟩ := c.def_ 17 (d := fx17) rfl
  obtain ⟨_, _, _, _, _, _, _, _, _, rfl, l_Leaf_leaves, c_Leaf_leaves⟩ := F_Leaf_leaves.ex
  have k_Leaf_leaves := F_Leaf_leaves.kp
  obtain ⟨_, F_Leaf_text⟩ := c.def_ 18 (d := fx18) rfl
  obtain ⟨_, _, _, _, _, _, _, _, _, rfl, l_Leaf_text, c_Leaf_text⟩ := F_Leaf_text.ex
  have k_Leaf_text := F_Leaf_text.kp
  obtain ⟨_, F_Leaf_shape⟩ := c.def_ 19 (d := fx19) rfl
  obtain ⟨_, _, _, _, _, _, _, _, _, rfl, l_Leaf_shape, c_Leaf_shape⟩ := F_Leaf_shape.ex
  have k_Leaf_shape := F_Leaf_shape.kp
  obtain ⟨_, F_Leaf_many⟩ := c.def_ 20 (d := fx20) rfl
  obtain ⟨_, _, _, _, _, _, _, _, _, rfl, l_Leaf_many, c_Leaf_many⟩ := F_Leaf_many.ex
  have k_Leaf_many := F_Leaf_many.kp
  obtain ⟨_, F_Group_leaves⟩ := c.def_ 21 (d := fx21) rfl
  obtain ⟨_, _, _, _, _, _, _, _, _, rfl, l_Group_leaves, c_Group_leaves⟩ := F_Group_leaves.ex
  have k_Group_leaves := F_Group_leaves.kp
  obtain ⟨_, F_Group_text⟩ := c.def_ 22 (d := fx22) rfl
  obtain ⟨_, _, _, _, _, _, _, _, _, rfl, l_Group_text, c_Group_text⟩ := F_Group_text.ex
  have k_Group_text := F_Group_text.kp
  obtain ⟨_, F_Group_shape⟩ := c.def_ 23 (d := fx23) rfl
  obtain ⟨_, _, _, _, _, _, _, _, _, rfl, l_Group_shape, c_Group_shape⟩ := F_Group_shape.ex
  have k_Group_shape := F_Group_shape.kp
  obtain ⟨_, F_Group_many⟩ := c.def_ 24 (d := fx24) rfl
  obtain ⟨_, _, _, _, _, _, _, _, _, rfl, l_Group_many, c_Group_many⟩ := F_Group_many.ex
  have k_Group_many := F_Group_many.kp
  obtain ⟨_, F_Row_leaves⟩ := c.def_ 25 (d := fx25) rfl
  obtain ⟨_, _, _, _, _, _, _, _, _, rfl, l_Row_leaves, c_Row_leaves⟩ := F_Row_leaves.ex
  have k_Row_leaves := F_Row_leaves.kp
  obtain ⟨_, F_Row_text⟩ := c.def_ 26 (d := fx26) rfl
  obtain ⟨_, _, _, _, _, _, _, _, _, rfl, l_Row_text, c_Row_text⟩ := F_Row_text.ex
  have k_Row_text := F_Row_text.kp
  obtain ⟨_, F_Row_shape⟩ := c.def_ 27 (d := fx27) rfl
  obtain ⟨_, _, _, _, _, _, _, _, _, rfl, l_Row_shape, c_Row_shape⟩ := F_Row_shape.ex
  have k_Row_shape := F_Row_shape.kp
  obtain ⟨_, F_Row_many⟩ := c.def_ 28 (d := fx28) rfl
  obtain ⟨_, _, _, _, _, _, _, _, _, rfl, l_Row_many, c_Row_many⟩ := F_Row_many.ex
  have k_Row_many := F_Row_many.kp
  exact all_mk X G hfa a_leaves_of l_leaves_of c_leaves_of k_leaves_of a_many_within l_many_within c_many_within k_many_within a_texts_of l_texts_of c_texts_of k_texts_of a_law_bag l_law_bag c_law_bag k_law_bag a_law_take l_law_take c_law_take k_law_take a_law_name l_law_name c_law_name k_law_name a_law_names l_law_names c_law_names k_law_names a_law_is_integer l_law_is_integer c_law_is_integer k_law_is_integer a_law_shape l_law_shape c_law_shape k_law_shape a_law_node l_law_node c_law_node k_law_node a_law_ways l_law_ways c_law_ways k_law_ways a_law_expand l_law_expand c_law_expand k_law_expand a_law_shape_text l_law_shape_text c_law_shape_text k_law_shape_text a_law_kind_ok l_law_kind_ok c_law_kind_ok k_law_kind_ok a_law l_law c_law k_law a_Node a_Branch pg_Branch hd_Branch po_Branch sa_Branch mk_Branch kc_Branch i_Branch_init fn_Branch_init l_Branch_init c_Branch_init k_Branch_init a_Leaf pg_Leaf hd_Leaf po_Leaf sa_Leaf mk_Leaf kc_Leaf n_Leaf_name i_Leaf_init fn_Leaf_init l_Leaf_init c_Leaf_init k_Leaf_init i_Leaf_leaves fn_Leaf_leaves l_Leaf_leaves c_Leaf_leaves k_Leaf_leaves i_Leaf_text fn_Leaf_text l_Leaf_text c_Leaf_text k_Leaf_text i_Leaf_shape fn_Leaf_shape l_Leaf_shape c_Leaf_shape k_Leaf_shape i_Leaf_many fn_Leaf_many l_Leaf_many c_Leaf_many k_Leaf_many a_Group pg_Group hd_Group po_Group sa_Group kc_Group n_Group_parts i_Group_leaves fn_Group_leaves l_Group_leaves c_Group_leaves k_Group_leaves i_Group_text fn_Group_text l_Group_text c_Group_text k_Group_text i_Group_shape fn_Group_shape l_Group_shape c_Group_shape k_Group_shape i_Group_many fn_Group_many l_Group_many c_Group_many k_Group_many a_Row pg_Row hd_Row po_Row sa_Row kc_Row n_Row_parts i_Row_leaves fn_Row_leaves l_Row_leaves c_Row_leaves k_Row_leaves i_Row_text fn_Row_text l_Row_text c_Row_text k_Row_text i_Row_shape fn_Row_shape l_Row_shape c_Row_shape k_Row_shape i_Row_many fn_Row_many l_Row_many c_Row_many k_Row_many q_eq_Leaf q_eq_Group q_eq_Row q_mro_Leaf q_mro_Group q_mro_Row q_s_Leaf_Group q_s_Leaf_Row q_s_Group_Leaf q_s_Group_Row q_s_Row_Leaf q_s_Row_Group q_mk_Group q_mk_Row q_i_Group q_i_Row q_lg q_lr q_gr q_cls_Leaf q_cls_Group q_cls_Row q_get q_takes q_kn_Leaf q_kn_Group q_kn_Row q_kb_Leaf q_kb_Group q_kb_Row q_kl_Leaf q_kl_Group q_kl_Row q_kr_Leaf q_kr_Group q_kr_Row q_kg_Leaf q_kg_Group q_kg_Row q_rd_Leaf q_rd_Group q_rd_Row q_ga_Leaf q_ga_Group q_ga_Row q_kv_Leaf q_kv_Group q_kv_Row kd_Leaf kd_Group kd_Row q_fact z_len z_int z_abs z_isinstance z_str z_list z_range z_tuple z_bool z_min z_max z_set
end Dl

open PySem PySem.W PySem.Calls PyProof.Rows in
set_option maxRecDepth 100000 in
set_option maxHeartbeats 0 in
theorem PySem.Challenge.cw_dimmerlog_k10_nodes_holds : PySem.Challenge.rw_dimmerlog_k10_nodes.Holds := by
  w_on; o_law
  refine HandSHeadRun.head_imp (r := OpenLaw.row PySem.Challenge.rw_dimmerlog_k10_nodes) (q := Dl.vwA) (H := Dl.hk) (ob := Dl.obA) (M := 20000) (loose := Dl.nmA) (d := HandSHeadRun.topDef (OpenLaw.row PySem.Challenge.rw_dimmerlog_k10_nodes).prog 23) (kwd := []) Dl.obA_eq
    Dl.runA (by kernel_rfl) (by kernel_rfl) (by kernel_rfl) (by rfl) (by first | assumption | decide +kernel) (by decide +kernel) ⟨rfl, rfl, rfl, rfl, rfl, by decide +kernel⟩ ?hw ?hc
  case hw => w_witness2
  case hc =>
    refine L2.walk_ofE (l := PySem.Challenge.rw_dimmerlog_k10_nodes) (n := 63) (k := 13) (x := "_law_script") (CX := L2.CX0) rfl (by decide) (by kernel_rfl) ⟨rfl, by decide, by decide⟩ ?F (fun _ _ _ _ z => z)
    intro w mg fa h Y G hmg0
    obtain ⟨K, KX, c⟩ := Y
    have hmg : mg ("law" : PySem.Str) = some (.ref fa) := by
      have e : (HandSHeadRun.topDef (OpenLaw.row PySem.Challenge.rw_dimmerlog_k10_nodes).prog 23).name = ("law" : PySem.Str) := by kernel_rfl
      rw [← e]
      exact hmg0
    obtain ⟨fd, hb, hF⟩ := Dl.factsA (l := PySem.Challenge.rw_dimmerlog_k10_nodes) (w := w) KX G hmg c
    exact ⟨K, fd, Dl.spLaw10 K, KX, hb, fun H a ns hl _ hS => ⟨a, ns, rfl, hS, hl, fun _ => rfl⟩, hF⟩
