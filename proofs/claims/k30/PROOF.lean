import PyProof.Rows.All
import Wide.All
import OpenK.AllK
import Wide.FinOn
import HandS.ForMost
import HandS.Exc
import HandS.TryOnly
import HandS.ExcOwn
import HandS.WordsExc
import HandS.ExcInit
import HandS.ExcField
import HandS.IsInst
import HandS.Walk
import HandS.Conv
import HandS.Wide
import HandS.TryMany
import HandS.CallSlots
import HandS.Flow
import HandS.Deep
import HandS.Star
import HandS.MethStar
import HandS.ExcIs
import HandS.Rev
import HandS.More
import KE.GoesEnum
import KE.GoesMore
import HandS.ListEq
import HandS.DictEq
import HandS.DeepEq
import HandS.OwnEq
import HandS.Codes
import KE.KExcIs
import HandS.TupSets
import HandS.Text
import HandS.Property
import KE.SortData
import PySem.Challenge.RW_dimmerlog_k30_refused_notes
set_option Elab.async false
set_option linter.all false
set_option maxRecDepth 100000
set_option maxHeartbeats 4000000
namespace Dl
open PySem L2
def top (i : Nat) : Stmt := PySem.Challenge.pw_dimmerlog_k30_refused_notes.main.body.getD i (.Pass ⟨0, 0, 0, 0⟩)
abbrev sWall : Stmt := top 0
abbrev sInv : Stmt := inClass (top 3) 0
abbrev sInvalidNoteInit : Stmt := inClass (top 4) 0
abbrev sIsName : Stmt := top 8
abbrev sCheckName : Stmt := top 9
abbrev sNotesInit : Stmt := inClass (top 11) 0
abbrev sNotesAdd : Stmt := inClass (top 11) 1
abbrev sNotesSub : Stmt := inClass (top 11) 2
abbrev sNotesNeg : Stmt := inClass (top 11) 3
abbrev sNotesContains : Stmt := inClass (top 11) 4
abbrev sNotesIter : Stmt := inClass (top 11) 5
abbrev sNotesLen : Stmt := inClass (top 11) 6
abbrev sNotesEq : Stmt := inClass (top 11) 7
abbrev sNotesStr : Stmt := inClass (top 11) 8
abbrev sNotesAbout : Stmt := inClass (top 11) 9
abbrev sNotesClosed : Stmt := inClass (top 11) 10
abbrev sBag : Stmt := top 13
abbrev sTake : Stmt := top 14
abbrev sLawName : Stmt := top 15
abbrev sLawNames : Stmt := top 16
abbrev sLawFault : Stmt := top 17
abbrev sLawOddName : Stmt := top 18
abbrev sLawPairsDue : Stmt := top 19
abbrev sLawRaised : Stmt := top 20
abbrev sLaw : Stmt := top 21
end Dl

/-! sets of tuples of texts: my own rule. First: what such a tuple is asked -/
namespace Dl
open PySem PySem.Spec PyProof.Rows L2
/-- the tuple at a has the texts k -/
abbrev Tx (P : Program) (w : World) (h : Heap) (k : List Str) (a : Addr) : Prop := IsTupleKey (strKind P w) h k a
abbrev txHash (P : Program) (w : World) (k : List Str) : Int := tupleKeyHash (strKind P w) k
section
variable {P : Program} {w : World} {A : Around} {E : Value → Shared → Prop} {s : Shared}
theorem texts_of {k : List Str} {vs : List Value} (h : ItemsAre (strKind P w) k vs) : ∀ v ∈ vs, ∃ z t, v = Value.str z t := by
  induction h with
  | nil => exact fun v hv => absurd hv (by simp)
  | @cons z u ks us one _ rest =>
    intro v hv
    cases hv with
    | head => exact ⟨z, Value.isStrOf_shape one⟩
    | tail _ hv => exact rest v hv
theorem text_class (n : Nat) (z : Str) (t : Tok) : ofAClassStatement n (.str z t) = pure false := by cases n <;> rfl
theorem text_hash (n : Nat) (z : Str) (t : Tok) : hashByValue n (.str z t) = pure false := by cases n <;> rfl
/-- it is of no class statement -/
theorem tx_class {k : List Str} {b : Addr} {Q : Bool → Shared → Prop} (tx : Tx P w s.heap k b) (q : Q false s) : wpAny (model P w) A (ofAClassStatement 8 (.ref b)) Q E s := by
  obtain ⟨o, items, n, at_, cls, dat, its⟩ := id tx
  have texts := texts_of its
  unfold ofAClassStatement
  apply wpAny_bind
  apply wpAny_typeOf tx.typeIs
  dsimp only
  simp only [show ((("tuple" : String) == "tuple") = true) from by decide, if_true, Bool.not_true, Bool.false_eq_true, if_false]
  try apply wpAny_bind (wpAny_pure _)
  try simp only [Bool.not_true, Bool.false_eq_true, if_false]
  change wpAny _ _ (seqItems? (.ref b) >>= _) _ _ s
  apply wpAny_bind
  apply wpAny_seqItems at_ dat
  dsimp only
  apply wpAny_bind
  change wpAny _ _ (forIn items _ _) _ _ s
  rw [← Array.forIn_toList]
  apply wpAny_forIn_list _ (fun left r s1 => (r.1 = none ∧ s1 = s) ∧ ∀ v ∈ left, ∃ z t, v = Value.str z t) _ _ _ _ _ ⟨⟨rfl, rfl⟩, texts⟩
  · rintro v left r s1 ⟨⟨r0, rfl⟩, all⟩
    obtain ⟨z, t, rfl⟩ := all v (List.mem_cons_self ..)
    rw [text_class]
    apply wpAny_bind
    apply wpAny_pure
    exact wpAny_pure ⟨⟨rfl, rfl⟩, fun u hu => all u (List.mem_cons_of_mem _ hu)⟩
  · rintro ⟨r1, r2⟩ s1 ⟨⟨r0, rfl⟩, _⟩
    cases r0
    exact wpAny_pure q
/-- whether its hash goes by its value: some answer -/
theorem tx_byvalue {k : List Str} {b : Addr} {Q : Bool → Shared → Prop} (tx : Tx P w s.heap k b) (q : ∀ c, Q c s) : wpAny (model P w) A (hashByValue 8 (.ref b)) Q E s := by
  obtain ⟨o, items, n, at_, cls, dat, its⟩ := id tx
  have texts := texts_of its
  unfold hashByValue
  apply wpAny_bind
  apply wpAny_specialOf tx.typeIs F.slot_tuple_hash.lookup
  change wpAny _ _ (seqItems? (.ref b) >>= _) _ _ s
  apply wpAny_bind
  apply wpAny_seqItems at_ dat
  apply wpAny_bind
  change wpAny _ _ (forIn items _ _) _ _ s
  rw [← Array.forIn_toList]
  apply wpAny_forIn_list _ (fun left r s1 => s1 = s ∧ ∀ v ∈ left, ∃ z t, v = Value.str z t) _ _ _ _ _ ⟨rfl, texts⟩
  · rintro v left r s1 ⟨rfl, all⟩
    obtain ⟨z, t, rfl⟩ := all v (List.mem_cons_self ..)
    rw [text_hash]
    apply wpAny_bind
    apply wpAny_pure
    exact wpAny_pure (wpAny_pure (q false))
  · rintro ⟨r1, r2⟩ s1 ⟨rfl, _⟩
    cases r1 with
    | none => exact wpAny_pure (q true)
    | some c => exact wpAny_pure (q c)
/-- a search among such tuples shows nothing -/
theorem tx_unseen {k : List Str} {b : Addr} {Q : Bool → Shared → Prop} (tx : Tx P w s.heap k b) {ys : List Value} (hy : ∀ y ∈ ys, ∃ k2 c, y = Value.ref c ∧ Tx P w s.heap k2 c) (q : Q false s) : wpAny (model P w) A (searchCouldBeSeen (.ref b) ys) Q E s := by
  unfold searchCouldBeSeen
  apply wpAny_bind
  apply wpAny_forIn_list _ (fun left r s1 => (r.1 = none ∧ s1 = s) ∧ ∀ y ∈ left, ∃ k2 c, y = Value.ref c ∧ Tx P w s.heap k2 c) _ _ _ _ _ ⟨⟨rfl, rfl⟩, hy⟩
  · rintro v left r s1 ⟨⟨r0, rfl⟩, all⟩
    obtain ⟨k2, c, rfl, tc⟩ := all v (List.mem_cons_self ..)
    have more := fun u (hu : u ∈ left) => all u (List.mem_cons_of_mem _ hu)
    by_cases known : (b == c || (carriedByValue (.ref b) && carriedByValue (.ref c))) = true
    · exact wp_if_pos known (wpAny_pure ⟨⟨rfl, rfl⟩, more⟩)
    · apply wp_if_neg known
      apply wpAny_bind
      apply wpAny_eqIsQuiet_tuple tx
      simp only [Bool.not_true, Bool.false_eq_true, if_false]
      apply wpAny_bind
      apply wpAny_eqIsQuiet_tuple tc
      simp only [Bool.not_true, Bool.false_eq_true, if_false]
      apply wpAny_bind
      apply tx_class tx
      simp only [Bool.false_eq_true, if_false]
      apply wpAny_bind
      apply tx_class tc
      simp only [Bool.false_eq_true, if_false]
      exact wpAny_pure ⟨⟨rfl, rfl⟩, more⟩
  · rintro ⟨r1, r2⟩ s1 ⟨⟨r0, rfl⟩, _⟩
    cases r0
    exact wpAny_pure q
end
end Dl

/-! sets of tuples of texts: the set, the search -/
namespace Dl
open PySem PySem.Spec PyProof.Rows L2
abbrev Keyed := List (Addr × List Str)
def hashes (P : Program) (w : World) (L : Keyed) : List Int := L.map fun p => txHash P w p.2
def entries (P : Program) (w : World) (L : Keyed) : List (Int × Value) := L.map fun p => (txHash P w p.2, Value.ref p.1)
/-- the set at a has the tuples L -/
structure Held (P : Program) (w : World) (h : Heap) (a : Addr) (L : Keyed) (es : Array (Int × Value)) (ep : Nat) (t : SetTable) : Prop where
  obj : ∃ o, h.get? a = some o ∧ o.ExactSet ∧ o.data = .set es ep t
  ent : es.toList = entries P w L
  tab : TabOk t (hashes P w L)
  once : (L.map (·.2)).Nodup
  txt : ∀ p ∈ L, Tx P w h p.2 p.1
  led : w.params.followText "set-order" = true ∨ t.led = true
  room : L.length * 5 < t.mask * 3
  few : L.length < 64
/-- where the walk of a hash begins -/
def begin_ (m : Nat) (h : Int) : SetTable.Probe := runAt m (SetTable.bits h % (m + 1)) (SetTable.bits h)
theorem no_dummy (m : Nat) : ∀ (n : Nat) (p : SetTable.Probe), p.dummy = none → (nth m p n).dummy = none
  | 0, _, h => h
  | n + 1, p, h => no_dummy m n (adv m p) (by unfold adv; split <;> exact h)
section
variable {P : Program} {w : World} {A : Around} {E : Value → Shared → Prop} {s : Shared} {a : Addr} {L : Keyed} {es : Array (Int × Value)} {ep : Nat} {t : SetTable}
theorem entries_len (es : Array (Int × Value)) (L : Keyed) (h : es.toList = entries P w L) : es.size = L.length := by
  rw [← Array.length_toList, h]
  exact List.length_map _
theorem hashes_len : (hashes P w L).length = L.length := List.length_map _
theorem Held.size {h : Heap} (R : Held P w h a L es ep t) : es.size = L.length := entries_len es L R.ent
theorem Held.placed {h : Heap} (R : Held P w h a L es ep t) : t.place.size = L.length := by rw [R.tab.sz, hashes_len]
theorem Held.fits {h : Heap} (R : Held P w h a L es ep t) : t.fits es.size = true := by
  have e1 := R.placed
  have e2 := R.size
  have e3 := R.room
  have e4 : t.dummies.size = 0 := by rw [R.tab.dm]; rfl
  have e5 : t.place.size + t.dummies.size ≤ t.mask := by omega
  have e6 : t.place.size = es.size := by omega
  unfold SetTable.fits
  rw [e6, beq_self_eq_true, Bool.true_and]
  exact decide_eq_true e5
theorem Held.at_ {h : Heap} (R : Held P w h a L es ep t) {i : Nat} {p : Addr × List Str} (e : L[i]? = some p) : es[i]? = some (txHash P w p.2, Value.ref p.1) := by
  have q : es.toList[i]? = some (txHash P w p.2, Value.ref p.1) := by
    rw [R.ent]
    unfold entries
    rw [List.getElem?_map, e]
    rfl
  rwa [Array.getElem?_toList] at q
theorem Held.stays {h : Heap} (R : Held P w h a L es ep t) : t.gaveWay = false := by
  have q := mask_odd R.tab.mok
  unfold SetTable.gaveWay
  rw [q]
  rfl
theorem tx_search (R : Held P w s.heap a L es ep t) {x : Addr} {k : List Str} (tx : Tx P w s.heap k x) (hu : A.units < cLine) {K : Nat} (bound : K < 10 * SetTable.turns t.mask)
    (free : way t.mask (txHash P w k) K ∉ t.place.toList) (taken : ∀ c, c < K → way t.mask (txHash P w k) c ∈ t.place.toList) {Q : SetFound → Shared → Prop}
    (yes : k ∈ L.map (·.2) → Q (.there none) s) (no : k ∉ L.map (·.2) → Q (.free (way t.mask (txHash P w k) K) false) s) (f : Nat) :
    ∀ (c : Nat) (stand : Option SetTable.Probe), stand.getD (t.probeStart (txHash P w k)) = nth t.mask (begin_ t.mask (txHash P w k)) c → c ≤ K → K - c < f →
      (∀ (i : Nat) p, L[i]? = some p → p.2 = k → ∃ c2, c ≤ c2 ∧ c2 < K ∧ t.place.toList[i]? = some (way t.mask (txHash P w k) c2)) →
      wpAny (model P w) A (setSearchFrom a (.ref x) (txHash P w k) true f stand) Q E s := by
  induction f with
  | zero => exact fun c stand _ _ less => absurd less (Nat.not_lt_zero _)
  | succ f ih =>
    intro c stand from_ le less ahead
    obtain ⟨o, obj, exact_, dat⟩ := R.obj
    have go : ∀ q, nth t.mask (nth t.mask (begin_ t.mask (txHash P w k)) c) q = nth t.mask (begin_ t.mask (txHash P w k)) (c + q) := fun q => (nth_add t.mask c _ q).symm
    have spot : ∀ q, (nth t.mask (nth t.mask (begin_ t.mask (txHash P w k)) c) q).j = way t.mask (txHash P w k) (c + q) := fun q => congrArg (fun z => SetTable.Probe.j z) (go q)
    have last : way t.mask (txHash P w k) (c + (K - c)) = way t.mask (txHash P w k) K := by rw [show c + (K - c) = K by omega]
    have stored : ∀ (i : Nat) p, L[i]? = some p → (es[i]?.map (·.1)).getD 0 = txHash P w p.2 := fun i p e => by rw [R.at_ e]; rfl
    have told := go_spec t R.tab.ris R.tab.dm (fun i => (es[i]?.map (·.1)).getD 0) (txHash P w k) (10 * SetTable.turns t.mask) (K - c) (nth t.mask (begin_ t.mask (txHash P w k)) c) (no_dummy _ _ _ rfl) (by omega)
      (fun q lq => by rw [spot]; exact taken _ (by omega)) (by rw [spot, last]; exact free)
    rw [setSearchFrom_succ]
    apply wpAny_bind
    apply wpAny_setState_of obj dat R.fits
    dsimp only
    apply wp_if_neg (by rw [R.stays]; decide)
    try apply wpAny_bind (wpAny_pure _)
    rw [from_]
    rcases told with ⟨q, i, lq, at_i, same, before, met⟩ | ⟨none_, met⟩
    case inr =>
      rw [spot, last] at met
      have met2 : t.probe (fun i => (es[i]?.map (·.1)).getD 0) (txHash P w k) (nth t.mask (begin_ t.mask (txHash P w k)) c) = some (.empty (way t.mask (txHash P w k) K) none) := met
      rw [met2]
      dsimp only
      refine wpAny_pure (no fun hm => ?_)
      obtain ⟨p, hp, e⟩ := List.mem_map.mp hm
      obtain ⟨i, hi, ei⟩ := List.getElem_of_mem hp
      have li : L[i]? = some p := by rw [List.getElem?_eq_getElem hi, ei]
      obtain ⟨c2, l1, l2, l3⟩ := ahead i p li e
      refine none_ (c2 - c) i (by omega) (by rw [spot, show c + (c2 - c) = c2 by omega]; exact l3) ?_
      rw [stored i p li, e]
    rw [spot, go] at met
    rw [spot] at at_i
    have met2 : t.probe (fun i => (es[i]?.map (·.1)).getD 0) (txHash P w k) (nth t.mask (begin_ t.mask (txHash P w k)) c) = some (.candidate (way t.mask (txHash P w k) (c + q)) i (nth t.mask (begin_ t.mask (txHash P w k)) (c + (q + 1)))) := met
    rw [met2]
    dsimp only
    have il : i < L.length := by
      have z := (List.getElem?_eq_some_iff.mp at_i).1
      rw [Array.length_toList, R.placed] at z
      exact z
    obtain ⟨p, li⟩ : ∃ p, L[i]? = some p := ⟨_, List.getElem?_eq_getElem il⟩
    have pm := List.mem_of_getElem? li
    have live : t.slot (way t.mask (txHash P w k) (c + q)) = .live i := slot_live R.tab.ris at_i
    have rest : wpAny (model P w) A (searchRest a (.ref x) (txHash P w k) true f es t (way t.mask (txHash P w k) (c + q)) i (nth t.mask (begin_ t.mask (txHash P w k)) (c + (q + 1)))) Q E s := by
      unfold searchRest
      rw [R.at_ li]
      dsimp only
      apply wpAny_bind
      apply wpAny_holding
      apply wpAny_eqBool_tuple hu (R.txt p pm) tx
      apply wpAny_bind
      apply wpAny_setState_of obj dat R.fits
      dsimp only
      by_cases eq_ : p.2 = k
      · exact wp_if_pos (by simp [eq_]) (wpAny_pure (yes (List.mem_map.mpr ⟨p, pm, eq_⟩)))
      apply wp_if_neg (by simp [eq_])
      try apply wpAny_bind (wpAny_pure _)
      rw [sameMem]
      dsimp only
      simp only [if_true, live, R.at_ li]
      apply wpAny_bind
      apply wpAny_isSame_ref_self
      apply wpAny_bind
      apply wpAny_pure
      simp only [if_true]
      apply wp_if_neg (by simp [eq_])
      refine ih (c + (q + 1)) _ rfl (by omega) (by omega) fun i2 p2 li2 e2 => ?_
      obtain ⟨c2, l1, l2, l3⟩ := ahead i2 p2 li2 e2
      refine ⟨c2, ?_, l2, l3⟩
      rcases Nat.lt_trichotomy c2 (c + q) with z | z | z
      · exact absurd ((stored i2 p2 li2).trans (by rw [e2])) (before (c2 - c) i2 (by omega) (by rw [spot, show c + (c2 - c) = c2 by omega]; exact l3))
      · rw [z] at l3
        have twice := slot_live R.tab.ris l3
        rw [live] at twice
        cases twice
        rw [li] at li2
        cases li2
        exact absurd e2 eq_
      · omega
    by_cases ld : t.led = true
    · apply wp_if_neg (by simp [ld])
      try apply wpAny_bind (wpAny_pure _)
      exact rest
    · apply wp_if_pos (by simp [ld])
      apply wpAny_bind
      refine tx_unseen tx (fun y hy => ?_) ?_
      · obtain ⟨e, he, rfl⟩ := List.mem_map.mp hy
        have he : e ∈ es := by simp at he; exact he.1
        have he : e ∈ es.toList := by simpa using he
        rw [R.ent] at he
        obtain ⟨p2, hp2, rfl⟩ := List.mem_map.mp he
        exact ⟨p2.2, p2.1, rfl, R.txt p2 hp2⟩
      · apply wp_if_neg (by decide)
        try apply wpAny_bind (wpAny_pure _)
        exact rest
end
end Dl

/-! sets of tuples of texts: one more -/
namespace Dl
open PySem PySem.Spec PyProof.Rows L2
theorem put_in_perm {α : Type} (l : List α) (n : Nat) (x : α) : (l.take n ++ x :: l.drop n).Perm (x :: l) := by
  have q : (l.take n ++ x :: l.drop n).Perm (x :: (l.take n ++ l.drop n)) := List.perm_middle
  rwa [List.take_append_drop] at q
section
variable {P : Program} {w : World} {A : Around} {E : Value → Shared → Prop} {s : Shared} {a : Addr} {L : Keyed} {es : Array (Int × Value)} {ep : Nat} {t : SetTable}
theorem Tx.but {h h' : Heap} {k : List Str} {b : Addr} {o : Obj} (tx : Tx P w h k b) (obj : h.get? a = some o) (dat : o.data = .set es ep t) (same : Heap.SameBut a h h') : Tx P w h' k b := by
  obtain ⟨o2, items, n, obj2, cls2, dat2, its⟩ := tx
  have ne : b ≠ a := fun e => by
    rw [e, obj] at obj2
    cases obj2
    rw [dat] at dat2
    cases dat2
  exact ⟨o2, items, n, (same.2 b ne).trans obj2, cls2, dat2, its⟩
/-- the entries in another order -/
theorem reorder (order : Array Nat) (ent : es.toList = entries P w L) (perm : order.toList.Perm (List.range L.length)) :
    ∃ L2 : Keyed, (order.filterMap (es[·]?)).toList = entries P w L2 ∧ L2.Perm L ∧ hashes P w L2 = order.toList.map fun i => (es.map (·.1)).getD i 0 := by
  have len := entries_len es L ent
  have at_ : ∀ (i : Nat) (p : Addr × List Str), L[i]? = some p → es[i]? = some (txHash P w p.2, Value.ref p.1) := fun i p e => by
    rw [← Array.getElem?_toList, ent]
    unfold entries
    rw [List.getElem?_map, e]
    rfl
  have step : ∀ l : List Nat, (∀ i ∈ l, i < L.length) → l.filterMap (fun i => es[i]?) = entries P w (l.filterMap fun i => L[i]?) ∧ hashes P w (l.filterMap fun i => L[i]?) = l.map fun i => (es.map (·.1)).getD i 0 := by
    intro l
    induction l with
    | nil => exact fun _ => ⟨rfl, rfl⟩
    | cons i l ih =>
      intro all
      have lt := all i (List.mem_cons_self ..)
      obtain ⟨i1, i2⟩ := ih fun j hj => all j (List.mem_cons_of_mem _ hj)
      have li : L[i]? = some L[i] := List.getElem?_eq_getElem lt
      have e := at_ i _ li
      rw [List.filterMap_cons_some e, List.filterMap_cons_some li, i1]
      refine ⟨rfl, ?_⟩
      show txHash P w (L[i]).2 :: hashes P w (l.filterMap fun i => L[i]?) = _
      rw [i2, List.map_cons]
      congr 1
      simp [Array.getD_eq_getD_getElem?, Array.getElem?_map, e]
  obtain ⟨s1, s2⟩ := step order.toList fun i hi => List.mem_range.mp (perm.mem_iff.mp hi)
  refine ⟨order.toList.filterMap fun i => L[i]?, by rw [Array.toList_filterMap]; exact s1, ?_, s2⟩
  have whole : ∀ n, n ≤ L.length → (List.range n).filterMap (fun i => L[i]?) = L.take n := by
    intro n
    induction n with
    | zero => exact fun _ => rfl
    | succ n ih =>
      intro le
      have lt : n < L.length := le
      have li : L[n]? = some L[n] := List.getElem?_eq_getElem lt
      rw [List.range_succ, List.filterMap_append, ih (Nat.le_of_lt lt), List.take_succ, li]
      rw [List.filterMap_cons_some li]
      rfl
  have q := perm.filterMap fun i => L[i]?
  rw [whole L.length (Nat.le_refl _), List.take_length] at q
  exact q
/-- a larger table -/
theorem tx_relay {o : Obj} (obj : s.heap.get? a = some o) (exact_ : o.ExactSet) (dat : o.data = .set es ep t) (ent : es.toList = entries P w L) (tab : TabOk t (hashes P w L)) (fit : L.length ≤ t.mask) (once : (L.map (·.2)).Nodup) (txt : ∀ p ∈ L, Tx P w s.heap p.2 p.1)
    (led : w.params.followText "set-order" = true ∨ t.led = true) (few : L.length < 64) {wanted M : Nat} (size : SetTable.sizeAbove wanted - 1 = M) (ok : MaskOk M) (small : SetTable.sizeAbove wanted ≤ 128) (room : L.length * 5 < M * 3) {Q : Unit → Shared → Prop}
    (q : ∀ h' L' es' ep' t', Heap.SameBut a s.heap h' → Held P w h' a L' es' ep' t' → L'.Perm L → Q () { s with heap := h' }) : wpAny (model P w) A (setRelay a wanted) Q E s := by
  have len := entries_len es L ent
  have placed : t.place.size = L.length := by rw [tab.sz, hashes_len]
  have fits : t.fits es.size = true := by
    have e5 : t.place.size + t.dummies.size ≤ t.mask := by rw [tab.dm, placed]; exact fit
    unfold SetTable.fits
    rw [show t.place.size = es.size by omega, beq_self_eq_true, Bool.true_and]
    exact decide_eq_true e5
  have keys : (es.map (·.1)).size = L.length := by rw [Array.size_map, len]
  obtain ⟨t2, order, laid, perm, tab2, mask2, led2, plain2, dm2⟩ := relaid_ok t (hs := es.map (·.1)) (wanted := wanted) size ok (by rw [keys]; omega)
  rw [keys] at perm
  obtain ⟨L2, ent2, perm2, hash2⟩ := reorder order ent perm
  rw [← hash2] at tab2
  have len2 := entries_len _ L2 ent2
  have plen := perm2.length_eq
  rw [setRelay_eq]
  apply wpAny_bind
  apply wpAny_setState_of obj dat fits
  dsimp only
  apply wp_if_neg (by rw [sizeLine_eq]; omega)
  try apply wpAny_bind (wpAny_pure _)
  rw [laid]
  dsimp only
  apply wpAny_bind
  apply wp_if_neg (by rw [len2, len, plen]; simp)
  try apply wpAny_bind (wpAny_pure _)
  apply wpAny_pure
  dsimp only
  refine wpAny_storeSet_of obj dat ?_ (by rw [len2, plen, sizeLine_eq]; omega)
  have same : Heap.SameBut a s.heap (s.heap.update a (Obj.putSet (order.filterMap (es[·]?)) t2)) := Heap.SameBut.update ..
  exact q _ L2 _ (ep + 1) t2 same ⟨⟨_, store_at obj dat, ⟨exact_.1, exact_.2.1, exact_.2.2⟩, rfl⟩, ent2, tab2, (perm2.map (·.2)).nodup_iff.mpr once, fun p hp => (txt p (perm2.mem_iff.mp hp)).but obj dat same, by rw [led2]; exact led, by rw [plen, mask2]; exact room, by rw [plen]; exact few⟩ perm2
/-- the search as adding asks for it -/
theorem tx_find (R : Held P w s.heap a L es ep t) {x : Addr} {k : List Str} (tx : Tx P w s.heap k x) (hu : A.units < cLine) {Q : SetFound → Shared → Prop} (yes : k ∈ L.map (·.2) → Q (.there none) s)
    (no : ∀ K, k ∉ L.map (·.2) → way t.mask (txHash P w k) K ∉ t.place.toList → (∀ c, c < K → way t.mask (txHash P w k) c ∈ t.place.toList) → Q (.free (way t.mask (txHash P w k) K) false) s) :
    wpAny (model P w) A (setSearch a (.ref x) (txHash P w k) true) Q E s := by
  have len := R.size
  have room := R.room
  obtain ⟨K, bound, free, taken⟩ := R.tab.first (by rw [hashes_len]; omega) (txHash P w k)
  have small : K < 100000 := by
    have : 10 * SetTable.turns t.mask ≤ 1420 := by
      unfold SetTable.turns
      have := R.tab.mok
      rcases this with e | e | e <;> omega
    omega
  unfold setSearch
  refine tx_search R tx hu bound free taken yes (fun new => no K new free taken) 100000 0 none rfl (Nat.zero_le _) (by omega) fun i p li e => ?_
  have hi : (hashes P w L)[i]? = some (txHash P w k) := by
    unfold hashes
    rw [List.getElem?_map, li, ← e]
    rfl
  have lt : i < t.place.toList.length := by
    have := (List.getElem?_eq_some_iff.mp li).1
    rw [Array.length_toList, R.placed]
    exact this
  obtain ⟨c, l1, l2⟩ := R.tab.before free hi (List.getElem?_eq_getElem lt)
  exact ⟨c, Nat.zero_le _, l1, by rw [List.getElem?_eq_getElem lt, l2]⟩
/-- one more tuple -/
theorem tx_add (R : Held P w s.heap a L es ep t) {x : Addr} {k : List Str} (tx : Tx P w s.heap k x) (hu : A.units < cLine) (more : L.length + 1 < 64) {Q : Bool → Shared → Prop}
    (q : ∀ b h' L' es' ep' t', Heap.SameBut a s.heap h' → Held P w h' a L' es' ep' t' → (k ∈ L.map (·.2) → L' = L) → (k ∉ L.map (·.2) → L'.Perm ((x, k) :: L)) → Q b { s with heap := h' }) :
    wpAny (model P w) A (setAddHashed a (.ref x) (txHash P w k)) Q E s := by
  obtain ⟨o, obj, exact_, dat⟩ := R.obj
  have len := R.size
  have room := R.room
  unfold setAddHashed
  apply wpAny_holding
  rw [show (100000 : Nat) = 99999 + 1 from rfl, setAddHashedIn_succ]
  apply wpAny_bind
  apply wpAny_setState_of obj dat R.fits
  dsimp only
  apply wp_if_neg (by simp [byScan, Value.scannable])
  try refine wpAny_bind (wpAny_pure ?_)
  refine wpAny_bind (tx_find R tx hu (fun there => ?_) fun K new free taken => ?_)
  · dsimp only
    exact wpAny_pure (q false s.heap L es ep t (Heap.SameBut.refl a s.heap) R (fun _ => rfl) fun z => absurd there z)
  dsimp only
  apply wpAny_bind
  apply wpAny_setState_of obj dat R.fits
  dsimp only
  obtain ⟨q1, q2, q3, q4, q5, q6, q7, q8, q9⟩ := R.tab.put free taken
  generalize t.put (way t.mask (txHash P w k) K) = pt at q1 q3 q4 q5 q6 q7 q8 q9 ⊢
  obtain ⟨t1, n⟩ := pt
  dsimp only at q1 q3 q4 q5 q6 q7 q8 q9 ⊢
  subst q1
  have shut : TabOk t1 ((hashes P w L).take (SetTable.below t.place (way t.mask (txHash P w k) K)) ++ txHash P w k :: (hashes P w L).drop (SetTable.below t.place (way t.mask (txHash P w k) K))) := q3
  generalize SetTable.below t.place (way t.mask (txHash P w k) K) = n at shut ⊢
  have perm := put_in_perm L n (x, k)
  have ent1 : (SetTable.insertAt es n (txHash P w k, Value.ref x)).toList = entries P w (L.take n ++ (x, k) :: L.drop n) := by
    rw [SetTable.toList_insertAt, R.ent]
    unfold entries
    rw [List.map_append, List.map_cons, List.map_take, List.map_drop]
  have hash1 : (hashes P w L).take n ++ txHash P w k :: (hashes P w L).drop n = hashes P w (L.take n ++ (x, k) :: L.drop n) := by
    unfold hashes
    rw [List.map_append, List.map_cons, List.map_take, List.map_drop]
  rw [hash1] at shut
  generalize SetTable.insertAt es n (txHash P w k, Value.ref x) = es1 at ent1 ⊢
  generalize L.take n ++ (x, k) :: L.drop n = L1 at perm ent1 shut
  have len1 := entries_len es1 L1 ent1
  have plen : L1.length = L.length + 1 := perm.length_eq
  have once1 : (L1.map (·.2)).Nodup := by
    refine (perm.map (·.2)).nodup_iff.mpr ?_
    rw [List.map_cons]
    exact List.nodup_cons.mpr ⟨new, R.once⟩
  rw [hashes_len] at q9
  have fin : ∀ t2 : SetTable, TabOk t2 (hashes P w L1) → t2.mask = t.mask → t2.led = t.led → t2.fill = L.length + 1 → wpAny (model P w) A (do
      storeSet a es1 t2
      if (!false && t2.tooFull) = true then do
        setRelay a (SetTable.grown (es.size + 1))
        pure true
      else pure true) Q E s := by
    intro t2 tab2 mask2 led2 fill2
    refine wpAny_bind (wpAny_storeSet_of obj dat ?_ (by rw [len1, plen, sizeLine_eq]; omega))
    have same : Heap.SameBut a s.heap (s.heap.update a (Obj.putSet es1 t2)) := Heap.SameBut.update ..
    have obj1 := store_at (es' := es1) (t' := t2) obj dat
    generalize s.heap.update a (Obj.putSet es1 t2) = h1 at same obj1 ⊢
    have txt1 : ∀ p ∈ L1, Tx P w h1 p.2 p.1 := fun p hp => by
      rcases List.mem_cons.mp (perm.mem_iff.mp hp) with rfl | hp
      · exact tx.but obj dat same
      · exact (R.txt p hp).but obj dat same
    have led3 : w.params.followText "set-order" = true ∨ t2.led = true := by rw [led2]; exact R.led
    have full_iff : t2.tooFull = decide (t2.fill * 5 ≥ t2.mask * 3) := rfl
    by_cases full : t2.tooFull = true
    · apply wp_if_pos (by simp [full])
      rw [full_iff, decide_eq_true_eq, fill2, mask2] at full
      rw [len]
      have which : (t.mask = 7 ∧ L.length = 4) ∨ (t.mask = 31 ∧ L.length = 18) := by
        have := R.tab.mok
        rcases this with e | e | e <;> rw [e] at room full
        · exact .inl ⟨e, by omega⟩
        · exact .inr ⟨e, by omega⟩
        · omega
      have go : ∀ M, SetTable.sizeAbove (SetTable.grown (L.length + 1)) - 1 = M → MaskOk M → SetTable.sizeAbove (SetTable.grown (L.length + 1)) ≤ 128 → (L.length + 1) * 5 < M * 3 →
          wpAny (model P w) A (setRelay a (SetTable.grown (L.length + 1))) (fun _ s' => wpAny (model P w) A (pure true) Q E s') E { s with heap := h1 } := fun M z1 z2 z3 z4 => by
        refine tx_relay (s := { s with heap := h1 }) obj1 ⟨exact_.1, exact_.2.1, exact_.2.2⟩ rfl ent1 tab2 (by rw [plen, mask2]; omega) once1 txt1 led3 (by rw [plen]; exact more) z1 z2 z3 (by rw [plen]; exact z4) ?_
        intro h2 L2 es2 ep2 t3 same2 R2 perm2
        exact wpAny_pure (q true h2 L2 es2 ep2 t3 (same.trans same2) R2 (fun z => absurd z new) fun _ => perm2.trans perm)
      refine wpAny_bind ?_
      rcases which with ⟨_, e⟩ | ⟨_, e⟩
      · exact go 31 (by rw [e, size_20]) (.inr (.inl rfl)) (by rw [e, size_20]; decide) (by omega)
      · exact go 127 (by rw [e, size_76]) (.inr (.inr rfl)) (by rw [e, size_76]; decide) (by omega)
    · apply wp_if_neg (by simp [full])
      rw [full_iff, decide_eq_true_eq, fill2] at full
      exact wpAny_pure (q true h1 L1 es1 (ep + 1) t2 same ⟨⟨_, obj1, ⟨exact_.1, exact_.2.1, exact_.2.2⟩, rfl⟩, ent1, tab2, once1, txt1, led3, by rw [plen]; omega, by rw [plen]; exact more⟩ (fun z => absurd z new) fun _ => perm)
  by_cases pl : t1.plain = true
  · refine wp_if_pos pl (wpAny_bind (tx_byvalue tx fun c => ?_))
    cases c with
    | true => exact fin t1 shut q4 q5 q9
    | false => exact fin { t1 with plain := false } ⟨shut.ris, shut.dm, shut.sz, shut.mok, shut.bd, shut.reach⟩ q4 q5 q9
  · exact wp_if_neg pl (wpAny_bind (wpAny_pure (fin t1 shut q4 q5 q9)))
end
end Dl

/-! sets of tuples of texts: set(xs) of a list or a tuple of them -/
namespace Dl
open PySem PySem.Spec PyProof.Rows L2
/-- what the set has of the first i -/
structure Met (ks : Keyed) (i : Nat) (L : Keyed) : Prop where
  sub : ∀ p ∈ L, p ∈ ks.take i
  all : ∀ p ∈ ks.take i, p.2 ∈ L.map (·.2)
  len : L.length ≤ i
theorem take_plus {α : Type} {l : List α} {i : Nat} {x : α} (h : l[i]? = some x) : l.take (i + 1) = l.take i ++ [x] := by
  rw [List.take_succ, h]
  rfl
theorem Met.next {ks L L2 : Keyed} {i : Nat} {p : Addr × List Str} (m : Met ks i L) (at_ : ks[i]? = some p) (old : p.2 ∈ L.map (·.2) → L2 = L) (new : p.2 ∉ L.map (·.2) → L2.Perm (p :: L)) : Met ks (i + 1) L2 := by
  have t := take_plus at_
  by_cases c : p.2 ∈ L.map (·.2)
  · rw [old c]
    refine ⟨fun q hq => by rw [t]; exact List.mem_append_left _ (m.sub q hq), fun q hq => ?_, Nat.le_succ_of_le m.len⟩
    rw [t] at hq
    rcases List.mem_append.mp hq with h | h
    · exact m.all q h
    · obtain rfl := List.mem_singleton.mp h
      exact c
  · have perm := new c
    refine ⟨fun q hq => ?_, fun q hq => ?_, ?_⟩
    · rw [t]
      rcases List.mem_cons.mp (perm.mem_iff.mp hq) with rfl | h
      · exact List.mem_append_right _ (List.mem_singleton_self _)
      · exact List.mem_append_left _ (m.sub q h)
    · rw [(perm.map (·.2)).mem_iff, List.map_cons]
      rw [t] at hq
      rcases List.mem_append.mp hq with h | h
      · exact List.mem_cons_of_mem _ (m.all q h)
      · obtain rfl := List.mem_singleton.mp h
        exact List.mem_cons_self ..
    · rw [perm.length_eq]
      exact Nat.succ_le_succ m.len
section
variable {P : Program} {w : World} {A : Around} {E : Value → Shared → Prop} {s : Shared}
theorem Tx.kept {h h' : Heap} {k : List Str} {b : Addr} (tx : Tx P w h k b) (keep : ∀ c o, h.get? c = some o → h'.get? c = some o) : Tx P w h' k b := by
  obtain ⟨o, items, n, at_, rest⟩ := tx
  exact ⟨o, items, n, keep b o at_, rest⟩
theorem Held.moved {h h' : Heap} {a : Addr} {L : Keyed} {es : Array (Int × Value)} {ep : Nat} {t : SetTable} (R : Held P w h a L es ep t) (here : ∀ o, h.get? a = some o → h'.get? a = some o) (txt : ∀ p ∈ L, Tx P w h' p.2 p.1) : Held P w h' a L es ep t := by
  obtain ⟨o, at_, rest⟩ := R.obj
  exact ⟨⟨o, here o at_, rest⟩, R.ent, R.tab, R.once, txt, R.led, R.room, R.few⟩
/-- the object of a new set -/
abbrev newSet (w : World) : Obj := { cls := .type "set", dict := none, data := .set #[] 0 (.fresh 0 0 (!w.params.followText "set-order")) }
theorem held_new {h : Heap} {a : Addr} (obj : h.get? a = some (newSet w)) : Held P w h a [] #[] 0 (.fresh 0 0 (!w.params.followText "set-order")) := by
  refine ⟨⟨_, obj, ⟨rfl, rfl, rfl⟩, rfl⟩, rfl, ⟨List.Pairwise.nil, rfl, rfl, .inl rfl, fun x hx => (nomatch hx), fun i h j hi => ?_⟩, List.nodup_nil, fun p hp => (nomatch hp), ?_, (by show 0 * 5 < 7 * 3; decide), (by show 0 < 64; decide)⟩
  · simp [hashes] at hi
  · show _ ∨ (!w.params.followText "set-order") = true
    cases w.params.followText "set-order"
    · exact .inr rfl
    · exact .inl rfl
/-- the loop of set.update -/
theorem tx_loop {I S : Addr} {fp wr : List Addr} {G : Array GenState → Array GenState → Prop} {n : Nat} {Pv : Nat → Value → Prop} {St : Nat → Shared → Prop} {R : Result → Shared → Prop} (W : WalksS P w A.in1 I fp wr G n Pv St) (apart : S ∉ fp) (ks : Keyed) (size : n = ks.length) (few : ks.length < 64)
    (given : ∀ i v, Pv i v → ∃ p, ks[i]? = some p ∧ v = .ref p.1) (h0 : Heap) (txt : ∀ p ∈ ks, Tx P w h0 p.2 p.1) (newS : h0.get? S = none) (neww : ∀ b ∈ wr, h0.get? b = none) (hu : A.in1.units < cLine) (left : Nat) :
    ∀ (i : Nat) (s : Shared), n - i = left → i ≤ n → St i s → (∀ b o, h0.get? b = some o → s.heap.get? b = some o) → (∃ L es ep t, Held P w s.heap S L es ep t ∧ Met ks i L) →
      (∀ s' L es ep t, Moved (S :: wr) G s s' → Held P w s'.heap S L es ep t → Met ks n L → (∀ b o, h0.get? b = some o → s'.heap.get? b = some o) → R (.ok (.ret .none)) s') →
      codeAny (model P w) A (.builtin "set.update.loop" ⟨[.ref S, .ref I], []⟩) R s := by
  have apart2 : S ∉ wr := fun h => apart (W.sub _ h)
  have wider : ∀ b ∈ wr, b ∈ S :: wr := fun b hb => List.mem_cons_of_mem _ hb
  have over : ∀ {s1 s2 : Shared}, Moved wr G s1 s2 → (∀ b o, h0.get? b = some o → s1.heap.get? b = some o) → ∀ b o, h0.get? b = some o → s2.heap.get? b = some o := fun mv keep b o e =>
    mv.heap b o (fun hb => by rw [neww b hb] at e; cases e) (keep b o e)
  have inks : ∀ {i : Nat} {L : Keyed}, Met ks i L → ∀ p ∈ L, p ∈ ks := fun m p hp => List.mem_of_mem_take (m.sub p hp)
  induction left with
  | zero =>
    rintro i s left le st keep ⟨L, es, ep, t, held, met⟩ fin
    obtain rfl : i = n := by omega
    apply codeAny_builtin F.entry_set_update_loop
    rw [Around.under_plainId F.plain_set_update_loop _]
    change wpAny _ A.in1 (pyNext (.ref I) >>= _) _ _ s
    apply wpAny_bind
    refine W.done s _ _ st fun s2 mv => ?_
    change wpAny _ A.in1 (ret Value.none) _ _ s2
    have keep2 := over mv keep
    exact wpAny_pure (fin s2 L es ep t (mv.mono wider) (held.moved (fun o e => mv.heap S o apart2 e) fun p hp => (txt p (inks met p hp)).kept keep2) met keep2)
  | succ left ih =>
    rintro i s more le st keep ⟨L, es, ep, t, held, met⟩ fin
    have lt : i < n := by omega
    apply codeAny_builtin F.entry_set_update_loop
    rw [Around.under_plainId F.plain_set_update_loop _]
    change wpAny _ A.in1 (pyNext (.ref I) >>= _) _ _ s
    apply wpAny_bind
    refine W.item i s _ _ lt st fun v s2 hv st2 mv => ?_
    obtain ⟨p, at_, rfl⟩ := given i v hv
    have keep2 := over mv keep
    have held2 : Held P w s2.heap S L es ep t := held.moved (fun o e => mv.heap S o apart2 e) fun q hq => (txt q (inks met q hq)).kept keep2
    have tx : Tx P w s2.heap p.2 p.1 := (txt p (List.mem_of_getElem? at_)).kept keep2
    change wpAny _ A.in1 (holding [Value.ref p.1] (setAdd S (.ref p.1)) >>= _) _ _ s2
    apply wpAny_bind
    apply wpAny_holding
    unfold setAdd
    apply wpAny_holding
    apply wpAny_bind
    apply wpAny_pyHash_tuple hu tx
    refine tx_add (s := { s2 with toks := s2.toks + (p.2.length + 1) }) held2 tx hu (by have := met.len; omega) fun b h3 L3 es3 ep3 t3 same held3 old new => ?_
    have keep3 : ∀ b o, h0.get? b = some o → h3.get? b = some o := fun b o e => (same.2 b (fun z => by rw [z, newS] at e; cases e)).trans (keep2 b o e)
    refine wpAny_pure ⟨plainId_quiet F.plain_set_update_loop _, ih (i + 1) _ (by omega) lt (W.frame _ s2 _ _ st2 (Nat.le_add_right _ _) fun b hb o e => ?_) keep3 ⟨L3, es3, ep3, t3, held3, met.next at_ old new⟩ fun s4 L4 es4 ep4 t4 mv4 held4 met4 keep4 => ?_⟩
    · rw [same.2 b (fun h : b = S => apart (by rw [← h]; exact hb))]
      exact e
    · refine fin s4 L4 es4 ep4 t4 (Moved.trans W.gtrans ((mv.mono wider).then_heap (Nat.le_add_right _ _) fun b o hb e => ?_) mv4) held4 met4 keep4
      rw [same.2 b (fun h : b = S => hb (by rw [h]; exact List.mem_cons_self ..))]
      exact e
set_option maxRecDepth 100000 in
set_option maxHeartbeats 3200000 in
/-- set(xs), xs a list -/
theorem call_set_txlist {l : Addr} {items : Array Value} (ks : Keyed) {Q : Value → Shared → Prop} (calm : A.handled = none) (seq : s.heap.IsList l items) (its : items.toList = ks.map fun p => Value.ref p.1) (txt : ∀ p ∈ ks, Tx P w s.heap p.2 p.1) (few : ks.length < 64) (hu : A.units + 3 < cLine)
    (fin : ∀ (h' : Heap) (tk : Nat) L es ep t, Held P w h' s.heap.objs.size L es ep t → Met ks ks.length L → (∀ b o, s.heap.get? b = some o → h'.get? b = some o) → Q (.ref s.heap.objs.size) { s with heap := h', toks := tk }) :
    wpAny (model P w) A (call (.type "set") [.ref l]) Q E s := by
  have count : items.size = ks.length := by
    rw [← Array.length_toList, its]
    exact List.length_map _
  obtain ⟨c, tl, mro⟩ := F.called_set.mro
  have made_ := F.called_set.made
  have sub_ := F.called_set.sub
  apply wpAny_call
  apply codeAny_of_tree
  change wpAny _ _ (callAny (.type "set") _) _ _ _
  refine wpAny_pure ⟨Code.quiet_builtin _ (by decide +kernel), ?_⟩
  apply codeAny_builtin F.entry_type_call
  rw [Around.under_plain (weight_type_call_type "set" [.ref l] []) rfl]
  have k1 := F.called_set.notType
  have k2 := F.called_set.canCreate
  have k3 := F.typeCall_set_1 (.ref l)
  repeat any_goals first | assumption | wp_step
  refine codeAny_mono (code_set_led1 (.ref l) (E := E) (Q₁ := fun obj s1 => obj = .ref s.heap.objs.size ∧ s1 = { s with heap := s.heap.push (newSet w) }) ⟨rfl, rfl⟩) ?_
  intro r s1 hr
  match r, hr with
  | .error e, hr => exact hr
  | .ok (.ret obj), hr =>
    obtain ⟨rfl, rfl⟩ := hr
    have there : (s.heap.push (newSet w)).get? s.heap.objs.size = some (newSet w) := Heap.get?_push_size _ rfl
    have typ : Shared.TypeIs { s with heap := s.heap.push (newSet w) } (.ref s.heap.objs.size) "set" := ⟨_, there, rfl⟩
    have k4 := F.called_set.init.lookup
    have k5 := F.called_set.init.bind (.ref s.heap.objs.size)
    repeat any_goals first | assumption | wp_step
    refine codeAny_mono (codeAny_call_builtin (R := wants (fun r s2 => r = .none ∧ ∃ h' tk L es ep t, s2 = { s with heap := h', toks := tk } ∧ Held P w h' s.heap.objs.size L es ep t ∧ Met ks ks.length L ∧ ∀ b o, s.heap.get? b = some o → h'.get? b = some o) E) F.called_set.init.plain F.entry_set_init (check_set_init_1 typ ?_)) ?_
    · obtain ⟨⟨ocls, odict, odata, oslots⟩, at_, cls, nl, dat⟩ := seq
      simp only at cls dat
      subst cls
      subst dat
      have at2 : (s.heap.push (newSet w)).get? l = some { cls := .type "list", dict := odict, data := .seq items nl, slots := oslots } := Heap.get?_push_of_some _ at_
      have k6 := F.sub_list_set
      have k7 := F.sub_list_frozenset
      have k8 : (Value.type "list" == Value.type "dict") = false := by decide
      have seq2 : (s.heap.push (newSet w)).IsList l items := ⟨_, at2, rfl, nl, rfl⟩
      unfold Builtin.«set.__init__» noKeywords Builtin.Frozenset.updateFrom
      generalize hit : pyIter = it
      wp_walk
      subst hit
      apply wpAny_pyIter_list seq2
      apply wpAny_bind
      apply wpAny_runValue
      have old : l < s.heap.objs.size := Heap.lt_size at_
      have calm3 : A.in1.in1.in1.handled = none := by simp [calm]
      have size1 : (s.heap.push (newSet w)).objs.size = s.heap.objs.size + 1 := Heap.size_push ..
      have apart : s.heap.objs.size ∉ [(s.heap.push (newSet w)).objs.size, l] := by
        intro m
        rcases List.mem_cons.mp m with e | m
        · rw [size1] at e
          exact absurd e (Nat.ne_of_lt (Nat.lt_succ_self _))
        · rw [← List.mem_singleton.mp m] at old
          exact absurd old (Nat.lt_irrefl _)
      have given : ∀ (i : Nat) (v : Value), items[i]? = some v → ∃ p, ks[i]? = some p ∧ v = .ref p.1 := fun i v hv => by
        rw [← Array.getElem?_toList, its] at hv
        rw [List.getElem?_map] at hv
        cases q : ks[i]? with
        | none => rw [q] at hv; cases hv
        | some p => rw [q] at hv; exact ⟨p, rfl, (Option.some.inj hv).symm⟩
      have beyond : ∀ b, s.heap.objs.size ≤ b → s.heap.get? b = none := fun b hb => by
        cases q : s.heap.get? b with
        | none => rfl
        | some o => exact absurd (Heap.lt_size q) (Nat.not_lt.mpr hb)
      refine tx_loop ((Walks.list calm3 _ l (by rw [size1]; exact Nat.ne_of_lt (Nat.lt_succ_of_lt old)) items).toS) apart ks count few given s.heap txt (beyond _ (Nat.le_refl _)) (fun b hb => beyond b (by rw [List.mem_singleton.mp hb, size1]; exact Nat.le_succ _)) hu (items.size - 0) 0 _ rfl (Nat.zero_le _)
        ⟨⟨_, Heap.get?_push_size _ rfl, rfl, rfl⟩, seq2.push _⟩ (fun b o e => Heap.get?_push_of_some _ (Heap.get?_push_of_some _ e)) ⟨[], #[], 0, _, held_new (Heap.get?_push_of_some _ there), ⟨fun p hp => (nomatch hp), fun p hp => (by simp at hp), Nat.le_refl _⟩⟩ ?_
      intro s2 L es ep t mv held met keep
      obtain ⟨h2, g2, d2, tk2, os2⟩ := s2
      have e1 : g2 = s.gens := mv.gens
      have e2 : d2 = s.drawn := mv.drawn
      have e3 : os2 = s.os := mv.os
      subst e1 e2 e3
      rw [count] at met
      exact wpAny_pure (wpAny_pure ⟨rfl, h2, tk2, L, es, ep, t, rfl, held, met, keep⟩)
    · intro r2 s2 hr2
      match r2, hr2 with
      | .error e, hr2 => exact hr2
      | .ok (.ret r), hr2 =>
        obtain ⟨rfl, h2, tk2, L, es, ep, t, rfl, held, met, keep⟩ := hr2
        repeat any_goals first | assumption | wp_step
        exact fin _ _ _ _ _ _ held met keep
set_option maxRecDepth 100000 in
set_option maxHeartbeats 3200000 in
/-- set(xs), xs a tuple -/
theorem call_set_txtuple {l : Addr} {items : Array Value} (ks : Keyed) {Q : Value → Shared → Prop} (calm : A.handled = none) (seq : s.heap.IsTuple l items) (its : items.toList = ks.map fun p => Value.ref p.1) (txt : ∀ p ∈ ks, Tx P w s.heap p.2 p.1) (few : ks.length < 64) (hu : A.units + 3 < cLine)
    (fin : ∀ (h' : Heap) (tk : Nat) L es ep t, Held P w h' s.heap.objs.size L es ep t → Met ks ks.length L → (∀ b o, s.heap.get? b = some o → h'.get? b = some o) → Q (.ref s.heap.objs.size) { s with heap := h', toks := tk }) :
    wpAny (model P w) A (call (.type "set") [.ref l]) Q E s := by
  have count : items.size = ks.length := by
    rw [← Array.length_toList, its]
    exact List.length_map _
  obtain ⟨c, tl, mro⟩ := F.called_set.mro
  have made_ := F.called_set.made
  have sub_ := F.called_set.sub
  apply wpAny_call
  apply codeAny_of_tree
  change wpAny _ _ (callAny (.type "set") _) _ _ _
  refine wpAny_pure ⟨Code.quiet_builtin _ (by decide +kernel), ?_⟩
  apply codeAny_builtin F.entry_type_call
  rw [Around.under_plain (weight_type_call_type "set" [.ref l] []) rfl]
  have k1 := F.called_set.notType
  have k2 := F.called_set.canCreate
  have k3 := F.typeCall_set_1 (.ref l)
  repeat any_goals first | assumption | wp_step
  refine codeAny_mono (code_set_led1 (.ref l) (E := E) (Q₁ := fun obj s1 => obj = .ref s.heap.objs.size ∧ s1 = { s with heap := s.heap.push (newSet w) }) ⟨rfl, rfl⟩) ?_
  intro r s1 hr
  match r, hr with
  | .error e, hr => exact hr
  | .ok (.ret obj), hr =>
    obtain ⟨rfl, rfl⟩ := hr
    have there : (s.heap.push (newSet w)).get? s.heap.objs.size = some (newSet w) := Heap.get?_push_size _ rfl
    have typ : Shared.TypeIs { s with heap := s.heap.push (newSet w) } (.ref s.heap.objs.size) "set" := ⟨_, there, rfl⟩
    have k4 := F.called_set.init.lookup
    have k5 := F.called_set.init.bind (.ref s.heap.objs.size)
    repeat any_goals first | assumption | wp_step
    refine codeAny_mono (codeAny_call_builtin (R := wants (fun r s2 => r = .none ∧ ∃ h' tk L es ep t, s2 = { s with heap := h', toks := tk } ∧ Held P w h' s.heap.objs.size L es ep t ∧ Met ks ks.length L ∧ ∀ b o, s.heap.get? b = some o → h'.get? b = some o) E) F.called_set.init.plain F.entry_set_init (check_set_init_1 typ ?_)) ?_
    · obtain ⟨⟨ocls, odict, odata, oslots⟩, at_, cls, nl, dat⟩ := seq
      simp only at cls dat
      subst cls
      subst dat
      have at2 : (s.heap.push (newSet w)).get? l = some { cls := .type "tuple", dict := odict, data := .seq items nl, slots := oslots } := Heap.get?_push_of_some _ at_
      have k6 := F.sub_tuple_set
      have k7 := F.sub_tuple_frozenset
      have k8 : (Value.type "tuple" == Value.type "dict") = false := by decide
      have seq2 : (s.heap.push (newSet w)).IsTuple l items := ⟨_, at2, rfl, nl, rfl⟩
      unfold Builtin.«set.__init__» noKeywords Builtin.Frozenset.updateFrom
      generalize hit : pyIter = it
      wp_walk
      subst hit
      apply wpAny_pyIter_tuple seq2
      apply wpAny_bind
      apply wpAny_runValue
      have old : l < s.heap.objs.size := Heap.lt_size at_
      have calm3 : A.in1.in1.in1.handled = none := by simp [calm]
      have size1 : (s.heap.push (newSet w)).objs.size = s.heap.objs.size + 1 := Heap.size_push ..
      have apart : s.heap.objs.size ∉ [(s.heap.push (newSet w)).objs.size, l] := by
        intro m
        rcases List.mem_cons.mp m with e | m
        · rw [size1] at e
          exact absurd e (Nat.ne_of_lt (Nat.lt_succ_self _))
        · rw [← List.mem_singleton.mp m] at old
          exact absurd old (Nat.lt_irrefl _)
      have given : ∀ (i : Nat) (v : Value), items[i]? = some v → ∃ p, ks[i]? = some p ∧ v = .ref p.1 := fun i v hv => by
        rw [← Array.getElem?_toList, its] at hv
        rw [List.getElem?_map] at hv
        cases q : ks[i]? with
        | none => rw [q] at hv; cases hv
        | some p => rw [q] at hv; exact ⟨p, rfl, (Option.some.inj hv).symm⟩
      have beyond : ∀ b, s.heap.objs.size ≤ b → s.heap.get? b = none := fun b hb => by
        cases q : s.heap.get? b with
        | none => rfl
        | some o => exact absurd (Heap.lt_size q) (Nat.not_lt.mpr hb)
      refine tx_loop ((Walks.tuple calm3 _ l (by rw [size1]; exact Nat.ne_of_lt (Nat.lt_succ_of_lt old)) items).toS) apart ks count few given s.heap txt (beyond _ (Nat.le_refl _)) (fun b hb => beyond b (by rw [List.mem_singleton.mp hb, size1]; exact Nat.le_succ _)) hu (items.size - 0) 0 _ rfl (Nat.zero_le _)
        ⟨⟨_, Heap.get?_push_size _ rfl, rfl, rfl⟩, seq2.push _⟩ (fun b o e => Heap.get?_push_of_some _ (Heap.get?_push_of_some _ e)) ⟨[], #[], 0, _, held_new (Heap.get?_push_of_some _ there), ⟨fun p hp => (nomatch hp), fun p hp => (by simp at hp), Nat.le_refl _⟩⟩ ?_
      intro s2 L es ep t mv held met keep
      obtain ⟨h2, g2, d2, tk2, os2⟩ := s2
      have e1 : g2 = s.gens := mv.gens
      have e2 : d2 = s.drawn := mv.drawn
      have e3 : os2 = s.os := mv.os
      subst e1 e2 e3
      rw [count] at met
      exact wpAny_pure (wpAny_pure ⟨rfl, h2, tk2, L, es, ep, t, rfl, held, met, keep⟩)
    · intro r2 s2 hr2
      match r2, hr2 with
      | .error e, hr2 => exact hr2
      | .ok (.ret r), hr2 =>
        obtain ⟨rfl, h2, tk2, L, es, ep, t, rfl, held, met, keep⟩ := hr2
        repeat any_goals first | assumption | wp_step
        exact fin _ _ _ _ _ _ held met keep
end
end Dl

/-! sets of tuples of texts: sorted(set) -/
namespace Dl
open PySem PySem.Spec PyProof.Rows L2
/-- a tuple of texts as data -/
def txData (k : List Str) : PyData := .tuple (k.map PyData.str)
/-- Python's order of them -/
def txLe : List Str → List Str → Bool := PySem.W.dataLe false txData
/-- the one sorted list -/
def sortK (ks : List (List Str)) : List (List Str) := ks.mergeSort txLe
theorem toks_inj : ∀ {k l : List Str}, PySem.W.keyToksAll (k.map PyData.str) = PySem.W.keyToksAll (l.map PyData.str) → k = l
  | [], [], _ => rfl
  | [], y :: l, h => by
    rw [List.map_nil, List.map_cons, PySem.W.toks_all_cons] at h
    simp [PySem.W.keyToksAll] at h
  | x :: k, [], h => by
    rw [List.map_nil, List.map_cons, PySem.W.toks_all_cons] at h
    simp [PySem.W.keyToksAll] at h
  | x :: k, y :: l, h => by
    rw [List.map_cons, List.map_cons, PySem.W.toks_all_cons, PySem.W.toks_all_cons] at h
    simp only [PySem.W.keyToks, List.cons_append, List.nil_append, List.cons.injEq, true_and, Sum.inr.injEq] at h
    rw [Str.ext' (Array.toList_inj.mp h.1), toks_inj h.2]
theorem txLe_anti {k l : List Str} (h1 : txLe k l = true) (h2 : txLe l k = true) : k = l := by
  have e : ∀ a b : List Str, txLe a b = !PyProof.Rows.lexLt PyProof.Rows.itemOrd (PySem.W.keyToksAll (b.map PyData.str)) (PySem.W.keyToksAll (a.map PyData.str)) := fun a b => by
    show (!PyProof.Rows.lexLt PyProof.Rows.itemOrd (PySem.W.keyToks (txData b)) (PySem.W.keyToks (txData a))) = _
    simp only [txData, PySem.W.keyToks]
  rw [e, Bool.not_eq_true'] at h1 h2
  exact toks_inj (PyProof.Rows.lex_total _ _ h2 h1)
theorem txLe_trans (a b c : List Str) (h1 : txLe a b = true) (h2 : txLe b c = true) : txLe a c = true := (PySem.W.sortLe_total (PyProof.Rows.listOrd PyProof.Rows.itemOrd) false fun k => PySem.W.keyToks (txData k)).trans a b c h1 h2
theorem txLe_total (a b : List Str) : (txLe a b || txLe b a) = true := by
  rw [Bool.or_eq_true]
  exact (PySem.W.sortLe_total (PyProof.Rows.listOrd PyProof.Rows.itemOrd) false fun k => PySem.W.keyToks (txData k)).total a b
theorem sortK_perm {ks ls : List (List Str)} (h : ks.Perm ls) : sortK ks = sortK ls :=
  List.Perm.eq_of_pairwise (le := fun a b => txLe a b = true) (fun a b _ _ => txLe_anti) (List.pairwise_mergeSort txLe_trans txLe_total _) (List.pairwise_mergeSort txLe_trans txLe_total _) (((List.mergeSort_perm _ _).trans h).trans (List.mergeSort_perm _ _).symm)
/-- a permutation of a mapped list is a mapped permutation -/
theorem perm_back {α β : Type} {f : α → β} {vs ys : List β} (h : vs.Perm ys) : ∀ {L : List α}, ys = L.map f → ∃ L1 : List α, L1.Perm L ∧ vs = L1.map f := by
  induction h with
  | nil => exact fun {L} e => ⟨[], by rw [List.map_eq_nil_iff.mp e.symm], rfl⟩
  | cons x _ ih =>
    intro L e
    cases L with
    | nil => cases e
    | cons p L =>
      rw [List.map_cons] at e
      injection e with e1 e2
      obtain ⟨L1, q1, q2⟩ := ih e2
      exact ⟨p :: L1, q1.cons p, by rw [List.map_cons, e1, q2]⟩
  | swap x y l =>
    intro L e
    match L, e with
    | p :: q :: L, e =>
      rw [List.map_cons, List.map_cons] at e
      injection e with e1 e2
      injection e2 with e2 e3
      exact ⟨q :: p :: L, List.Perm.swap p q L, by rw [List.map_cons, List.map_cons, e1, e2, e3]⟩
    | [p], e => simp at e
    | [], e => cases e
  | trans _ _ ih1 ih2 =>
    intro L e
    obtain ⟨L2, q1, q2⟩ := ih2 e
    obtain ⟨L1, q3, q4⟩ := ih1 q2
    exact ⟨L1, q3.trans q1, q4⟩
theorem alike_texts : ∀ k l : List Str, PySem.W.alikeAll (k.map PyData.str) (l.map PyData.str) = true
  | [], _ => by simp [PySem.W.alikeAll]
  | _ :: _, [] => by simp [PySem.W.alikeAll]
  | x :: k, y :: l => by
    rw [List.map_cons, List.map_cons, PySem.W.alikeAll, alike_texts k l]
    simp [PySem.W.alike]
section
variable {P : Program} {w : World} {A : Around} {E : Value → Shared → Prop} {s : Shared}
theorem texts_read {h : Heap} : ∀ {k : List Str} {vs : List Value}, ItemsAre (strKind P w) k vs → ReadsAll h vs (k.map PyData.str) []
  | [], _, .nil => .nil
  | z :: k, _, .cons one rest => by
    obtain ⟨t, rfl⟩ := Value.isStrOf_shape one
    exact .cons (as := []) (bs := []) (.str z t) (texts_read rest)
theorem Tx.reads {h : Heap} {k : List Str} {b : Addr} (tx : Tx P w h k b) : Reads h (.ref b) (txData k) [] := by
  obtain ⟨o, items, n, at_, cls, dat, its⟩ := tx
  exact .tuple at_ cls dat (texts_read its)
/-- sorted(set) -/
theorem sorted_tx {a : Addr} {L : Keyed} {es : Array (Int × Value)} {ep : Nat} {t : SetTable} {Q : Value → Shared → Prop} (R : Held P w s.heap a L es ep t) (calm : A.handled = none) (hu : A.units + 10 < cLine) (full : ∀ p ∈ L, p.2 ≠ [])
    (fin : ∀ s' p (out : Array Value) (c : Nat) (L' : Keyed), (∀ b o, s.heap.get? b = some o → s'.heap.get? b = some o) → s'.gens = s.gens → s'.os = s.os → s.heap.objs.size ≤ p → s'.heap.get? p = some (seqObj "list" out c) → out.toList = L'.map (fun q => Value.ref q.1) → L'.Perm L → L'.map (·.2) = sortK (L.map (·.2)) → Q (.ref p) s') :
    wpAny (model P w) A (call (.builtin "sorted") [.ref a]) Q E s := by
  obtain ⟨o, obj, exact_, dat⟩ := R.obj
  have size := R.size
  have few := R.few
  apply Calls.call_function_entry kind_sorted plain_sorted entry_sorted (args_sorted1 _)
  unfold Builtin.«sorted»
  apply wpAny_bind (m := checkCount "sorted" 1 1 _)
  apply wpAny_pure
  apply wpAny_bind
  refine collect_set (A := A.in1) calm ⟨o, obj, exact_.1, dat⟩ R.fits (by unfold scanBound; omega) R.tab.ris R.led fun s1 vs keep grow gens1 os1 perm => ?_
  have vals : es.toList.map (·.2) = L.map fun q => Value.ref q.1 := by
    rw [R.ent]
    unfold entries
    rw [List.map_map]
    rfl
  rw [vals] at perm
  obtain ⟨L1, perm1, rfl⟩ := perm_back perm rfl
  have len1 : L1.length = L.length := perm1.length_eq
  apply wpAny_bind
  apply wpAny_newList _ (by rw [List.length_map, sizeLine_eq]; omega)
  have newL : (s1.heap.push (seqObj "list" (L1.map fun q => Value.ref q.1).toArray 0)).get? s1.heap.objs.size = some (seqObj "list" (L1.map fun q => Value.ref q.1).toArray 0) := Heap.get?_push_size _ rfl
  have reads : ∀ q ∈ L1, Reads (s1.heap.push (seqObj "list" (L1.map fun q => Value.ref q.1).toArray 0)) (.ref q.1) (txData q.2) [] := fun q hq => ((R.txt q (perm1.mem_iff.mp hq)).kept fun b u e => Heap.get?_push_of_some _ (keep b u e)).reads (P := P) (w := w)
  have each : ∀ {R1 : Value → Addr × List Str → Prop} {M : Keyed}, (∀ q ∈ M, R1 (.ref q.1) q) → PySem.W.EachIs R1 (M.map fun q => Value.ref q.1) M := by
    intro R1 M
    induction M with
    | nil => exact fun _ => .nil
    | cons q M ih => exact fun all => .cons (all q (List.mem_cons_self ..)) (ih fun r hr => all r (List.mem_cons_of_mem _ hr))
  have alikes : PySem.W.AllAlike (L1.map fun q : Addr × List Str => txData q.2) := PySem.W.AllAlike.of (enc := fun q : Addr × List Str => txData q.2) fun q r => by
    unfold txData
    rw [PySem.W.alike]
    exact alike_texts _ _
  have sortable : PySem.W.Sortable (L1.map fun q : Addr × List Str => txData q.2) := .inl fun d hd => by
    obtain ⟨q, hq, rfl⟩ := List.mem_map.mp hd
    have ne := full q (perm1.mem_iff.mp hq)
    cases e : q.2 with
    | nil => exact absurd e ne
    | cons z r => exact ⟨PyData.str z, r.map PyData.str, rfl⟩
  have flat : ∀ q : Addr × List Str, (txData q.2).depth = 1 := fun q => by
    have z : ∀ k : List Str, PyData.depthAll (k.map PyData.str) = 0 := by
      intro k
      induction k with
      | nil => simp [PyData.depthAll]
      | cons x k ih => rw [List.map_cons, PyData.depthAll, ih]; simp [PyData.depth]
    unfold txData
    rw [PyData.depth, z]
  apply wpAny_bind
  apply wpAny_holding
  refine PySem.W.list_sort_data (s := { s1 with heap := s1.heap.push (seqObj "list" (L1.map fun q => Value.ref q.1).toArray 0) }) (R := fun v (q : Addr × List Str) => v = .ref q.1) (enc := fun q => txData q.2) (bs := L1) newL (each fun q _ => rfl) (each fun q hq => ⟨[], reads q hq, by simp⟩) alikes sortable (by rw [sizeLine_eq]; omega) (fun q _ => by rw [flat]; show A.units + 1 + 1 + 1 < cLine; omega) fun out len outs => ?_
  obtain ⟨c, at_⟩ := sortedHeap_at (vs := L1.map fun q => Value.ref q.1) (out := out.toArray) newL
  have same : ∀ {us : List Value} {M : Keyed}, PySem.W.EachIs (fun v (q : Addr × List Str) => v = .ref q.1) us M → us = M.map fun q => Value.ref q.1 := by
    intro us M h
    induction h with
    | nil => rfl
    | cons e _ ih => rw [List.map_cons, e, ih]
  have sorted_ := same outs
  have keys : (L1.mergeSort (PySem.W.dataLe false fun q : Addr × List Str => txData q.2)).map (·.2) = sortK (L.map (·.2)) := by
    rw [← sortK_perm (perm1.map (·.2))]
    exact List.map_mergeSort fun _ _ _ _ => rfl
  refine wpAny_pure ⟨_, rfl, fin _ s1.heap.objs.size out.toArray c _ (fun b u e => ?_) gens1 os1 grow at_ (by simpa using sorted_) ((List.mergeSort_perm _ _).trans perm1) keys⟩
  have q := keep b u e
  have lt := Heap.lt_size q
  change (sortedHeap (s1.heap.push (seqObj "list" (L1.map fun q => Value.ref q.1).toArray 0)) s1.heap.objs.size (L1.map fun q => Value.ref q.1) out.toArray).get? b = some u
  rw [sortedHeap_old (Nat.ne_of_lt lt) (by rw [size_push']; exact Nat.lt_succ_of_lt lt)]
  exact Heap.get?_push_of_some _ q
end
end Dl

/-! sets of tuples of texts: the rules of the layer -/
namespace Dl
open PySem PySem.Spec PyProof.Rows L2
/-- the set at a, without its tuples -/
def Held0 (P : Program) (w : World) (h : Heap) (a : Addr) (L : Keyed) : Prop := ∃ (es : Array (Int × Value)) (ep : Nat) (t : SetTable), (∃ o, h.get? a = some o ∧ o.ExactSet ∧ o.data = .set es ep t) ∧ es.toList = entries P w L ∧ TabOk t (hashes P w L) ∧ (L.map (·.2)).Nodup ∧
  (w.params.followText "set-order" = true ∨ t.led = true) ∧ L.length * 5 < t.mask * 3 ∧ L.length < 64
def SetTx (P : Program) (w : World) (a : Addr) (L : Keyed) : HO := .ext fun h => Held0 P w h a L
theorem Held.bare {P : Program} {w : World} {h : Heap} {a : Addr} {L : Keyed} {es : Array (Int × Value)} {ep : Nat} {t : SetTable} (R : Held P w h a L es ep t) : Held0 P w h a L := ⟨es, ep, t, R.obj, R.ent, R.tab, R.once, R.led, R.room, R.few⟩
theorem setTx_new {P : Program} {w : World} {H : Hp} {h : Heap} {a : Addr} {L : Keyed} (R : Held0 P w h a L) : ObjOk P w H h a (SetTx P w a L) := by
  have ⟨es, ep, t, ⟨o, at_, more⟩, rest⟩ := R
  refine ⟨R, ⟨o, at_⟩, fun h1 h2 R1 keep => ?_⟩
  have ⟨es1, ep1, t1, ⟨o1, at1, more1⟩, rest1⟩ := (R1 : Held0 P w h1 a L)
  exact ⟨es1, ep1, t1, ⟨o1, keep o1 at1, more1⟩, rest1⟩
theorem items_tx {P : Program} {w : World} : ∀ {k : List Str} {us : List Value}, Vals (k.map V.str) us → ItemsAre (strKind P w) k us
  | [], _, .nil => .nil
  | z :: k, _, .cons r t => by
    obtain ⟨tk, rfl⟩ := r
    refine .cons ?_ (items_tx t)
    show Value.isStrOf z (.str z tk) = true
    simp [Value.isStrOf]
theorem refs_tx : ∀ {ks : Keyed} {us : List Value}, Vals (ks.map fun p => V.ref p.1) us → us = ks.map fun p => Value.ref p.1
  | [], _, .nil => rfl
  | p :: ks, _, .cons r t => by
    cases r
    rw [refs_tx t]
    rfl
theorem vals_tx : ∀ ks : Keyed, Vals (ks.map fun p => V.ref p.1) (ks.map fun p => Value.ref p.1)
  | [] => .nil
  | _ :: ks => .cons rfl (vals_tx ks)
section
variable {X : Cx}
theorem tx_of {pins : List (Addr × Obj)} {σ : L2.St} {H : Hp} {s : Shared} {b : Addr} {k : List Str} (I : Inv X pins σ H s) (h : SqT X.K H b (k.map V.str)) : Tx X.prog X.w s.heap k b := by
  obtain ⟨its, r, ⟨o, at_, cls, n, dat⟩, _⟩ := I.tuple h
  exact ⟨o, its.toArray, n, at_, cls, dat, by simpa using items_tx r⟩
/-- set(xs), xs a list or a tuple of tuples of texts -/
def rSetTx (K : PySem.W.Frag) (P : Program) (w : World) : List V → Hp → VK → Prop := fun xs H Q => ∃ (l : Addr) (ks : Keyed), xs = [V.ref l] ∧ (SqL K H l (ks.map fun p => V.ref p.1) ∨ SqT K H l (ks.map fun p => V.ref p.1)) ∧ (∀ p ∈ ks, SqT K H p.1 (p.2.map V.str)) ∧ ks.length < 64 ∧
  ∀ a (L : Keyed), H a = none → (∀ p ∈ L, p ∈ ks) → (∀ p ∈ ks, p.2 ∈ L.map (·.2)) → (L.map (·.2)).Nodup → Q (.ref a) (upd H a (SetTx P w a L))
theorem cr_setTx (calm : X.calm = true) (hu : X.A.units + 64 < cLine) : CallR X (.type "set") (rSetTx X.K X.prog X.w) := by
  intro pins s σ H xs us Q I r h
  obtain ⟨l, ks, rfl, seq, txt, few, q⟩ := h
  rw [Vals.ref1 r]
  have new : H s.heap.objs.size = none := I.hok.fresh (Nat.le_refl _)
  have all := fun p (hp : p ∈ ks) => tx_of I (txt p hp)
  have fin : ∀ (h' : Heap) (tk : Nat) L es ep t, Held X.prog X.w h' s.heap.objs.size L es ep t → Met ks ks.length L → (∀ b o, s.heap.get? b = some o → h'.get? b = some o) → EP X pins σ Q (.ref s.heap.objs.size) { s with heap := h', toks := tk } := fun h' tk L es ep t R met keep =>
    ⟨.ref s.heap.objs.size, upd H s.heap.objs.size (SetTx X.prog X.w s.heap.objs.size L), I.laid (t' := tk) keep (Nat.le_refl _) (setTx_new R.bare), rfl, q _ L new (fun p hp => List.mem_of_mem_take (met.sub p hp)) (fun p hp => met.all p (by rw [List.take_length]; exact hp)) R.once⟩
  rcases seq with seq | seq
  · obtain ⟨its, rv, pl, hz⟩ := I.list seq
    exact call_set_txlist (P := X.prog) (w := X.w) ks (I.ok.hd calm) pl.isList (by simpa using refs_tx rv) all few (by omega) fin
  · obtain ⟨its, rv, pl, hz⟩ := I.tuple seq
    exact call_set_txtuple (P := X.prog) (w := X.w) ks (I.ok.hd calm) pl (by simpa using refs_tx rv) all few (by omega) fin
/-- sorted(set) -/
def rSortTx (K : PySem.W.Frag) (P : Program) (w : World) : List V → Hp → VK → Prop := fun vs H Q => ∃ (a : Addr) (L : Keyed), vs = [V.ref a] ∧ H a = some (SetTx P w a L) ∧ (∀ p ∈ L, SqT K H p.1 (p.2.map V.str)) ∧ (∀ p ∈ L, p.2 ≠ []) ∧
  ∀ (L' : Keyed) (p : Addr), L'.Perm L → L'.map (·.2) = sortK (L.map (·.2)) → L'.length < 64 → H p = none → Q (.ref p) (upd H p (.lst (L'.map fun q => V.ref q.1)))
theorem cr_sortTx (calm : X.calm = true) (hu : X.A.units + 64 < cLine) : CallR X (.builtin "sorted") (rSortTx X.K X.prog X.w) := by
  intro pins s σ H vs us Q I r h
  obtain ⟨a, L, rfl, here, txt, full, q⟩ := h
  obtain ⟨es, ep, t, h1, h2, h3, h4, h5, h6, h7⟩ := ((I.hok a _ here).1 : Held0 X.prog X.w s.heap a L)
  have R : Held X.prog X.w s.heap a L es ep t := ⟨h1, h2, h3, h4, fun p hp => tx_of I (txt p hp), h5, h6, h7⟩
  rw [Vals.ref1 r]
  refine sorted_tx R (I.ok.hd calm) (by omega) full fun s' p out c L' keep gens_ os_ up at_ outs perm keys => ?_
  have few : L'.length < 64 := by rw [perm.length_eq]; exact h7
  have new : H p = none := I.hok.fresh up
  have J : Inv X pins σ (upd H p (.lst (L'.map fun q => V.ref q.1))) { s with heap := s'.heap, gens := s'.gens, drawn := s'.drawn, toks := s'.toks } :=
    I.call (ch := []) (Un.laid keep up new) (I.hok.laid keep up ⟨by rw [List.length_map, sizeLine_eq]; omega, out.toList, c, by rw [outs]; exact vals_tx L', at_⟩) (by rw [gens_]; exact I.bare) (fun _ z => nomatch z)
  have whole : s' = { s with heap := s'.heap, gens := s'.gens, drawn := s'.drawn, toks := s'.toks } := by
    cases s'
    cases s
    cases os_
    rfl
  rw [whole]
  exact ⟨.ref p, _, J, rfl, q L' p perm keys few new⟩
end
/-- each once -/
def onceK : List (List Str) → List (List Str)
  | [] => []
  | k :: r => if k ∈ r then onceK r else k :: onceK r
theorem mem_once {k : List Str} : ∀ {ks : List (List Str)}, k ∈ onceK ks ↔ k ∈ ks
  | [] => Iff.rfl
  | l :: r => by
    unfold onceK
    by_cases h : l ∈ r
    · rw [if_pos h, mem_once, List.mem_cons]
      exact ⟨.inr, fun q => q.elim (fun e => e ▸ h) id⟩
    · rw [if_neg h, List.mem_cons, List.mem_cons, mem_once]
theorem nodup_once : ∀ {ks : List (List Str)}, (onceK ks).Nodup
  | [] => List.nodup_nil
  | l :: r => by
    unfold onceK
    by_cases h : l ∈ r
    · rw [if_pos h]
      exact nodup_once
    · rw [if_neg h]
      exact List.nodup_cons.mpr ⟨fun q => h (mem_once.mp q), nodup_once⟩
/-- what sorted(set(..)) gives, by the keys alone -/
def normK (ks : List (List Str)) : List (List Str) := sortK (onceK ks)
theorem norm_of {ks L : List (List Str)} (once : L.Nodup) (sub : ∀ k ∈ L, k ∈ ks) (all : ∀ k ∈ ks, k ∈ L) : sortK L = normK ks := by
  refine sortK_perm ((List.perm_ext_iff_of_nodup once nodup_once).mpr fun k => ?_)
  rw [mem_once]
  exact ⟨sub k, all k⟩
theorem norm_same {ks ls : List (List Str)} (h : ∀ k, k ∈ ks ↔ k ∈ ls) : normK ks = normK ls :=
  norm_of nodup_once (fun k hk => (h k).mp (mem_once.mp hk)) fun k hk => mem_once.mpr ((h k).mpr hk)
theorem mem_norm {k : List Str} {ks : List (List Str)} : k ∈ normK ks ↔ k ∈ ks := by
  unfold normK sortK
  rw [List.mem_mergeSort, mem_once]
theorem nodup_norm {ks : List (List Str)} : (normK ks).Nodup := (List.mergeSort_perm _ _).nodup_iff.mpr nodup_once
end Dl

/-! The bag of draws: _law_bag, _law_take. -/
namespace Dl
open PySem L2

/-! ### the mathematics of the bag -/
structure BagOk (L : List Int) : Prop where
  ex : ∃ (s d : Int) (r : List Int), L = s :: d :: r ∧ 0 ≤ s ∧ s < 2147483647 ∧ 0 ≤ d ∧ ∀ x ∈ r, 0 ≤ x
theorem BagOk.put0 {d : Int} {r : List Int} (x : Int) (hd : 0 ≤ d) (hr : ∀ x ∈ r, 0 ≤ x) : BagOk (x % 2147483647 :: d :: r) :=
  ⟨_, _, _, rfl, Int.emod_nonneg _ (by decide), Int.emod_lt_of_pos _ (by decide), hd, hr⟩

/-- the names that the two defs read -/
structure TxtB (mg : Str → Option Value) : Prop where
  len : mg "len" = none
  int : mg "int" = none
  abs : mg "abs" = none

def spTake : Sp := fun vs H Q _ => ∃ (b : Addr) (L : List Int) (n : Int), vs = [.ref b, .int n] ∧ H b = some (.lst (L.map V.int)) ∧ BagOk L ∧ 1 ≤ n ∧ n < 1000000 ∧
  ∀ (L' : List Int) (r : Int), BagOk L' → 0 ≤ r → r < n → Q (.int r) (upd H b (.lst (L'.map V.int)))
section
variable {P : Program} {w : World} {K : PySem.W.Frag} {mg : Str → Option Value} {base : Heap}
theorem scTake : FnScope ["_law_bag_here", "_law_size", "_law_cell", "_law_digit"] ["_law_bag_here", "_law_size"] (defScope sTake) := ⟨rfl, rfl, rfl, by decide +kernel, rfl, by decide +kernel, by decide +kernel⟩
theorem upd_upd {H : Hp} {a : Addr} {o u : HO} : upd (upd H a o) a u = upd H a u := by
  funext b
  by_cases h : b = a
  · subst h; rw [upd_same, upd_same]
  · rw [upd_ne h, upd_ne h, upd_ne h]
theorem upd_id {H : Hp} {a : Addr} {o : HO} (h : H a = some o) : upd H a o = H := by
  funext b
  by_cases e : b = a
  · subst e; rw [upd_same, h]
  · rw [upd_ne e]
theorem ix_at {n j : Nat} (h : j < n) : ixN n (j : Int) = some j := by
  unfold ixN
  rw [if_pos (by omega), if_pos (by omega)]; simp
theorem ok_take {f : Addr} {fd : FuncData} (F : Fun K "_law_take" "_law_take" sTake f fd) (T : TxtB mg) : FnOk P w K mg base CX0 1 f fd ["_law_bag_here", "_law_size"] spTake := by
  refine F.ok scTake (fun vs H Q E h => ?_) (fun cdv A outer s H vs Q E hr h => ?_)
  · obtain ⟨b, L, n, rfl, _⟩ := h
    rfl
  · obtain ⟨b, L, n, rfl, hb, ⟨z, d, r, rfl, hz0, hz1, hd0, hr0⟩, hn1, hn2, k⟩ := h
    refine ⟨_, pss_cons (ps_if (PW.pt (pw_and (pt_cmpR op_eq (pe_ix ix_list (pv 0) pe_int (fun _ _ => rfl)) pe_int (nomark _)) (pw_and1 (pt_cmpR op_gt (pe_callB call_len_seq (by rfl) T.len PySem.boot_len (pa_cons (pv 0) pa_nil)) pe_int (nomark _)))))
        (pss_cons (ps_set (i := 2) scTake.nd rfl (Or.inl rfl) (pe_bm PySem.F.plainAttrs_list PySem.F.slot_list_pop PySem.F.type_list_pop mt_popAt (pv 0) (pa_cons pe_int pa_nil)))
        (pss_one (ps_if (pt_cmpR op_ge (pv 2) (pe_op op_pow pe_int pe_int) (nomark _))
          (pss_one (ps_asg (pv 2) (pg_sub (pv 0) pe_int set_list)))
          (pss_cons (ps_asg (pe_op op_mod (pe_callTy call_int1 (by rfl) T.int (by decide +kernel) (pa_cons (pe_op op_add (pe_op op_add (pe_op op_mul (pe_ix ix_list (pv 0) pe_int (fun _ _ => rfl)) pe_int) (pe_op op_mul (pv 2) pe_int)) pe_int) pa_nil)) pe_int) (pg_sub (pv 0) pe_int set_list))
          (pss_one (ps_ret (pe_op op_mod (pe_callTy call_int1 (by rfl) T.int (by decide +kernel) (pa_cons (pe_op op_fdiv (pe_op op_add (pe_op op_mul (pe_ix ix_list (pv 0) pe_int (fun _ _ => rfl)) pe_int) pe_int) pe_int) pa_nil)) (pv 1))))))))
        pss_nil)
      (pss_cons (ps_if (pt_cmpR op_gt (pe_ix ix_list (pv 0) pe_int (fun _ _ => rfl)) pe_int (nomark _))
        (pss_cons (ps_set (i := 3) scTake.nd rfl (Or.inl rfl) (pe_op op_mod (pe_callTy call_int1 (by rfl) T.int (by decide +kernel) (pa_cons (pe_ix ix_list (pv 0) pe_int (fun _ _ => rfl)) pa_nil)) (pv 1)))
        (pss_cons (ps_asg (pe_op op_fdivW (pe_ix ix_list (pv 0) pe_int (fun _ _ => rfl)) (pv 1)) (pg_sub (pv 0) pe_int set_list))
        (pss_one (ps_ret (pv 3)))))
        pss_nil)
      (pss_cons (ps_asg (pe_op op_mod (pe_callTy call_int1 (by rfl) T.int (by decide +kernel) (pa_cons (pe_op op_mul (pe_ix ix_list (pv 0) pe_int (fun _ _ => rfl)) pe_int) pa_nil)) pe_int) (pg_sub (pv 0) pe_int set_list))
      (pss_one (ps_ret (pe_op op_mod (pe_callTy call_int1 (by rfl) T.int (by decide +kernel) (pa_cons (pe_op op_fdiv (pe_ix ix_list (pv 0) pe_int (fun _ _ => rfl)) pe_int) pa_nil)) (pv 1)))))), ?_⟩
    -- bag[1] == 0 and len(bag) > 2
    refine ⟨_, rfl, b, _, _, _, rfl, rfl, SqL.of hb, (atI_nat (j := 1) rfl), rfl, _, rfl, ?_⟩
    refine ite2 (fun e => ?_) (fun e => ?_)
    · refine ⟨_, rfl, b, _, rfl, .inl (SqL.of hb), _, _, rfl, rfl, _, rfl, ?_⟩
      refine ite2 (fun e2 => ?_) (fun e2 => ?_)
      · -- cell = bag.pop(2)
        have hl : 2 < (z :: d :: r).length := by
          have q := of_decide_eq_true e2
          have q2 : ((2 : Int) < (((z :: d :: r).map V.int).length : Nat)) := q
          rw [List.length_map] at q2
          omega
        match r, hr0, hb, k, hl with
        | [], _, _, _, hl => exact absurd hl (by simp)
        | c :: r, hr0, hb, k, _ =>
        have hc0 : 0 ≤ c := hr0 c (List.mem_cons_self ..)
        have hr1 : ∀ x ∈ r, 0 ≤ x := fun x hx => hr0 x (List.mem_cons_of_mem _ hx)
        have hsq : seqIndex? (2 : Int) ((z :: d :: c :: r).map V.int).length = some 2 := by
          have q : ((z :: d :: c :: r).map V.int).length = r.length + 3 := by simp
          rw [q]
          unfold seqIndex?
          simp
          omega
        refine ⟨_, rfl, .inl ⟨rfl, _, SqL.of hb⟩, b, _, 2, 2, _, rfl, rfl, hb, by decide, by decide, hsq, rfl, ?_⟩
        refine ⟨_, rfl, _, _, rfl, rfl, ⟨by decide, by decide, by decide⟩, _, _, rfl, rfl, _, rfl, ?_⟩
        refine ite2 (fun e4 => ?_) (fun e4 => ?_)
        · refine ⟨_, rfl, _, rfl, b, _, _, 1, rfl, rfl, upd_same, ix_at (j := 1) (by simp), ?_⟩
          have hd1 : 0 ≤ c := hc0
          have hz1' := hz0
          have hz1'' := hz1
          have k1 : ∀ (L' : List Int) (x : Int), BagOk L' → 0 ≤ x → x < n → Q (.int x) (upd (upd (upd H b (HO.lst ((z :: d :: r).map V.int))) b (HO.lst ((z :: c :: r).map V.int))) b (.lst (L'.map V.int))) := fun L' x h1 h2 h3 => by
            rw [upd_upd, upd_upd]
            exact k L' x h1 h2 h3
          have hb1 : (upd (upd H b (HO.lst ((z :: d :: r).map V.int))) b (HO.lst ((z :: c :: r).map V.int))) b = some (.lst ((z :: c :: r).map V.int)) := upd_same
          refine ⟨_, rfl, b, _, _, _, rfl, rfl, SqL.of hb1, (atI_nat (j := 1) rfl), _, _, rfl, rfl, _, rfl, ?_⟩
          refine ite2 (fun e3 => ?_) (fun e3 => ?_)
          · refine ⟨_, rfl, b, _, _, _, rfl, rfl, SqL.of hb1, (atI_nat (j := 1) rfl), .inl ⟨_, rfl, ?_⟩⟩
            refine ⟨_, rfl, _, _, rfl, rfl, (by show (0 : Int) < n; omega), ?_⟩
            refine ⟨_, rfl, b, _, _, _, rfl, rfl, SqL.of hb1, (atI_nat (j := 1) rfl), _, rfl, _, _, rfl, rfl, wide_div (b := 20) (by show (0 : Int) < n; omega) (by show n.natAbs < 2 ^ 20; omega) (by decide) (by decide), ?_⟩
            refine ⟨_, rfl, b, _, _, 1, rfl, rfl, hb1, ix_at (j := 1) (by simp), ?_⟩
            refine ⟨_, rfl, ?_⟩
            exact k1 (z :: (c / n) :: r) _ ⟨_, _, _, rfl, hz1', hz1'', Int.ediv_nonneg hd1 (by omega), hr1⟩ (Int.emod_nonneg _ (by omega)) (Int.emod_lt_of_pos _ (by omega))
          · refine ⟨_, rfl, b, _, _, _, rfl, rfl, SqL.of hb1, (atI_nat (j := 0) rfl), _, _, rfl, rfl, .inl ⟨by show -(2 ^ 64) < z; omega, by show z < 2 ^ 64; omega⟩, .inl ⟨_, rfl, ?_⟩⟩
            refine ⟨_, _, rfl, rfl, (by show (0 : Int) < 2147483647; decide), ?_⟩
            refine ⟨_, rfl, b, _, _, 0, rfl, rfl, hb1, ix_at (j := 0) (by simp), ?_⟩
            refine ⟨_, rfl, b, _, _, _, rfl, rfl, SqL.of upd_same, (atI_nat (j := 0) rfl), _, _, rfl, rfl, ⟨by decide, by decide⟩, .inl ⟨_, rfl, ?_⟩⟩
            refine ⟨_, rfl, _, _, rfl, rfl, (by show (0 : Int) < n; omega), ?_⟩
            exact k1 (z * 48271 % 2147483647 :: c :: r) _ (BagOk.put0 _ hd1 hr1) (Int.emod_nonneg _ (by omega)) (Int.emod_lt_of_pos _ (by omega))
        · have hc1 : c < 10 ^ 18 := by
            have q := of_decide_eq_false (p := ((10 : Int) ^ (18 : Int).toNat ≤ c)) (by simpa using e4)
            have q2 : (10 : Int) ^ (18 : Int).toNat = 1000000000000000000 := by decide
            omega
          refine ⟨_, rfl, b, _, _, _, rfl, rfl, SqL.of upd_same, (atI_nat (j := 0) rfl), _, _, rfl, rfl, .inl ⟨by show -(2 ^ 64) < z; omega, by show z < 2 ^ 64; omega⟩, ?_⟩
          refine ⟨_, rfl, _, _, rfl, rfl, .inl ⟨by show -(2 ^ 64) < c; omega, by show c < 2 ^ 64; omega⟩, _, _, rfl, rfl, _, _, rfl, rfl, .inl ⟨_, rfl, ?_⟩⟩
          refine ⟨_, _, rfl, rfl, (by show (0 : Int) < 2147483647; decide), ?_⟩
          refine ⟨_, rfl, b, _, _, 0, rfl, rfl, upd_same, ix_at (j := 0) (by simp), ?_⟩
          refine ⟨_, rfl, b, _, _, _, rfl, rfl, SqL.of upd_same, (atI_nat (j := 0) rfl), _, _, rfl, rfl, .inl ⟨?_, ?_⟩, _, _, rfl, rfl, _, _, rfl, rfl, ⟨by decide, by decide⟩, .inl ⟨_, rfl, ?_⟩⟩
          · have q := Int.emod_nonneg (z * 48271 + c * 69621 + 11) (show (2147483647 : Int) ≠ 0 by decide)
            show -(2 ^ 64) < (z * 48271 + c * 69621 + 11) % 2147483647
            omega
          · have q := Int.emod_lt_of_pos (z * 48271 + c * 69621 + 11) (show (0 : Int) < 2147483647 by decide)
            show (z * 48271 + c * 69621 + 11) % 2147483647 < 2 ^ 64
            omega
          refine ⟨_, rfl, _, _, rfl, rfl, (by show (0 : Int) < n; omega), ?_⟩
          have q := k ((z * 48271 + c * 69621 + 11) % 2147483647 :: d :: r) _ (BagOk.put0 _ hd0 hr1) (Int.emod_nonneg (((z * 48271 + c * 69621 + 11) % 2147483647 * 16807 + 7919) / 16) (show n ≠ 0 by omega)) (Int.emod_lt_of_pos _ (by omega))
          rw [← upd_upd] at q
          exact q
      · have hb1 := hb
        have k1 := k
        have hz1' := hz0
        have hz1'' := hz1
        have hd1 := hd0
        have hr1 := hr0
        refine ⟨_, rfl, b, _, _, _, rfl, rfl, SqL.of hb1, (atI_nat (j := 1) rfl), _, _, rfl, rfl, _, rfl, ?_⟩
        refine ite2 (fun e3 => ?_) (fun e3 => ?_)
        · refine ⟨_, rfl, b, _, _, _, rfl, rfl, SqL.of hb1, (atI_nat (j := 1) rfl), .inl ⟨_, rfl, ?_⟩⟩
          refine ⟨_, rfl, _, _, rfl, rfl, (by show (0 : Int) < n; omega), ?_⟩
          refine ⟨_, rfl, b, _, _, _, rfl, rfl, SqL.of hb1, (atI_nat (j := 1) rfl), _, rfl, _, _, rfl, rfl, wide_div (b := 20) (by show (0 : Int) < n; omega) (by show n.natAbs < 2 ^ 20; omega) (by decide) (by decide), ?_⟩
          refine ⟨_, rfl, b, _, _, 1, rfl, rfl, hb1, ix_at (j := 1) (by simp), ?_⟩
          refine ⟨_, rfl, ?_⟩
          exact k1 (z :: (d / n) :: r) _ ⟨_, _, _, rfl, hz1', hz1'', Int.ediv_nonneg hd1 (by omega), hr1⟩ (Int.emod_nonneg _ (by omega)) (Int.emod_lt_of_pos _ (by omega))
        · refine ⟨_, rfl, b, _, _, _, rfl, rfl, SqL.of hb1, (atI_nat (j := 0) rfl), _, _, rfl, rfl, .inl ⟨by show -(2 ^ 64) < z; omega, by show z < 2 ^ 64; omega⟩, .inl ⟨_, rfl, ?_⟩⟩
          refine ⟨_, _, rfl, rfl, (by show (0 : Int) < 2147483647; decide), ?_⟩
          refine ⟨_, rfl, b, _, _, 0, rfl, rfl, hb1, ix_at (j := 0) (by simp), ?_⟩
          refine ⟨_, rfl, b, _, _, _, rfl, rfl, SqL.of upd_same, (atI_nat (j := 0) rfl), _, _, rfl, rfl, ⟨by decide, by decide⟩, .inl ⟨_, rfl, ?_⟩⟩
          refine ⟨_, rfl, _, _, rfl, rfl, (by show (0 : Int) < n; omega), ?_⟩
          exact k1 (z * 48271 % 2147483647 :: d :: r) _ (BagOk.put0 _ hd1 hr1) (Int.emod_nonneg _ (by omega)) (Int.emod_lt_of_pos _ (by omega))
    · have hb1 := hb
      have k1 := k
      have hz1' := hz0
      have hz1'' := hz1
      have hd1 := hd0
      have hr1 := hr0
      refine ⟨_, rfl, b, _, _, _, rfl, rfl, SqL.of hb1, (atI_nat (j := 1) rfl), _, _, rfl, rfl, _, rfl, ?_⟩
      refine ite2 (fun e3 => ?_) (fun e3 => ?_)
      · refine ⟨_, rfl, b, _, _, _, rfl, rfl, SqL.of hb1, (atI_nat (j := 1) rfl), .inl ⟨_, rfl, ?_⟩⟩
        refine ⟨_, rfl, _, _, rfl, rfl, (by show (0 : Int) < n; omega), ?_⟩
        refine ⟨_, rfl, b, _, _, _, rfl, rfl, SqL.of hb1, (atI_nat (j := 1) rfl), _, rfl, _, _, rfl, rfl, wide_div (b := 20) (by show (0 : Int) < n; omega) (by show n.natAbs < 2 ^ 20; omega) (by decide) (by decide), ?_⟩
        refine ⟨_, rfl, b, _, _, 1, rfl, rfl, hb1, ix_at (j := 1) (by simp), ?_⟩
        refine ⟨_, rfl, ?_⟩
        exact k1 (z :: (d / n) :: r) _ ⟨_, _, _, rfl, hz1', hz1'', Int.ediv_nonneg hd1 (by omega), hr1⟩ (Int.emod_nonneg _ (by omega)) (Int.emod_lt_of_pos _ (by omega))
      · refine ⟨_, rfl, b, _, _, _, rfl, rfl, SqL.of hb1, (atI_nat (j := 0) rfl), _, _, rfl, rfl, .inl ⟨by show -(2 ^ 64) < z; omega, by show z < 2 ^ 64; omega⟩, .inl ⟨_, rfl, ?_⟩⟩
        refine ⟨_, _, rfl, rfl, (by show (0 : Int) < 2147483647; decide), ?_⟩
        refine ⟨_, rfl, b, _, _, 0, rfl, rfl, hb1, ix_at (j := 0) (by simp), ?_⟩
        refine ⟨_, rfl, b, _, _, _, rfl, rfl, SqL.of upd_same, (atI_nat (j := 0) rfl), _, _, rfl, rfl, ⟨by decide, by decide⟩, .inl ⟨_, rfl, ?_⟩⟩
        refine ⟨_, rfl, _, _, rfl, rfl, (by show (0 : Int) < n; omega), ?_⟩
        exact k1 (z * 48271 % 2147483647 :: d :: r) _ (BagOk.put0 _ hd1 hr1) (Int.emod_nonneg _ (by omega)) (Int.emod_lt_of_pos _ (by omega))
end
end Dl

namespace Dl
open PySem L2
theorem Same.upd_new {H : Hp} {a : Addr} {o : HO} (h : H a = none) : Same H (upd H a o) := fun b u e => by
  rw [upd_ne (ne_of_none e h)]; exact e
def spBag (K : PySem.W.Frag) : Sp := fun vs H Q _ => ∃ (a : Addr) (ns : List Int), vs = [.ref a] ∧ SqL K H a (ns.map V.int) ∧ ns.length ≤ 63 ∧
  ∀ (H' : Hp) (p : Addr) (L : List Int), Same H H' → H p = none → H' p = some (.lst (L.map V.int)) → BagOk L → Q (.ref p) H'
section
variable {P : Program} {w : World} {K : PySem.W.Frag} {mg : Str → Option Value} {base : Heap}
theorem scBag : FnScope ["_law_script", "_law_cell"] ["_law_script"] (defScope sBag) := ⟨rfl, rfl, rfl, by decide +kernel, rfl, by decide +kernel, by decide +kernel⟩
theorem ok_bag {f : Addr} {fd : FuncData} (F : Fun K "_law_bag" "_law_bag" sBag f fd) (T : TxtB mg) : FnOk P w K mg base CX0 1 f fd ["_law_script"] (spBag K) := by
  refine F.ok scBag (fun vs H Q E h => ?_) (fun cdv A outer s H vs Q E hr h => ?_)
  · obtain ⟨b, L, rfl, _⟩ := h
    rfl
  · obtain ⟨a, ns, rfl, hS, hlen, k⟩ := h
    refine ⟨_, pss_one (ps_ret (pe_op op_cat (pe_lst (pa_cons pe_int (pa_cons pe_int pa_nil)))
      (pe_lc (own := [("_law_cell", 1)]) (g := gName 1) (tt := tYes) rfl scBag.nd (pi_list (pe_slice sl_list (pv 0) po_none (po_some pe_int))) (blkOk_by (N := ["_law_script", "_law_cell"]) (sc := defScope sBag) (by decide +kernel))
        (fun _ _ _ _ _ => pg_name (i := 1) scBag.nd rfl (Or.inl rfl)) (fun _ _ _ _ _ => pts_nil) (fun _ _ _ _ _ => pe_callB call_abs (by rfl) T.abs (by decide +kernel) (pa_cons (pv 1) pa_nil))))), ?_⟩
    refine ⟨by show 2 ≤ sizeLine; decide, fun l hl => ?_⟩
    refine ⟨_, rfl, 63, rfl, a, _, rfl, Same.seq (Same.upd_new hl) hS, fun q hq => ?_⟩
    have hcut : ∃ ms : List Int, cutV (ns.map V.int) none (some 63) = ms.map V.int ∧ ms.length ≤ 63 := by
      refine ⟨(ns.drop (HT.sIx (ns.map V.int).length 0 none)).take (HT.sIx (ns.map V.int).length (ns.map V.int).length (some 63) - HT.sIx (ns.map V.int).length 0 none), ?_, ?_⟩
      · unfold cutV
        rw [← List.map_drop, ← List.map_take]
      · rw [List.length_take, List.length_drop]
        omega
    obtain ⟨ms, em, hm⟩ := hcut
    rw [em]
    refine ⟨q, rfl, ⟨_, SqL.of upd_same⟩, fun D hD => lc_list (xs := ms.map V.int) (fun i H' => ∃ M : List Int, H' = upd (upd (upd H l (.lst [.int 0, .int 0])) q (.lst (ms.map V.int))) D (.lst (M.map V.int)) ∧ M.length = i ∧ ∀ x ∈ M, 0 ≤ x)
      ⟨[], rfl, rfl, fun x hx => absurd hx (by simp)⟩ ?_ ?_ ?_⟩
    · rintro i H' _ ⟨M, rfl, _, _⟩
      have nqD : q ≠ D := ne_of_none (H := upd (upd H l (.lst [.int 0, .int 0])) q (.lst (ms.map V.int))) upd_same hD
      exact SqL.of (by rw [upd_ne nqD]; exact upd_same)
    · rintro i x H' hi ⟨M, rfl, hM, hx⟩
      rw [List.getElem?_map] at hi
      cases e : ms[i]? with
      | none => rw [e] at hi; cases hi
      | some u =>
      rw [e] at hi
      obtain rfl : V.int u = x := Option.some.inj hi
      refine ⟨rfl, _, rfl, u, rfl, _, upd_same, ?_, M ++ [if u < 0 then -u else u], ?_, ?_, ?_⟩
      · rw [List.length_map, hM]
        have := (List.getElem?_eq_some_iff.mp e).1
        exact small1000 (by omega)
      · rw [upd_upd, List.map_append]
        rfl
      · rw [List.length_append, hM]
        rfl
      · intro y hy
        rcases List.mem_append.mp hy with h | h
        · exact hx y h
        · obtain rfl := List.mem_singleton.mp h
          split <;> omega
    · rintro H' ⟨M, rfl, hM, hx⟩
      have nlq : l ≠ q := fun e => by rw [e, upd_same] at hq; cases hq
      have nlD : l ≠ D := fun e => by rw [← e, upd_ne nlq, upd_same] at hD; cases hD
      rw [List.length_map] at hM
      refine ⟨l, D, _, _, rfl, rfl, by rw [upd_ne nlD, upd_ne nlq, upd_same], upd_same, ?_, fun p hp => ?_⟩
      · rw [List.length_map]
        exact Nat.le_of_lt (small1000 (by simp; omega))
      · have hp0 : H p = none := by
          have npD : p ≠ D := fun e => by rw [e, upd_same] at hp; cases hp
          have npq : p ≠ q := fun e => by rw [upd_ne npD, e, upd_same] at hp; cases hp
          have npl : p ≠ l := fun e => by rw [upd_ne npD, upd_ne npq, e, upd_same] at hp; cases hp
          rw [upd_ne npD, upd_ne npq, upd_ne npl] at hp
          exact hp
        have s1 : Same H (upd H l (.lst [.int 0, .int 0])) := Same.upd_new hl
        refine k _ p (0 :: 0 :: M) ((s1.trans (Same.upd_new hq)).trans ((Same.upd_new hD).trans (Same.upd_new hp))) hp0 (by rw [upd_same]; rfl) ⟨0, 0, M, rfl, by decide, by decide, by decide, hx⟩
end
end Dl

namespace Dl
open PySem L2
/-! ### names -/
def SG : Str := "abcdefghijklmnopqrstuvwxyz0123456789"
def validN (z : Str) : Bool := decide (1 ≤ z.length) && (decide (z.length ≤ 12) && z.cps.toList.all fun c => decide (c ∈ SG.cps.toList))
def isNm : V → Bool
  | .str z => validN z
  | _ => false
/-- what may be passed as a name: a text, an int, None, a list -/
def NmOk (H : Hp) : V → Prop
  | .str z => z.length ≤ sizeLine
  | .int _ => True
  | .non => True
  | .ref p => ∃ xs, H p = some (.lst xs)
  | _ => False
structure TxtN (mg : Str → Option Value) : Prop where
  isi : mg "isinstance" = none
  str : mg "str" = none
  len : mg "len" = none
  all : mg "all" = none
  longest : ∃ t, mg "LONGEST" = some (.int 12 t)
  signs : ∃ t, mg "SIGNS" = some (.str SG t)
theorem nm_type (K : PySem.W.Frag) {H : Hp} {v : V} (hv : NmOk H v) : ∃ (ty : String) (b : Bool), TyX K H v (.type ty) ∧ PySem.W.kitOne K (.type ty) (.type "str") = some b ∧ ((b = false ∧ isNm v = false ∧ ∀ z, v ≠ .str z) ∨ (b = true ∧ ∃ z, v = .str z ∧ z.length ≤ sizeLine)) := by
  cases v with
  | int i => exact ⟨"int", false, .base (.int i), kit_ty (by decide +kernel), .inl ⟨rfl, rfl, fun z h => by cases h⟩⟩
  | non => exact ⟨"NoneType", false, .base .non, kit_ty (by decide +kernel), .inl ⟨rfl, rfl, fun z h => by cases h⟩⟩
  | ref p => obtain ⟨xs, hp⟩ := hv; exact ⟨"list", false, .base (.lst hp), kit_ty (by decide +kernel), .inl ⟨rfl, rfl, fun z h => by cases h⟩⟩
  | str z => exact ⟨"str", true, .base (.str z), kit_ty (by decide +kernel), .inr ⟨rfl, z, rfl, hv⟩⟩
  | bl _ => exact hv.elim
  | byt _ => exact hv.elim
  | flt _ => exact hv.elim
  | ty _ => exact hv.elim
def spIsName (K : PySem.W.Frag) : Sp := fun vs H Q _ => ∃ v : V, vs = [v] ∧ NmOk H v ∧ ∀ H', Same H H' → Q (.bl (isNm v)) H'
theorem int_le_nat {a b : Nat} : decide ((a : Int) ≤ (b : Int)) = decide (a ≤ b) := by simp
section
variable {P : Program} {w : World} {K : PySem.W.Frag} {mg : Str → Option Value} {base : Heap}
theorem scIsName : FnScope ["value", "sign"] ["value"] (defScope sIsName) := ⟨rfl, rfl, rfl, by decide +kernel, rfl, by decide +kernel, by decide +kernel⟩
theorem ok_isname {f : Addr} {fd : FuncData} (F : Fun K "is_name" "is_name" sIsName f fd) (T : TxtN mg) : FnOk P w K mg base CX0 1 f fd ["value"] (spIsName K) := by
  refine F.ok scIsName (fun vs H Q E h => ?_) (fun cdv A outer s H vs Q E hr h => ?_)
  · obtain ⟨b, rfl, _⟩ := h
    rfl
  · obtain ⟨v, rfl, hv, k⟩ := h
    obtain ⟨t1, hL⟩ := T.longest
    obtain ⟨t2, hG⟩ := T.signs
    refine ⟨_, pss_cons (ps_if (PW.pt (pw_or (pt_not (pt_val (pe_callB call_isi (by rfl) T.isi (by decide +kernel) (pa_cons (pv 0) (pa_cons (pe_bltn (v := .ty "str") (by rfl) T.str (by decide +kernel) rfl) pa_nil)))))
        (pw_or1 (pt_not (pt_chain op_le op_le pe_int (pe_callB call_len_str (by rfl) T.len PySem.boot_len (pa_cons (pv 0) pa_nil)) (pe_glob (v := .int 12) (by rfl) hL ⟨_, rfl⟩))))))
        (pss_one (ps_ret pe_bl)) pss_nil)
      (pss_one (ps_ret (pe_callB (cr_all rfl) (by rfl) T.all (by decide +kernel) (pa_cons
        (pe_lc (own := [("sign", 1)]) (g := gName 1) (tt := tYes) rfl scIsName.nd (pi_str (pv 0)) (blkOk_by (N := ["value", "sign"]) (sc := defScope sIsName) (by decide +kernel))
          (fun _ _ _ _ _ => pg_name (i := 1) scIsName.nd rfl (Or.inl rfl)) (fun _ _ _ _ _ => pts_nil) (fun _ _ _ _ _ => pe_cmpR op_in_sign (pv 1) (pe_glob (v := .str SG) (by rfl) hG ⟨_, rfl⟩) (by rfl)))
        pa_nil)))), ?_⟩
    obtain ⟨ty, b, h1, h2, h3⟩ := nm_type K hv
    refine ⟨_, rfl, v, _, _, _, b, rfl, ClsV.ty "str", h1, h2, b, rfl, ?_⟩
    rcases h3 with ⟨rfl, h3, _⟩ | ⟨rfl, z, rfl, hz⟩
    · refine iteT (?_)
      show Q (.bl false) H
      rw [← h3]
      exact k H (Same.refl H)
    · refine iteF (?_)
      refine ⟨_, rfl, z, rfl, hz, _, _, rfl, rfl, _, rfl, ?_⟩
      refine ite2 (fun e1 => ?_) (fun e1 => ?_)
      · have e1' : (1 : Nat) ≤ z.length := by
          have q : (1 : Int) ≤ (z.length : Nat) := of_decide_eq_true e1
          omega
        refine ⟨_, _, rfl, rfl, _, rfl, ?_⟩
        by_cases e2 : z.length ≤ 12
        · have e2' : decide (((z.length : Nat) : Int) ≤ (12 : Int)) = true := decide_eq_true (by omega)
          rw [e2']
          refine iteF (?_)
          refine ⟨_, rfl, z, rfl, fun D hD => lc_it (w := walk_str) (fun i H' => H' = upd H D (.lst (((z.cps.toList.take i).map fun c => decide (c ∈ SG.cps.toList)).map V.bl)) ∧ True) ⟨rfl, trivial⟩ (fun _ _ _ _ => trivial) ?_ ?_⟩
          · rintro i x H' H2 hi ⟨rfl, _⟩ ⟨rfl, c, hc, rfl⟩
            refine ⟨rfl, _, rfl, c, SG, rfl, rfl, _, upd_same, ?_, ?_, trivial⟩
            · rw [List.length_map, List.length_map, List.length_take]
              have ez : z.cps.size = z.length := rfl
              exact small1000 (by omega)
            · have hc2 : z.cps.toList[i]? = some c := by rw [Array.getElem?_toList]; exact hc
              rw [upd_upd, List.take_succ, hc2]
              simp
          · rintro H' ⟨rfl, _⟩
            refine ⟨D, _, rfl, SqL.of upd_same, ?_⟩
            have q := k _ (Same.upd_new hD (o := .lst (((z.cps.toList.take z.cps.size).map fun c => decide (c ∈ SG.cps.toList)).map V.bl)))
            have e : isNm (.str z) = ((z.cps.toList.take z.cps.size).map fun c => decide (c ∈ SG.cps.toList)).all id := by
              show validN z = _
              unfold validN
              rw [decide_eq_true e1', decide_eq_true e2, List.take_of_length_le (by simp)]
              simp [List.all_map]
            rw [e] at q
            exact q
        · have e2' : decide (((z.length : Nat) : Int) ≤ (12 : Int)) = false := decide_eq_false (by omega)
          rw [e2']
          refine iteT (?_)
          have q := k H (Same.refl H)
          have e : isNm (.str z) = false := by
            show validN z = _
            unfold validN
            rw [decide_eq_false e2]
            simp
          rw [e] at q
          exact q
      · have q := k H (Same.refl H)
        have e1' : ¬ (1 : Nat) ≤ z.length := fun x => e1 (decide_eq_true (by
          show (1 : Int) ≤ (z.length : Nat)
          omega))
        have e : isNm (.str z) = false := by
          show validN z = _
          unfold validN
          rw [decide_eq_false e1']
          rfl
        rw [e] at q
        exact ⟨_, rfl, iteT q⟩
end
end Dl

namespace Dl
open PySem L2
/-! ### the own errors: class C, its __init__ at fI, its one field f -/
structure ErrC (K : PySem.W.Frag) (mg : Str → Option Value) (x f : Str) (C fI : Addr) : Prop where
  oex : OexC K C
  gC : mg x = some (.ref C)
  iC : PySem.W.findIn K (.ref C) "__init__" = some (some (.ref fI))
  tI : PySem.W.typeIn K (.ref fI) = some (.type "function")
  no : PySem.W.findIn K (.ref C) f = some none
/-- self.f = v -/
def spEI (K : PySem.W.Frag) (C : Addr) (f : Str) : Sp := fun vs H Q _ => ∃ (a : Addr) (v : V), vs = [.ref a, v] ∧ H a = some (exo a C none) ∧ ∀ dx, H dx = none → dx ≠ a → Q .non (upd (upd H dx (exd dx [(f, v)])) a (exo a C (some dx)))
section
variable {P : Program} {w : World} {K : PySem.W.Frag} {mg : Str → Option Value} {base : Heap}
theorem scInv : FnScope ["self", "name"] ["self", "name"] (defScope sInv) := ⟨rfl, rfl, rfl, by decide +kernel, rfl, by decide +kernel, by decide +kernel⟩
theorem ok_einv {C fI : Addr} {fd : FuncData} {x : Str} (F : Fun K "__init__" "InvalidName.__init__" sInv fI fd) (T : ErrC K mg x "name" C fI) : FnOk P w K mg base CX0 1 fI fd ["self", "name"] (spEI K C "name") := by
  refine F.ok scInv (fun vs H Q E h => ?_) (fun cdv A outer s H vs Q E hr h => ?_)
  · obtain ⟨b, n, rfl, _⟩ := h
    rfl
  · obtain ⟨a, v, rfl, ha, k⟩ := h
    exact ⟨_, pss_one (ps_ost (pv 0) (pv 1)), _, rfl, _, rfl, a, C, rfl, T.oex, T.no, .inl ⟨ha, fun dx h1 h2 => k dx h1 h2⟩⟩
end
/-- the way out of raise C(v): what is to be shown for the error's reading, from what the def's promise says -/
theorem raise_end {C : Addr} {f : Str} {K : PySem.W.Frag} {H : Hp} {v : V} {Q : XK} (q : ∀ d H', Same H H' → H d = none → H' d = some (.xd [(f, v)]) → Q (.ref C) (some d) H') :
    ([v] : List V).length ≤ 1000 ∧ ∀ a, H a = none → spEI K C f (.ref a :: ([v] ++ [])) (upd H a (exo a C none))
      (fun u H2 => u = .non ∧ ∃ (d : Addr) (fs : List (Str × V)), H2 a = some (exo a C (some d)) ∧ H2 d = some (exd d fs) ∧ H d = none ∧ Q (.ref C) (some d) (upd (del H2 a) d (.xd fs))) (fun _ _ _ => False) := by
  refine ⟨by simp, fun a ha => ⟨a, v, rfl, upd_same, fun dx hx ne => ⟨rfl, dx, [(f, v)], upd_same, ?_, ?_, ?_⟩⟩⟩
  · rw [upd_ne ne, upd_same]
  · rw [upd_ne ne] at hx
    exact hx
  · rw [upd_ne ne] at hx
    refine q dx _ (fun b o e => ?_) hx upd_same
    have nb : b ≠ dx := ne_of_none e hx
    have na : b ≠ a := ne_of_none e ha
    rw [upd_ne nb, del_ne na, upd_ne na, upd_ne nb, upd_ne na]
    exact e
/-! ### InvalidNote: two fields -/
structure ErrN (K : PySem.W.Frag) (mg : Str → Option Value) (C fI : Addr) : Prop where
  oex : OexC K C
  gC : mg "InvalidNote" = some (.ref C)
  iC : PySem.W.findIn K (.ref C) "__init__" = some (some (.ref fI))
  tI : PySem.W.typeIn K (.ref fI) = some (.type "function")
  noB : PySem.W.findIn K (.ref C) "before" = some none
  noA : PySem.W.findIn K (.ref C) "after" = some none
def spEN (K : PySem.W.Frag) (C : Addr) : Sp := fun vs H Q _ => ∃ (a : Addr) (b v : V), vs = [.ref a, b, v] ∧ H a = some (exo a C none) ∧
  ∀ dx H', H dx = none → dx ≠ a → H' a = some (exo a C (some dx)) → H' dx = some (exd dx [("after", v), ("before", b)]) → (∀ c o, c ≠ a → H c = some o → H' c = some o) → Q .non H'
def NoteX (P : Program) (w : World) (K : PySem.W.Frag) (mg : Str → Option Value) (base : Heap) (C : Addr) : Prop :=
  ∃ fI fd, ErrN K mg C fI ∧ Binds K fd ["self", "before", "after"] [] ∧ FnOk P w K mg base CX0 1 fI fd ["self", "before", "after"] (spEN K C)
theorem scNote : FnScope ["self", "before", "after"] ["self", "before", "after"] (defScope sInvalidNoteInit) := ⟨rfl, rfl, rfl, by decide +kernel, rfl, by decide +kernel, by decide +kernel⟩
section
variable {P : Program} {w : World} {K : PySem.W.Frag} {mg : Str → Option Value} {base : Heap}
theorem ok_enote {C fI : Addr} {fd : FuncData} (F : Fun K "__init__" "InvalidNote.__init__" sInvalidNoteInit fI fd) (T : ErrN K mg C fI) : FnOk P w K mg base CX0 1 fI fd ["self", "before", "after"] (spEN K C) := by
  refine F.ok scNote (fun vs H Q E h => ?_) (fun cdv A outer s H vs Q E hr h => ?_)
  · obtain ⟨b, n, v, rfl, _⟩ := h
    rfl
  · obtain ⟨a, b, v, rfl, ha, k⟩ := h
    refine ⟨_, pss_cons (ps_ost (pv 0) (pv 1)) (pss_one (ps_ost (pv 0) (pv 2))), ?_⟩
    refine ⟨_, rfl, _, rfl, a, C, rfl, T.oex, T.noB, .inl ⟨ha, fun dx h1 h2 => ?_⟩⟩
    refine ⟨_, rfl, _, rfl, a, C, rfl, T.oex, T.noA, .inr ⟨dx, [("before", b)], upd_same, by rw [upd_ne h2, upd_same], by simp, ?_⟩⟩
    refine k dx _ h1 h2 ?_ upd_same fun c o n e => ?_
    · rw [upd_ne (fun q => h2 q.symm), upd_same]
    · rw [upd_ne (ne_of_none e h1), upd_ne n, upd_ne (ne_of_none e h1)]
      exact e
end
/-- the way out of raise InvalidNote(b, v) -/
theorem raise_endN {C : Addr} {K : PySem.W.Frag} {H : Hp} {b v : V} {Q : XK} (q : ∀ d H', Same H H' → H d = none → H' d = some (.xd [("after", v), ("before", b)]) → Q (.ref C) (some d) H') :
    ([b, v] : List V).length ≤ 1000 ∧ ∀ a, H a = none → spEN K C (.ref a :: ([b, v] ++ [])) (upd H a (exo a C none))
      (fun u H2 => u = .non ∧ ∃ (d : Addr) (fs : List (Str × V)), H2 a = some (exo a C (some d)) ∧ H2 d = some (exd d fs) ∧ H d = none ∧ Q (.ref C) (some d) (upd (del H2 a) d (.xd fs))) (fun _ _ _ => False) := by
  refine ⟨by simp, fun a ha => ⟨a, b, v, rfl, upd_same, fun dx H' hx ne e1 e2 keep => ?_⟩⟩
  rw [upd_ne ne] at hx
  refine ⟨rfl, dx, _, e1, e2, hx, q dx _ (fun c o e => ?_) hx upd_same⟩
  have nb : c ≠ dx := ne_of_none e hx
  have na : c ≠ a := ne_of_none e ha
  rw [upd_ne nb, del_ne na]
  exact keep c o na (by rw [upd_ne na]; exact e)
end Dl

namespace Dl
open PySem L2
/-- a def that stands at a global name and keeps its promise -/
def Dfn (P : Program) (w : World) (K : PySem.W.Frag) (mg : Str → Option Value) (base : Heap) (CX : CXT) (k : Nat) (x : Str) (ps : List Str) (sp : Sp) : Prop :=
  ∃ f fd, mg x = some (.ref f) ∧ PySem.W.keepIn K (.ref f) = true ∧ Binds K fd ps [] ∧ FnOk P w K mg base CX k f fd ps sp
/-- an own error with its __init__ -/
def Ex (P : Program) (w : World) (K : PySem.W.Frag) (mg : Str → Option Value) (base : Heap) (x f : Str) (C : Addr) : Prop :=
  ∃ fI fd, ErrC K mg x f C fI ∧ Binds K fd ["self", f] [] ∧ FnOk P w K mg base CX0 1 fI fd ["self", f] (spEI K C f)
/-- an error with one field leaves: what the caller wants of it -/
def Out1 (C : Addr) (f : Str) (v : V) (H : Hp) (E : XK) : Prop := ∀ d H', Same H H' → H d = none → H' d = some (.xd [(f, v)]) → E (.ref C) (some d) H'
theorem Out1.of {C : Addr} {f : Str} {v : V} {H H1 : Hp} {E : XK} (s : Same H H1) (h : Out1 C f v H E) : Out1 C f v H1 E := fun d H' s' n e => h d H' (s.trans s') (s.free n) e
theorem Out1.imp {C : Addr} {f : Str} {v : V} {H : Hp} {E E' : XK} (i : ∀ c d H', E c d H' → E' c d H') (h : Out1 C f v H E) : Out1 C f v H E' := fun d H' s' n e => i _ _ _ (h d H' s' n e)
/-- InvalidNote leaves -/
def OutN (C : Addr) (b v : V) (H : Hp) (E : XK) : Prop := ∀ d H', Same H H' → H d = none → H' d = some (.xd [("after", v), ("before", b)]) → E (.ref C) (some d) H'
theorem OutN.of {C : Addr} {b v : V} {H H1 : Hp} {E : XK} (s : Same H H1) (h : OutN C b v H E) : OutN C b v H1 E := fun d H' s' n e => h d H' (s.trans s') (s.free n) e
theorem OutN.imp {C : Addr} {b v : V} {H : Hp} {E E' : XK} (i : ∀ c d H', E c d H' → E' c d H') (h : OutN C b v H E) : OutN C b v H E' := fun d H' s' n e => i _ _ _ (h d H' s' n e)
theorem isNm_str {v : V} (h : isNm v = true) : ∃ z, v = .str z ∧ validN z = true := by
  cases v with
  | str z => exact ⟨z, rfl, h⟩
  | _ => cases h
/-- check_name(name): nothing happens if it is a valid name, else InvalidName -/
def spCheckName (CI : Addr) : Sp := fun vs H Q E => ∃ v : V, vs = [v] ∧ NmOk H v ∧ (∀ H', Same H H' → isNm v = true → Q .non H') ∧ (isNm v = false → Out1 CI "name" v H E)
section
variable {P : Program} {w : World} {K : PySem.W.Frag} {mg : Str → Option Value} {base : Heap} {CI : Addr}
theorem scCheckName : FnScope ["name"] ["name"] (defScope sCheckName) := ⟨rfl, rfl, rfl, by decide +kernel, rfl, by decide +kernel, by decide +kernel⟩
theorem ok_checkname {f : Addr} {fd : FuncData} (F : Fun K "check_name" "check_name" sCheckName f fd) (gN : Dfn P w K mg base CX0 1 "is_name" ["value"] (spIsName K)) (xI : Ex P w K mg base "InvalidName" "name" CI) :
    FnOk P w K mg base (L2.CX P w) 3 f fd ["name"] (spCheckName CI) := by
  obtain ⟨fN, dN, mN, kN, bN, GN⟩ := gN
  obtain ⟨fI, dI, TI, bI, GI⟩ := xI
  refine F.okX scCheckName (fun vs H Q E h => ?_) (fun cdv A outer s H vs Q E hr h => ?_)
  · obtain ⟨b, rfl, _⟩ := h
    rfl
  · obtain ⟨v, rfl, hv, k, kx⟩ := h
    have hr1 : Room 1 _ := hr.mono (by decide)
    have hr2 : Room 2 _ := hr.mono (by decide)
    refine ⟨_, pss_one (ps_if (pt_not (pt_val (pe_call GN hr1 (by rfl) mN kN bN .nil pass0 (pa_cons (pv 0) pa_nil))))
        (pss_one (ps_raise rfl (takes_of rfl rfl rfl rfl) (pmk_oex TI.oex TI.iC TI.tI GI hr2 bI .nil pass0 (by rfl) TI.gC (pa_cons (pv 0) pa_nil)))) pss_nil), ?_⟩
    refine ⟨_, rfl, v, rfl, hv, fun H1 s1 => ⟨_, rfl, ?_⟩⟩
    by_cases hn : isNm v = true
    · rw [hn]
      exact iteF (k H1 s1 hn)
    · have hn' : isNm v = false := by simpa using hn
      rw [hn']
      exact iteT ⟨_, rfl, raise_end (Out1.of s1 (kx hn'))⟩
end
theorem NmOk.of {H H' : Hp} {v : V} (s : Same H H') (h : NmOk H v) : NmOk H' v := by
  cases v with
  | ref p => obtain ⟨xs, e⟩ := h; exact ⟨xs, s _ _ e⟩
  | str z => exact h
  | int i => exact h
  | non => exact h
  | bl _ => exact h
  | byt _ => exact h
  | flt _ => exact h
  | ty _ => exact h
theorem Same.tup {K : PySem.W.Frag} {H H' : Hp} {a : Addr} {xs : List V} (e : Same H H') (h : SqT K H a xs) : SqT K H' a xs := by
  rcases h with (h | ⟨o, h⟩) | h
  · exact .inl (.inl (e _ _ h))
  · exact .inl (.inr ⟨o, e _ _ h⟩)
  · exact .inr h
def knows (v : V) (es : List Str) : Bool :=
  match v with
  | .str z => decide (z ∈ es)
  | _ => false
def strOf : V → Str
  | .str z => z
  | _ => ""
theorem Same.either {K : PySem.W.Frag} {H H' : Hp} {a : Addr} {xs : List V} (e : Same H H') (h : SqL K H a xs ∨ SqT K H a xs) : SqL K H' a xs ∨ SqT K H' a xs := h.imp (Same.seq e) (Same.tup e)
theorem inV_str {z : Str} {es : List Str} : inV (.str z) (es.map V.str) = decide (z ∈ es) := by
  unfold inV
  rw [List.any_map]
  induction es with
  | nil => simp
  | cons a r ih =>
    rw [List.any_cons, ih]
    have e : ((fun y => eqV y (V.str z)) ∘ V.str) a = decide (a = z) := by
      show eqV (V.str a) (V.str z) = decide (a = z)
      unfold eqV
      first | rfl | simp
    rw [e]
    by_cases h : a = z
    · subst h; simp
    · have h2 : ¬ z = a := fun q => h q.symm
      simp [h, h2]
theorem flat_strs (es : List Str) : (es.map V.str).all flatV = true := by
  rw [List.all_map]
  induction es with
  | nil => rfl
  | cons a r ih => rw [List.all_cons, ih]; rfl
end Dl

/-! C(e, ..) in a try's body: what the class's __init__ lets out is wished for at the caller's slots; lists of texts as data -/
namespace Dl
open PySem PySem.Spec PyProof.Rows L2
def tMakeS (C : Addr) (sp : Sp) (E : L2.St → XK) (t : TA) : TE := fun σ H Q => t σ H fun vs H1 =>
  ∀ x dx, H1 x = none → H1 dx = none → dx ≠ x → sp (.ref x :: vs) (upd (upd H1 dx (.own x)) x (.ins C dx [])) (fun v H2 => v = .non ∧ Q (.ref x) H2) (E σ)
theorem make_slots {X : Cx} {CX : CXT} {k : Nat} {f C : Addr} {fd : FuncData} {ps : List Str} {sp : Sp} {E : XK} {σ : L2.St} {pins : List (Addr × Obj)} {H : Hp} {s : Shared} {Q : VK} {us : List Value} {vs : List V}
    (M : Mk X.K C f) (F : FnOk X.prog X.w X.K X.mg X.base CX k f fd ps sp) (hr : Room (k + 1) X.A) (hb : Binds X.K fd ps []) (hx : PassesAt CX X σ E) (I : Inv X pins σ H s) (r : Vals vs us)
    (h : ∀ x dx, H x = none → H dx = none → dx ≠ x → sp (.ref x :: vs) (upd (upd H dx (.own x)) x (.ins C dx [])) (fun v H2 => v = .non ∧ Q (.ref x) H2) E) :
    wpAny (model X.prog X.w) X.A (call (.ref C) us) (EP X pins σ Q) X.xe s := by
  have at0 : H s.heap.objs.size = none := I.hok.fresh (Nat.le_refl _)
  have at1 : H (s.heap.objs.size + 1) = none := I.hok.fresh (Nat.le_succ _)
  have want := h _ _ at1 at0 (Nat.ne_of_lt (Nat.lt_succ_self _))
  have J := Inv.made (C := C) I
  have rv : Vals (V.ref (s.heap.objs.size + 1) :: vs) (Value.ref (s.heap.objs.size + 1) :: us) := .cons rfl r
  have len : (Value.ref (s.heap.objs.size + 1) :: us).length = ps.length := by rw [← rv.length]; exact F.len _ _ _ _ want
  have bind := hb _ (Value.ref (s.heap.objs.size + 1) :: us) J.kIn (by rw [List.append_nil]; exact len)
  rw [List.append_nil] at bind
  have body := F.run _ X.stack _ _ ⟨Value.ref (s.heap.objs.size + 1) :: us, []⟩ _ _ _ E (hr.make C us []) (J.env0.make C us []) bind rv want
  apply wpAny_call
  apply make_map (f := f) I.kIn M.makes M.init (beq_iff_eq.mp M.fn)
  apply codeAny_mono body
  intro out s2 hout
  match out, hout with
  | .error er, hout => exact hx pins _ _ er s2 J hout
  | .ok (.ret u), hout =>
    obtain ⟨v, H2, J2, rel, ev, q⟩ := J.after hout
    cases ev
    exact ⟨rel, V.ref (s.heap.objs.size + 1), H2, J2, rfl, q⟩
theorem pe_makeS {X : Cx} {CX : CXT} {k : Nat} {f C : Addr} {fd : FuncData} {ps : List Str} {sp : Sp} {E : L2.St → XK} {x : Str} {p pos : Pos} {e : Expr} {es : List Expr} {t : TA}
    (M : Mk X.K C f) (F : FnOk X.prog X.w X.K X.mg X.base CX k f fd ps sp) (hr : Room (k + 1) X.A) (hg : Gl X x) (hm : X.mg x = some (.ref C)) (hb : Binds X.K fd ps []) (hx : ∀ σ, PassesAt CX X σ (E σ)) (ha : PA X (e :: es) t)
    (hdb : (x == ("__debug__" : Str)) = false := by decide) (he : starEach (e :: es) X.env = (false, eval e X.env) :: starEach es X.env := by rfl) (hpl : (backTo pos (starEach es X.env)).any (·.1) = false := by rfl) :
    PE X (.Call (.Name x p) (e :: es) [] pos) (tMakeS C sp E t) := by
  constructor
  intro pins s σ H Q I h
  apply wpAny_Call_Name_kw
  apply ld_glob I hg hm _ hdb
  apply PySem.W.callWith_K (h₀ := X.base) I.ok.mod.kin M.kp _ he hpl
  apply thn (ha.run pos pins s σ H _ I h)
  rintro us s1 ⟨vs, H1, I1, r, q⟩
  exact ⟨I1.kIn, make_slots M F hr hb (hx σ) I1 r q⟩
/-! ### lists and tuples of texts as data -/
theorem canAll_strs : ∀ {zs : List Str}, (∀ z ∈ zs, PyData.canLay0 (.str z) = true) → PyData.canLayAll0 (zs.map PyData.str) = true
  | [], _ => by simp [PyData.canLayAll0]
  | z :: r, h => by
    rw [List.map_cons, PyData.canLayAll0, Bool.and_eq_true]
    exact ⟨h z (List.mem_cons_self ..), canAll_strs fun y hy => h y (List.mem_cons_of_mem _ hy)⟩
theorem depthAll_strs : ∀ zs : List Str, PyData.depthAll (zs.map PyData.str) = 0
  | [] => by simp [PyData.depthAll]
  | z :: r => by rw [List.map_cons, PyData.depthAll, depthAll_strs r]; simp [PyData.depth]
theorem shaped_strs {zs : List Str} (h : ∀ z ∈ zs, PyData.canLay0 (.str z) = true) : SeqAt.shaped (.list (zs.map PyData.str)) = true := by
  unfold SeqAt.shaped
  rw [Bool.and_eq_true, PyData.canLay0, PyData.depth, depthAll_strs]
  exact ⟨canAll_strs h, by decide⟩
theorem dpAll_strs {K : PySem.W.Frag} {H : Hp} : ∀ zs : List Str, DpAll K H (zs.map V.str) (zs.map PyData.str)
  | [] => .nil
  | z :: r => .cons (.str z) (dpAll_strs r)
theorem eqvAll_strs : ∀ zs ys : List Str, PyData.eqvAll (zs.map PyData.str) (ys.map PyData.str) = decide (zs = ys)
  | [], [] => by simp [PyData.eqvAll]
  | [], _ :: _ => by simp [PyData.eqvAll]
  | _ :: _, [] => by simp [PyData.eqvAll]
  | z :: r, y :: q => by
    rw [List.map_cons, List.map_cons, PyData.eqvAll, eqvAll_strs r q, PyData.eqv]
    by_cases h1 : z = y <;> by_cases h2 : r = q <;> simp [h1, h2]
end Dl

namespace Dl
open PySem PySem.Spec PyProof.Rows L2
/-! ### the drawn names: one to three letters, and the number of the names before where it was there -/
def LT : Str := "abcdefghijklmnopqrstuvwxyz"
def isLet (c : Nat) : Prop := 97 ≤ c ∧ c ≤ 122
def dg (n : Nat) : List Nat := (Str.ofString (toString (n : Int))).cps.toList
theorem lt_facts : ∀ c ∈ LT.cps.toList, 97 ≤ c ∧ c ≤ 122 := by decide +kernel
theorem lt_len : LT.cps.toList.length = 26 := by decide +kernel
theorem dg_facts : ∀ k, k < 25 → dg k ≠ [] ∧ (dg k).length ≤ 2 ∧ ∀ c ∈ dg k, ¬ (97 ≤ c ∧ c ≤ 122) ∧ c ∈ SG.cps.toList ∧ c < 1114112 := by decide +kernel
theorem dg_inj : ∀ j, j < 25 → ∀ k, k < 25 → dg j = dg k → j = k := by decide +kernel
theorem let_sg : ∀ c, c < 123 → 97 ≤ c → c ∈ SG.cps.toList ∧ c < 1114112 := by decide +kernel
theorem sg_small' : ∀ c ∈ SG.cps.toList, c < 1114112 := by decide +kernel
theorem nil_codes : ("" : Str).cps.toList = [] := by decide +kernel
/-- the name that was drawn as number i -/
structure NameAt (i : Nat) (z : Str) : Prop where
  ex : ∃ l : List Nat, l ≠ [] ∧ l.length ≤ 3 ∧ (∀ c ∈ l, isLet c) ∧ (z.cps.toList = l ∨ z.cps.toList = l ++ dg i)
structure NamesOk (zs : List Str) : Prop where
  at_ : ∀ i z, zs[i]? = some z → NameAt i z
  nd : zs.Nodup
  few : zs.length ≤ 24
theorem codes_ext {a b : Str} (h : a.cps.toList = b.cps.toList) : a = b := by
  cases a; cases b
  congr
  exact Array.ext' h
theorem let_dg {l l' : List Nat} {j k : Nat} (hj : j < 25) (hk : k < 25) (hl : ∀ c ∈ l, isLet c) (hl' : ∀ c ∈ l', isLet c) (h : l' ++ dg j = l ++ dg k) : j = k := by
  have tw : ∀ (m d : List Nat), (∀ c ∈ m, isLet c) → (∀ c ∈ d, ¬ isLet c) → (m ++ d).dropWhile (fun c => decide (97 ≤ c ∧ c ≤ 122)) = d := by
    intro m
    induction m with
    | nil =>
      intro d _ hd
      cases d with
      | nil => rfl
      | cons a r =>
        have q : ¬ (97 ≤ a ∧ a ≤ 122) := hd a (List.mem_cons_self ..)
        simp only [List.nil_append, List.dropWhile]
        rw [decide_eq_false q]
    | cons a r ih =>
      intro d hm hd
      have q : 97 ≤ a ∧ a ≤ 122 := hm a (List.mem_cons_self ..)
      rw [List.cons_append, List.dropWhile, decide_eq_true q]
      exact ih d (fun c hc => hm c (List.mem_cons_of_mem _ hc)) hd
  have e := congrArg (List.dropWhile fun c => decide (97 ≤ c ∧ c ≤ 122)) h
  rw [tw l' (dg j) hl' fun c hc => ((dg_facts j hj).2.2 c hc).1, tw l (dg k) hl fun c hc => ((dg_facts k hk).2.2 c hc).1] at e
  exact dg_inj j hj k hk e
theorem fresh_tail {zs : List Str} {l : List Nat} {z : Str} (ok : NamesOk zs) (h23 : zs.length ≤ 23) (hl : ∀ c ∈ l, isLet c) (hz : z.cps.toList = l ++ dg zs.length) : z ∉ zs := by
  intro hm
  obtain ⟨i, hi⟩ := List.getElem?_of_mem hm
  have hlt : i < zs.length := (List.getElem?_eq_some_iff.mp hi).1
  obtain ⟨l', _, _, hl', e⟩ := (ok.at_ i z hi).ex
  rcases e with e | e
  · rw [hz] at e
    have d := dg_facts zs.length (by omega)
    cases hd : dg zs.length with
    | nil => exact d.1 hd
    | cons c r =>
      have m1 : c ∈ l' := by rw [← e, hd]; simp
      have m2 : c ∈ dg zs.length := by rw [hd]; simp
      exact (d.2.2 c m2).1 (hl' c m1)
  · rw [hz] at e
    have := let_dg (by omega) (by omega) hl hl' e.symm
    omega
theorem NameAt.sg {i : Nat} {z : Str} (h : NameAt i z) (hi : i < 25) : (∀ c ∈ z.cps.toList, c ∈ SG.cps.toList) ∧ 1 ≤ z.length ∧ z.length ≤ 5 := by
  obtain ⟨l, h1, h2, h3, h4⟩ := h.ex
  have zl : z.length = z.cps.toList.length := by simp [Str.length]
  have l1 : 1 ≤ l.length := by cases l with | nil => exact absurd rfl h1 | cons _ _ => simp
  have d := dg_facts i hi
  rcases h4 with e | e
  · refine ⟨fun c hc => ?_, by rw [zl, e]; exact l1, by rw [zl, e]; omega⟩
    rw [e] at hc
    exact (let_sg c (by have := (h3 c hc).2; omega) (h3 c hc).1).1
  · refine ⟨fun c hc => ?_, by rw [zl, e, List.length_append]; omega, by rw [zl, e, List.length_append]; omega⟩
    rw [e] at hc
    rcases List.mem_append.mp hc with hc | hc
    · exact (let_sg c (by have := (h3 c hc).2; omega) (h3 c hc).1).1
    · exact (d.2.2 c hc).2.1
theorem NameAt.valid {i : Nat} {z : Str} (h : NameAt i z) (hi : i < 25) : validN z = true := by
  obtain ⟨h1, h2, h3⟩ := h.sg hi
  unfold validN
  rw [decide_eq_true h2, decide_eq_true (show z.length ≤ 12 by omega), List.all_eq_true.mpr fun c hc => decide_eq_true (h1 c hc)]
  rfl
theorem NamesOk.valid {zs : List Str} (ok : NamesOk zs) {z : Str} (hz : z ∈ zs) : validN z = true := by
  obtain ⟨i, hi⟩ := List.getElem?_of_mem hz
  have hlt : i < zs.length := (List.getElem?_eq_some_iff.mp hi).1
  exact (ok.at_ i z hi).valid (by have := ok.few; omega)
theorem valid_small {z : Str} (h : validN z = true) : z.length ≤ 12 ∧ (∀ c ∈ z.cps.toList, c < 1114112) := by
  unfold validN at h
  simp only [Bool.and_eq_true, decide_eq_true_eq] at h
  exact ⟨h.2.1, fun c hc => sg_small' c (of_decide_eq_true (List.all_eq_true.mp h.2.2 c hc))⟩
/-- everything but the bag at b stands -/
def SameB (b : Addr) (H H' : Hp) : Prop := ∀ c o, c ≠ b → H c = some o → H' c = some o
theorem SameB.refl (b : Addr) (H : Hp) : SameB b H H := fun _ _ _ h => h
theorem SameB.trans {b : Addr} {H H1 H2 : Hp} (s : SameB b H H1) (t : SameB b H1 H2) : SameB b H H2 := fun c o n h => t c o n (s c o n h)
theorem SameB.upd {b : Addr} {H : Hp} {o : HO} : SameB b H (upd H b o) := fun c u n h => by rw [upd_ne n]; exact h
theorem SameB.of {b : Addr} {H H' : Hp} (s : Same H H') : SameB b H H' := fun c o _ h => s c o h
theorem SameB.free {b : Addr} {H H' : Hp} (s : SameB b H H') {c : Addr} (n : c ≠ b) (h : H' c = none) : H c = none := by
  cases e : H c with
  | none => rfl
  | some o => rw [s c o n e] at h; cases h
theorem upd_none {H : Hp} {b c : Addr} {o : HO} (h : upd H b o c = none) : H c = none ∧ c ≠ b := by
  by_cases e : c = b
  · subst e; rw [upd_same] at h; cases h
  · rw [upd_ne e] at h; exact ⟨h, e⟩
structure TxtM (mg : Str → Option Value) : Prop where
  range : mg "range" = none
  len : mg "len" = none
  str : mg "str" = none
def spName : Sp := fun vs H Q _ => ∃ (b u : Addr) (L : List Int) (zs : List Str), vs = [.ref b, .ref u] ∧ H b = some (.lst (L.map V.int)) ∧ BagOk L ∧ u ≠ b ∧ H u = some (.lst (zs.map V.str)) ∧ NamesOk zs ∧ zs.length ≤ 23 ∧
  ∀ (L' : List Int) (z : Str), BagOk L' → NameAt zs.length z → z ∉ zs → Q (.str z) (upd H b (.lst (L'.map V.int)))
def spNames : Sp := fun vs H Q _ => ∃ (b : Addr) (L : List Int) (n : Int), vs = [.ref b, .int n] ∧ H b = some (.lst (L.map V.int)) ∧ BagOk L ∧ 0 ≤ n ∧ n ≤ 24 ∧
  ∀ (H' : Hp) (u : Addr) (L' : List Int) (zs : List Str), SameB b H H' → H u = none → H' u = some (.lst (zs.map V.str)) → H' b = some (.lst (L'.map V.int)) → BagOk L' → NamesOk zs → zs.length = n.toNat → Q (.ref u) H'
theorem cat_codes (a b : Str) : (a ++ b).cps.toList = a.cps.toList ++ b.cps.toList := by
  show (a.cps ++ b.cps).toList = _
  simp
theorem cat_len (a b : Str) : (a ++ b).length = a.length + b.length := by
  show (a.cps ++ b.cps).size = _
  rw [Array.size_append]
  rfl
section
variable {P : Program} {w : World} {K : PySem.W.Frag} {mg : Str → Option Value} {base : Heap}
theorem scName : FnScope ["_law_bag_here", "_law_used", "_law_letters", "_law_name_here", "_law_k"] ["_law_bag_here", "_law_used"] (defScope sLawName) := ⟨rfl, rfl, rfl, by decide +kernel, rfl, by decide +kernel, by decide +kernel⟩
theorem ok_name {f : Addr} {fd : FuncData} (F : Fun K "_law_name" "_law_name" sLawName f fd) (T : TxtM mg) (gT : Dfn P w K mg base CX0 1 "_law_take" ["_law_bag_here", "_law_size"] spTake) :
    FnOk P w K mg base CX0 2 f fd ["_law_bag_here", "_law_used"] spName := by
  obtain ⟨fT, dT, mT, kT, bT, GT⟩ := gT
  refine F.ok scName (fun vs H Q E h => ?_) (fun cdv A outer s H vs Q E hr h => ?_)
  · obtain ⟨a, u, L, zs, rfl, _⟩ := h
    rfl
  · obtain ⟨b, u, L, zs, rfl, hb, hok, hub, hu, ok, hlen, k⟩ := h
    have hr1 : Room 1 _ := hr
    refine ⟨_, (pss_cons (ps_set (i := 2) scName.nd rfl (Or.inl rfl) pe_str)
        (pss_cons (ps_set (i := 3) scName.nd rfl (Or.inl rfl) pe_str)
        (pss_cons (ps_for PassesOwn.never rfl (pi_range1 (by rfl) T.range (pa_cons (pe_op op_add pe_int (pe_call GT hr1 (by rfl) mT kT bT .nil pass0 (pa_cons (pv 0) (pa_cons pe_int pa_nil)))) pa_nil)) (pg_name (i := 4) scName.nd rfl (Or.inl rfl)) (pss_one (ps_set (i := 3) scName.nd rfl (Or.inl rfl) (pe_op op_add_str (pv 3) (pe_ix ix_str (pv 2) (pe_call GT hr1 (by rfl) mT kT bT .nil pass0 (pa_cons (pv 0) (pa_cons pe_int pa_nil))) (fun _ _ => rfl))))))
        (pss_cons (ps_if (pt_cmpR op_in_seq (pv 3) (pv 1) (by rfl)) (pss_one (ps_set (i := 3) scName.nd rfl (Or.inl rfl) (pe_op op_add_str (pv 3) (pe_callTy call_str_int (by rfl) T.str (by decide +kernel) (pa_cons (pe_callB call_len_seq (by rfl) T.len PySem.boot_len (pa_cons (pv 1) pa_nil)) pa_nil))))) pss_nil)
        (pss_one (ps_ret (pv 3))))))), ?_⟩
    refine ⟨_, rfl, b, L, 3, rfl, hb, hok, by decide, by decide, fun L1 r ok1 r0 r1 => ⟨_, _, rfl, rfl, _, rfl, by omega, by omega, for_range (n := (1 + r).toNat) (lo := 0)
      (fun i σ H' => ∃ (z : Str) (x : Option V) (L2 : List Int), σ = [some (.ref b), some (.ref u), some (.str LT), some (.str z), x] ∧ H' = upd H b (.lst (L2.map V.int)) ∧ BagOk L2 ∧ z.cps.toList.length = i ∧ ∀ c ∈ z.cps.toList, isLet c)
      ⟨_, none, L1, rfl, rfl, ok1, by decide +kernel, fun c hc => absurd hc (by rw [nil_codes]; exact List.not_mem_nil)⟩ ?_ ?_⟩⟩
    · rintro i σ H2 hi ⟨z, x, L2, rfl, rfl, ok2, hz, hzc⟩
      refine ⟨_, rfl, _, rfl, _, rfl, b, L2, 26, rfl, upd_same, ok2, by decide, by decide, fun L3 q ok3 q0 q1 => ?_⟩
      have hq3 : q.toNat < LT.cps.toList.length := by rw [lt_len]; omega
      refine ⟨LT, q, LT.cps.toList[q.toNat], rfl, rfl, by decide +kernel, ?_, ?_⟩
      · have e := atI_nat (xs := LT.cps.toList) (j := q.toNat) (List.getElem?_eq_getElem hq3)
        rw [Int.toNat_of_nonneg q0] at e
        exact e
      · have ez : z.length = i := hz
        refine ⟨z, _, rfl, rfl, ?_, ?_⟩
        · rw [ez]
          exact Nat.le_of_lt (small1000 (by show i + 1 ≤ 1000; omega))
        · refine ⟨_, _, L3, rfl, upd_upd, ok3, ?_, ?_⟩
          · rw [cat_codes, List.length_append, hz]
            rfl
          · intro c hc
            rw [cat_codes] at hc
            rcases List.mem_append.mp hc with h | h
            · exact hzc c h
            · obtain rfl : c = LT.cps.toList[q.toNat] := by simpa using h
              exact lt_facts _ (List.getElem_mem hq3)
    · rintro σ H2 ⟨z, x, L2, rfl, rfl, ok2, hz, hzc⟩
      have zl : z.length = (1 + r).toNat := hz
      have hne : z.cps.toList ≠ [] := by
        intro e
        rw [e] at hz
        simp at hz
        omega
      have at0 : NameAt zs.length z := ⟨z.cps.toList, hne, by omega, hzc, .inl rfl⟩
      refine ⟨_, rfl, _, rfl, u, _, rfl, .inl (SqL.of (by rw [upd_ne hub]; exact hu)), rfl, flat_strs zs, _, rfl, ?_⟩
      show if (inV (.str z) (zs.map V.str)) = true then _ else _
      rw [inV_str]
      by_cases hm : z ∈ zs
      · rw [decide_eq_true hm]
        refine iteT ⟨_, rfl, _, rfl, u, _, rfl, .inl (SqL.of (by rw [upd_ne hub]; exact hu)), _, rfl, ?_, z, _, rfl, rfl, ?_, _, rfl, ?_⟩
        · rw [List.length_map]
          have : ((zs.length : Nat) : Int).natAbs = zs.length := by simp
          rw [this]
          exact Nat.lt_of_le_of_lt (Nat.log2_le_self _) (by omega)
        · have d := (dg_facts zs.length (by omega)).2.1
          have e : (Str.ofString (toString ((((zs.map V.str).length : Nat) : Int)))).length = (dg zs.length).length := by
            rw [List.length_map]
            simp [dg, Str.length]
          show z.length + (Str.ofString (toString ((((zs.map V.str).length : Nat) : Int)))).length ≤ sizeLine
          rw [e, zl]
          exact Nat.le_of_lt (small1000 (by omega))
        · have ez : (z ++ (Str.ofString (toString ((((zs.map V.str).length : Nat) : Int))))).cps.toList = z.cps.toList ++ dg zs.length := by
            rw [cat_codes, List.length_map]
            rfl
          exact k L2 _ ok2 ⟨z.cps.toList, hne, by omega, hzc, .inr ez⟩ (fresh_tail ok hlen hzc ez)
      · rw [decide_eq_false hm]
        exact iteF ⟨_, rfl, k L2 z ok2 at0 hm⟩
theorem scNames : FnScope ["_law_bag_here", "_law_count", "_law_names_here", "_law_k"] ["_law_bag_here", "_law_count"] (defScope sLawNames) := ⟨rfl, rfl, rfl, by decide +kernel, rfl, by decide +kernel, by decide +kernel⟩
theorem ok_names {f : Addr} {fd : FuncData} (F : Fun K "_law_names" "_law_names" sLawNames f fd) (T : TxtM mg) (gN : Dfn P w K mg base CX0 2 "_law_name" ["_law_bag_here", "_law_used"] spName) :
    FnOk P w K mg base CX0 3 f fd ["_law_bag_here", "_law_count"] spNames := by
  obtain ⟨fNm, dNm, mNm, kNm, bNm, GNm⟩ := gN
  refine F.ok scNames (fun vs H Q E h => ?_) (fun cdv A outer s H vs Q E hr h => ?_)
  · obtain ⟨a, L, n, rfl, _⟩ := h
    rfl
  · obtain ⟨b, L, n, rfl, hb, hok, hn0, hn1, k⟩ := h
    have hr2 : Room 2 _ := hr
    refine ⟨_, (pss_cons (ps_set (i := 2) scNames.nd rfl (Or.inl rfl) (pe_lst pa_nil))
        (pss_cons (ps_for PassesOwn.never rfl (pi_range1 (by rfl) T.range (pa_cons (pv 1) pa_nil)) (pg_name (i := 3) scNames.nd rfl (Or.inl rfl)) (pss_one (ps_expr (pe_bm PySem.F.plainAttrs_list PySem.F.slot_list_append PySem.F.type_list_append mt_append (pv 2) (pa_cons (pe_call GNm hr2 (by rfl) mNm kNm bNm .nil pass0 (pa_cons (pv 0) (pa_cons (pv 2) pa_nil))) pa_nil)))))
        (pss_one (ps_ret (pv 2))))), ?_⟩
    refine ⟨Nat.zero_le _, fun u hu => ?_⟩
    have nub : u ≠ b := fun e => by rw [e, hb] at hu; cases hu
    refine ⟨_, rfl, _, rfl, by omega, by omega, for_range (n := n.toNat) (lo := 0)
      (fun i σ H' => ∃ (zs : List Str) (x : Option V) (L2 : List Int), σ = [some (.ref b), some (.int n), some (.ref u), x] ∧ SameB b H H' ∧ H' b = some (.lst (L2.map V.int)) ∧ BagOk L2 ∧ H' u = some (.lst (zs.map V.str)) ∧ NamesOk zs ∧ zs.length = i)
      ⟨[], none, L, rfl, SameB.of (Same.upd_new hu), by rw [upd_ne nub.symm]; exact hb, hok, upd_same, ⟨fun i z h => by simp at h, by simp, by simp⟩, rfl⟩ ?_ ?_⟩
    · rintro i σ H2 hi ⟨zs, x, L2, rfl, s2, hb2, ok2, hu2, okz, hz⟩
      refine ⟨_, rfl, .inl ⟨rfl, _, SqL.of hu2⟩, _, rfl, _, rfl, b, u, L2, zs, rfl, hb2, ok2, nub, hu2, okz, by omega, fun L3 z ok3 hat hnz => ?_⟩
      refine ⟨u, _, _, rfl, rfl, by rw [upd_ne nub]; exact hu2, ?_, ?_⟩
      · rw [List.length_map]
        exact small1000 (by omega)
      · refine ⟨zs ++ [z], _, L3, rfl, fun c o n h => ?_, ?_, ok3, ?_, ⟨fun j y h => ?_, ?_, ?_⟩, ?_⟩
        · have ncu : c ≠ u := ne_of_none h hu
          rw [upd_ne ncu, upd_ne n]
          exact s2 c o n h
        · rw [upd_ne nub.symm, upd_same]
        · rw [upd_same, List.map_append]
          rfl
        · by_cases hj : j < zs.length
          · rw [List.getElem?_append_left hj] at h
            exact okz.at_ j y h
          · rw [List.getElem?_append_right (by omega)] at h
            have hj0 : j - zs.length = 0 := by
              have := (List.getElem?_eq_some_iff.mp h).1
              simp at this
              omega
            rw [hj0] at h
            obtain rfl : z = y := by simpa using h
            have : j = zs.length := by omega
            rw [this]
            exact hat
        · rw [List.nodup_append]
          refine ⟨okz.nd, by simp, fun a ha c hc => ?_⟩
          obtain rfl := List.mem_singleton.mp hc
          exact fun e => hnz (e ▸ ha)
        · rw [List.length_append]
          simp
          omega
        · rw [List.length_append, hz]
          rfl
    · rintro σ H2 ⟨zs, x, L2, rfl, s2, hb2, ok2, hu2, okz, hz⟩
      exact ⟨_, rfl, k H2 u L2 zs s2 hu hu2 hb2 ok2 okz hz⟩
end
end Dl

namespace Dl
open PySem PySem.Spec PyProof.Rows L2
/-! ### texts: what is a valid name -/
theorem len_pos {z : Str} (h : ¬ z = ("" : Str)) : 1 ≤ z.length := by
  have e0 : ("" : Str) = ⟨#[]⟩ := by decide +kernel
  cases z with
  | mk cps =>
    by_cases q : cps.size = 0
    · exfalso
      apply h
      rw [e0, Array.eq_empty_of_size_eq_zero q]
    · show 1 ≤ cps.size
      omega
theorem valid_of {z : Str} (h1 : 1 ≤ z.length) (h : ∀ c ∈ z.cps.toList, c ∈ SG.cps.toList) : validN z = decide (z.length ≤ 12) := by
  unfold validN
  rw [decide_eq_true h1, List.all_eq_true.mpr fun c hc => decide_eq_true (h c hc)]
  simp
theorem invalid_of {z : Str} {c : Nat} (hc : c ∈ z.cps.toList) (h : c ∉ SG.cps.toList) : validN z = false := by
  unfold validN
  have q : (z.cps.toList.all fun c => decide (c ∈ SG.cps.toList)) = false := by
    rw [List.all_eq_false]
    exact ⟨c, hc, by simpa using h⟩
  rw [q]
  simp
end Dl

namespace Dl
open PySem PySem.Spec PyProof.Rows L2
/-! ### names and texts as data -/
def canS (z : Str) : Prop := PyData.canLay0 (.str z) = true
theorem can_of {z : Str} (h : ∀ c ∈ z.cps.toList, c < 1114112) : canS z := by
  unfold canS PyData.canLay0 PyData.strOk
  rw [Array.all_eq_true]
  intro i hi
  exact decide_eq_true (h _ (by simp))
/-- a value that is passed as a name, as data -/
def NmD (H : Hp) : V → Prop
  | .str z => canS z ∧ z.length ≤ 1000
  | .int _ => True
  | .non => True
  | .ref p => ∃ zs : List Str, H p = some (.lst (zs.map V.str)) ∧ ∀ z ∈ zs, canS z
  | _ => False
theorem NmD.ok {H : Hp} {v : V} (h : NmD H v) : NmOk H v := by
  cases v with
  | str z => exact Nat.le_of_lt (small1000 h.2)
  | int i => trivial
  | non => trivial
  | ref p => obtain ⟨zs, e, _⟩ := h; exact ⟨_, e⟩
  | bl _ => exact h.elim
  | byt _ => exact h.elim
  | flt _ => exact h.elim
  | ty _ => exact h.elim
theorem NmD.of {H H' : Hp} {v : V} (s : Same H H') (h : NmD H v) : NmD H' v := by
  cases v with
  | str z => exact h
  | int i => trivial
  | non => trivial
  | ref p => obtain ⟨zs, e, q⟩ := h; exact ⟨zs, s _ _ e, q⟩
  | bl _ => exact h.elim
  | byt _ => exact h.elim
  | flt _ => exact h.elim
  | ty _ => exact h.elim
theorem any_str (es : List Str) (y : Str) : (es.map PyData.str).any (fun z => PyData.eqv z (.str y)) = decide (y ∈ es) := by
  rw [List.any_map]
  induction es with
  | nil => simp
  | cons a r ih =>
    rw [List.any_cons, ih]
    show (PyData.eqv (.str a) (.str y) || decide (y ∈ r)) = _
    rw [PyData.eqv]
    by_cases h : a = y
    · subst h; simp
    · have h2 : ¬ y = a := fun q => h q.symm
      simp [h, h2]
theorem any_no (es : List Str) {d : PyData} (h : ∀ z : Str, PyData.eqv (.str z) d = false) : (es.map PyData.str).any (fun z => PyData.eqv z d) = false := by
  rw [List.any_map, List.any_eq_false]
  intro z _
  show ¬ PyData.eqv (.str z) d = true
  rw [h z]
  decide
/-- the data of a name -/
theorem NmD.dat (K : PySem.W.Frag) {H : Hp} {v : V} (h : NmD H v) : ∃ d, Dp K H v d ∧ PyData.canLay0 d = true ∧ d.depth ≤ 1 ∧ ∀ es : List Str, (es.map PyData.str).any (fun z => PyData.eqv z d) = knows v es := by
  cases v with
  | str z => exact ⟨.str z, .str z, h.1, by simp [PyData.depth], fun es => any_str es z⟩
  | int i => exact ⟨.int i, .int i, by simp [PyData.canLay0], by simp [PyData.depth], fun es => any_no es fun z => by rw [PyData.eqv]⟩
  | non => exact ⟨.none, .non, by simp [PyData.canLay0], by simp [PyData.depth], fun es => any_no es fun z => by rw [PyData.eqv]⟩
  | ref p =>
    obtain ⟨zs, e, q⟩ := h
    refine ⟨.list (zs.map PyData.str), .lst (SqL.of e) (dpAll_strs zs), ?_, ?_, fun es => any_no es fun z => by rw [PyData.eqv]⟩
    · rw [PyData.canLay0]; exact canAll_strs q
    · rw [PyData.depth, depthAll_strs]; decide
  | bl _ => exact h.elim
  | byt _ => exact h.elim
  | flt _ => exact h.elim
  | ty _ => exact h.elim
theorem shaped_of {d : PyData} (h : PyData.canLay0 d = true) (h2 : d.depth ≤ 1) : SeqAt.shaped d = true := by
  unfold SeqAt.shaped
  rw [h, Bool.true_and]
  exact decide_eq_true (by omega)
theorem room65 {k : Nat} {A : Around} (r : Room k A) : A.units + 65 < cLine := by
  have := r.un
  omega
theorem valid_can {z : Str} (h : validN z = true) : canS z := can_of (valid_small h).2
end Dl

namespace Dl
open PySem PySem.Spec PyProof.Rows L2
theorem int_nd {i j : Int} (h : i ≠ j) : decide (V.int i = V.int j) = false := decide_eq_false fun q => h (V.int.inj q)
theorem int_yd {i : Int} : decide (V.int i = V.int i) = true := decide_eq_true rfl
theorem iteY {c : Bool} {A B : Prop} (e : c = true) (h : A) : if c = true then A else B := by rw [if_pos e]; exact h
theorem iteZ {c : Bool} {A B : Prop} (e : c = false) (h : B) : if c = true then A else B := by rw [if_neg (by rw [e]; decide)]; exact h
end Dl

namespace Dl
open PySem PySem.Spec PyProof.Rows L2
/-! ### Notes(*pairs) -/
/-- a pair as it is passed -/
structure PairIn where
  t : Addr
  b : V
  a : V
structure PairOk (K : PySem.W.Frag) (H : Hp) (r : PairIn) : Prop where
  pair : SqT K H r.t [r.b, r.a]
  nb : NmOk H r.b
  na : NmOk H r.a
theorem PairOk.of {K : PySem.W.Frag} {H H' : Hp} {r : PairIn} (s : Same H H') (h : PairOk K H r) : PairOk K H' r := ⟨Same.tup s h.pair, h.nb.of s, h.na.of s⟩
inductive NErr where
  | inv (v : V)
  | note (b a : V)
def PairIn.dat (r : PairIn) : V × V := (r.b, r.a)
def pRefs (rs : List PairIn) : List V := rs.map fun r => V.ref r.t
def pKeys (ps : List (V × V)) : List (List Str) := ps.map fun p => [strOf p.1, strOf p.2]
/-- what the check in order finds -/
def chkPs : List (V × V) → Option NErr
  | [] => none
  | (b, a) :: r => if isNm b = false then some (.inv b) else if isNm a = false then some (.inv a) else if b = a then some (.note b a) else chkPs r
def OutF (CI CE : Addr) (H : Hp) (E : XK) : NErr → Prop
  | .inv v => Out1 CI "name" v H E
  | .note b a => OutN CE b a H E
theorem OutF.of {CI CE : Addr} {H H1 : Hp} {E : XK} {e : NErr} (s : Same H H1) (h : OutF CI CE H E e) : OutF CI CE H1 E e := by
  cases e with
  | inv v => exact Out1.of s h
  | note b a => exact OutN.of s h
/-- the object's parts: sorted, each once -/
structure NotesAt (K : PySem.W.Frag) (CN : Addr) (H : Hp) (p : Addr) (ks : List (List Str)) : Prop where
  ex : ∃ (dx tp : Addr) (L : Keyed), H p = some (.ins CN dx [("pairs", .ref tp)]) ∧ H tp = some (.tup (L.map fun q => V.ref q.1)) ∧ L.map (·.2) = ks ∧ ∀ q ∈ L, SqT K H q.1 (q.2.map V.str)
theorem NotesAt.of {K : PySem.W.Frag} {CN : Addr} {H H' : Hp} {p : Addr} {ks : List (List Str)} (s : Same H H') (h : NotesAt K CN H p ks) : NotesAt K CN H' p ks := by
  obtain ⟨dx, tp, L, h1, h2, h3, h4⟩ := h.ex
  exact ⟨dx, tp, L, s _ _ h1, s _ _ h2, h3, fun q hq => Same.tup s (h4 q hq)⟩
structure TxtNotes (K : PySem.W.Frag) (mg : Str → Option Value) (CN : Addr) : Prop where
  cl : Cls K CN
  nP : NoAttr K CN "pairs"
  tup : mg "tuple" = none
  sor : mg "sorted" = none
  set_ : mg "set" = none
def spNotes (K : PySem.W.Frag) (CN CI CE : Addr) : Sp := fun vs H Q E => ∃ (H0 : Hp) (p dx tp : Addr) (rs : List PairIn), vs = [.ref p, .ref tp] ∧ Same H0 H ∧ H0 p = none ∧ H p = some (.ins CN dx []) ∧ SqT K H tp (pRefs rs) ∧ tp ≠ p ∧ (∀ r ∈ rs, PairOk K H0 r) ∧ rs.length < 64 ∧
  (chkPs (rs.map PairIn.dat) = none → ∀ H', Same H0 H' → NotesAt K CN H' p (normK (pKeys (rs.map PairIn.dat))) → Q .non H') ∧ ∀ e, chkPs (rs.map PairIn.dat) = some e → OutF CI CE H0 E e
theorem chkPs_strs : ∀ {ps : List (V × V)}, chkPs ps = none → ∀ p ∈ ps, p.1 = .str (strOf p.1) ∧ p.2 = .str (strOf p.2)
  | [], _, _, h => absurd h (by simp)
  | (b, a) :: r, e, p, h => by
    unfold chkPs at e
    by_cases h1 : isNm b = false
    · rw [if_pos h1] at e; cases e
    rw [if_neg h1] at e
    by_cases h2 : isNm a = false
    · rw [if_pos h2] at e; cases e
    rw [if_neg h2] at e
    by_cases h3 : b = a
    · rw [if_pos h3] at e; cases e
    rw [if_neg h3] at e
    rcases List.mem_cons.mp h with rfl | h
    · obtain ⟨z, rfl, _⟩ := isNm_str (by simpa using h1 : isNm b = true)
      obtain ⟨y, rfl, _⟩ := isNm_str (by simpa using h2 : isNm a = true)
      exact ⟨rfl, rfl⟩
    · exact chkPs_strs e p h
theorem scNotes : FnScope ["self", "pairs", "before", "after"] ["self", "pairs"] (defScope sNotesInit) := ⟨rfl, rfl, rfl, by decide +kernel, rfl, by decide +kernel, by decide +kernel⟩
section
variable {P : Program} {w : World} {K : PySem.W.Frag} {mg : Str → Option Value} {base : Heap} {CN CI CE : Addr}
theorem ok_notes {f : Addr} {fd : FuncData} (F : Fun K "__init__" "Notes.__init__" sNotesInit f fd) (T : TxtNotes K mg CN) (gN : Dfn P w K mg base (L2.CX P w) 3 "check_name" ["name"] (spCheckName CI)) (xE : NoteX P w K mg base CE) :
    FnR P w K mg base (L2.CX P w) 6 f (fun vs H Q E => ∃ ws rest, vs = ws ++ rest ∧ ws.length = 1 ∧ rest.length ≤ sizeLine ∧ ∀ p, H p = Option.none → spNotes K CN CI CE (ws ++ [V.ref p]) (upd H p (.tup rest)) Q E) := by
  obtain ⟨oc, od, kV, doc, pm, an, cdv, ct, osl, rfl, lk, hcd⟩ := F.ex
  obtain ⟨fN, dN, mN, kN, bN, GN⟩ := gN
  obtain ⟨fI, dI, TI, bI, GI⟩ := xE
  refine StX.fn_star (k := 5) (ps := ["self"]) (pv := "pairs") lk hcd scNotes StX.cxUp (StX.bind_star1 (B := fun us => bindArgs _ ⟨us, []⟩) (fun _ => by rfl) (fun _ _ _ => by rfl)) (fun A outer s H vs Q E hr h => ?_)
  obtain ⟨H0, p, dx, tp, rs, rfl, s0, hp0, hp, htp, ntp, ok, few, k, kx⟩ := h
  have hr3 : Room 3 _ := hr.mono (by decide)
  have hr2 : Room 2 _ := hr.mono (by decide)
  have r64 := Nat.lt_of_succ_lt (room65 hr)
  refine ⟨_, pss_cons (ps_for (passes_of rfl) rfl (pi_tup (pv 1)) (pg_tup rfl (pgs_cons (pg_name (i := 2) scNotes.nd rfl (Or.inl rfl)) (pgs_cons (pg_name (i := 3) scNotes.nd rfl (Or.inl rfl)) pgs_nil)))
      (pss_cons (ps_expr (pe_call GN hr3 (by rfl) mN kN bN .nil (passes_call (takes_of rfl rfl rfl rfl) (fun _ _ _ _ h => h)) (pa_cons (pv 2) pa_nil)))
      (pss_cons (ps_expr (pe_call GN hr3 (by rfl) mN kN bN .nil (passes_call (takes_of rfl rfl rfl rfl) (fun _ _ _ _ h => h)) (pa_cons (pv 3) pa_nil)))
      (pss_one (ps_if (pt_cmpR op_eq (pv 2) (pv 3) (nomark _))
        (pss_one (ps_raise rfl (takes_of rfl rfl rfl rfl) (pmk_oex TI.oex TI.iC TI.tI GI hr2 bI .nil pass0 (by rfl) TI.gC (pa_cons (pv 2) (pa_cons (pv 3) pa_nil))))) pss_nil)))))
    (pss_one (ps_fld (pv 0) (pe_callTy call_tuple_of (by rfl) T.tup (by decide +kernel) (pa_cons (pe_callB (cr_sortTx rfl r64) (by rfl) T.sor (by decide +kernel) (pa_cons (pe_callTy (cr_setTx rfl r64) (by rfl) T.set_ (by decide +kernel) (pa_cons (pv 1) pa_nil)) pa_nil)) pa_nil)) rfl)), ?_⟩
  have keep0 : ∀ {Hx : Hp} {o : HO}, Same H0 Hx → Same H0 (upd Hx p o) := fun {Hx o} s b u e => by
    rw [upd_ne (ne_of_none e hp0)]; exact s _ _ e
  refine ⟨_, rfl, tp, rfl, ⟨_, htp⟩, for_it (walk_tup (K := K) (a := tp) (xs := pRefs rs)) (fun i σ H' => ∃ (x y : Option V), σ = [some (.ref p), some (.ref tp), x, y] ∧ Same H H' ∧ chkPs ((rs.map PairIn.dat).drop i) = chkPs (rs.map PairIn.dat)) ⟨none, none, rfl, Same.refl _, rfl⟩ (fun i σ H' _ ⟨_, _, _, s, _⟩ => Same.tup s htp) ?_ ?_⟩
  · rintro i v σ H2 H3 hi ⟨x, y, rfl, s2, hc⟩ ⟨rfl, hv⟩
    have hi' : i < rs.length := by unfold pRefs at hi; rw [List.length_map] at hi; exact hi
    have hv2 : (pRefs rs)[i]? = some v := hv
    unfold pRefs at hv2
    rw [List.getElem?_map, List.getElem?_eq_getElem hi'] at hv2
    obtain rfl := Option.some.inj hv2
    have R := ok _ (List.getElem_mem hi')
    have s02 := s0.trans s2
    have R2 := R.of s02
    rw [List.drop_eq_getElem_cons (by rw [List.length_map]; exact hi'), List.getElem_map] at hc
    generalize rs[i] = r at *
    have hc1 : (if isNm r.b = false then some (NErr.inv r.b) else if isNm r.a = false then some (.inv r.a) else if r.b = r.a then some (.note r.b r.a) else chkPs ((rs.map PairIn.dat).drop (i + 1))) = chkPs (rs.map PairIn.dat) := hc
    clear hc
    refine ⟨r.t, _, rfl, R2.pair, rfl, _, _, rfl, _, _, rfl, rfl, ?_⟩
    refine ⟨_, rfl, r.b, rfl, R2.nb, fun H4 s4 hb => ?_, fun hb => Out1.of s02 (kx (.inv r.b) (by rw [← hc1, if_pos hb]))⟩
    rw [if_neg (by rw [hb]; decide)] at hc1
    refine ⟨_, rfl, r.a, rfl, R2.na.of s4, fun H5 s5 ha => ?_, fun ha => Out1.of (s02.trans s4) (kx (.inv r.a) (by rw [← hc1, if_pos ha]))⟩
    rw [if_neg (by rw [ha]; decide)] at hc1
    obtain ⟨z, ez, _⟩ := isNm_str hb
    obtain ⟨q, eq, _⟩ := isNm_str ha
    refine ⟨_, rfl, _, rfl, by rw [ez, eq]; rfl, _, rfl, ?_⟩
    by_cases same : r.b = r.a
    · refine iteY (decide_eq_true same) ?_
      exact ⟨_, rfl, _, rfl, raise_endN (OutN.of (s02.trans (s4.trans s5)) (kx (.note r.b r.a) (by rw [← hc1, if_pos same])))⟩
    · refine iteZ (decide_eq_false same) ?_
      exact ⟨_, _, rfl, s2.trans (s4.trans s5), by rw [if_neg same] at hc1; exact hc1⟩
  · rintro σ H2 ⟨x, y, rfl, s2, hc⟩
    have hn : chkPs (rs.map PairIn.dat) = none := by
      rw [← hc, List.drop_eq_nil_of_le (by unfold pRefs; simp)]
      rfl
    have stx := chkPs_strs hn
    let ks : Keyed := rs.map fun r => (r.t, [strOf r.b, strOf r.a])
    have kref : ks.map (fun q => V.ref q.1) = pRefs rs := by unfold pRefs; rw [List.map_map]; rfl
    have kkey : ks.map (·.2) = pKeys (rs.map PairIn.dat) := by unfold pKeys; rw [List.map_map, List.map_map]; rfl
    have klen : ks.length = rs.length := List.length_map _
    have s02 := s0.trans s2
    have ktxt : ∀ q ∈ ks, SqT K H2 q.1 (q.2.map V.str) := fun q hq => by
      obtain ⟨r, hr', rfl⟩ := List.mem_map.mp hq
      obtain ⟨e1, e2⟩ := stx r.dat (List.mem_map_of_mem hr')
      have g := ((ok r hr').of s02).pair
      have e1' : r.b = .str (strOf r.b) := e1
      have e2' : r.a = .str (strOf r.a) := e2
      rw [e1', e2'] at g
      exact g
    refine ⟨_, rfl, tp, ks, rfl, .inr (by rw [kref]; exact Same.tup s2 htp), ktxt, by rw [klen]; exact few, fun S L hS sub all once => ?_⟩
    dsimp only [cxOf]
    have u1 := Same.upd_new hS (o := SetTx P w S L)
    have ltxt : ∀ q ∈ L, SqT K (upd H2 S (SetTx P w S L)) q.1 (q.2.map V.str) := fun q hq => Same.tup u1 (ktxt q (sub q hq))
    refine ⟨S, L, rfl, upd_same, ltxt, fun q hq => ?_, fun L' l perm keys few' hl => ?_⟩
    · obtain ⟨r, _, e⟩ := List.mem_map.mp (sub q hq)
      rw [← e]
      exact List.cons_ne_nil _ _
    have u2 := u1.trans (Same.upd_new hl (o := .lst (L'.map fun q => V.ref q.1)))
    refine ⟨l, _, rfl, .inl ⟨SqL.of upd_same, fun t ht => ?_⟩⟩
    have u3 := u2.trans (Same.upd_new ht (o := .tup (L'.map fun q => V.ref q.1)))
    have et : upd (upd (upd H2 S (SetTx P w S L)) l (.lst (L'.map fun q => V.ref q.1))) t (.tup (L'.map fun q => V.ref q.1)) t = some (.tup (L'.map fun q => V.ref q.1)) := upd_same
    have nt : p ≠ t := ne_of_none (((s2.trans u1).trans (Same.upd_new hl (o := .lst (L'.map fun q => V.ref q.1)))) _ _ hp) ht
    have l'txt : ∀ q ∈ L', SqT K (upd (upd (upd H2 S (SetTx P w S L)) l (.lst (L'.map fun q => V.ref q.1))) t (.tup (L'.map fun q => V.ref q.1))) q.1 (q.2.map V.str) := fun q hq => Same.tup u3 (ktxt q (sub q (perm.mem_iff.mp hq)))
    have hp3 := (s2.trans u3) _ _ hp
    have s03 := s02.trans u3
    generalize upd (upd (upd H2 S (SetTx P w S L)) l (.lst (L'.map fun q => V.ref q.1))) t (.tup (L'.map fun q => V.ref q.1)) = H3 at *
    refine ⟨_, rfl, p, CN, dx, [], rfl, hp3, T.cl, T.nP, by decide, ?_⟩
    refine k hn _ (keep0 s03) ⟨dx, t, L', by rw [upd_same]; rfl, by rw [upd_ne nt.symm]; exact et, ?_, fun q hq => ?_⟩
    · rw [keys, ← kkey]
      exact norm_of once (fun z hz => by
        obtain ⟨q, hq, rfl⟩ := List.mem_map.mp hz
        exact List.mem_map_of_mem (sub q hq)) fun z hz => by
        obtain ⟨q, hq, rfl⟩ := List.mem_map.mp hz
        exact all q hq
    · have hq1 : q ∈ ks := sub q (perm.mem_iff.mp hq)
      have hpn : ∀ o, H3 q.1 = some o → q.1 ≠ p ∨ True := fun _ _ => .inr trivial
      have g0 : SqT K H0 q.1 (q.2.map V.str) := by
        obtain ⟨r, hr', rfl⟩ := List.mem_map.mp hq1
        obtain ⟨e1, e2⟩ := stx r.dat (List.mem_map_of_mem hr')
        have g := (ok r hr').pair
        have e1' : r.b = .str (strOf r.b) := e1
        have e2' : r.a = .str (strOf r.a) := e2
        rw [e1', e2'] at g
        exact g
      exact Same.tup (keep0 s03) g0
end
end Dl

/-! C(..) in a try's body, C's __init__ with a star parameter: what it lets out is wished for at the caller's slots -/
namespace Dl
open PySem PySem.Spec PyProof.Rows L2
section
variable {X : Cx} {CX : CXT} {k : Nat} {f C : Addr} {sp : Sp}
theorem makeR_slots {E : XK} {σ : L2.St} {pins : List (Addr × Obj)} {H : Hp} {s : Shared} {Q : VK} {us : List Value} {vs : List V}
    (M : Mk X.K C f) (F : FnR X.prog X.w X.K X.mg X.base CX k f sp) (hr : Room (k + 1) X.A) (hx : PassesAt CX X σ E) (I : Inv X pins σ H s) (r : Vals vs us)
    (h : ∀ x dx, H x = none → H dx = none → dx ≠ x → sp (.ref x :: vs) (upd (upd H dx (.own x)) x (.ins C dx [])) (fun v H2 => v = .non ∧ Q (.ref x) H2) E) :
    wpAny (model X.prog X.w) X.A (call (.ref C) us) (EP X pins σ Q) X.xe s := by
  have at0 : H s.heap.objs.size = none := I.hok.fresh (Nat.le_refl _)
  have at1 : H (s.heap.objs.size + 1) = none := I.hok.fresh (Nat.le_succ _)
  have want := h _ _ at1 at0 (Nat.ne_of_lt (Nat.lt_succ_self _))
  have J := Inv.made (C := C) I
  have rv : Vals (V.ref (s.heap.objs.size + 1) :: vs) (Value.ref (s.heap.objs.size + 1) :: us) := .cons rfl r
  have body := F _ X.stack _ _ (Value.ref (s.heap.objs.size + 1) :: us) _ _ E (hr.make C us []) (J.env0.make C us []) rv want
  apply wpAny_call
  apply make_map (f := f) I.kIn M.makes M.init (beq_iff_eq.mp M.fn)
  apply codeAny_mono body
  intro out s2 hout
  match out, hout with
  | .error er, hout => exact hx pins _ _ er s2 J hout
  | .ok (.ret u), hout =>
    obtain ⟨v, H2, J2, rel, ev, q⟩ := J.after hout
    cases ev
    exact ⟨rel, V.ref (s.heap.objs.size + 1), H2, J2, rfl, q⟩
theorem pe_makeRS {E : L2.St → XK} {x : Str} {p pos : Pos} {e : Expr} {es : List Expr} {t : TA}
    (M : Mk X.K C f) (F : FnR X.prog X.w X.K X.mg X.base CX k f sp) (hr : Room (k + 1) X.A) (hg : Gl X x) (hm : X.mg x = some (.ref C)) (hx : ∀ σ, PassesAt CX X σ (E σ)) (ha : PA X (e :: es) t)
    (hdb : (x == ("__debug__" : Str)) = false := by decide) (he : starEach (e :: es) X.env = (false, eval e X.env) :: starEach es X.env := by rfl) (hpl : (backTo pos (starEach es X.env)).any (·.1) = false := by rfl) :
    PE X (.Call (.Name x p) (e :: es) [] pos) (tMakeS C sp E t) := by
  constructor
  intro pins s σ H Q I h
  apply wpAny_Call_Name_kw
  apply ld_glob I hg hm _ hdb
  apply PySem.W.callWith_K (h₀ := X.base) I.ok.mod.kin M.kp _ he hpl
  apply thn (ha.run pos pins s σ H _ I h)
  rintro us s1 ⟨vs, H1, I1, r, q⟩
  exact ⟨I1.kIn, makeR_slots M F hr (hx σ) I1 r q⟩
theorem pe_makeRS0 {E : L2.St → XK} {x : Str} {p pos : Pos}
    (M : Mk X.K C f) (F : FnR X.prog X.w X.K X.mg X.base CX k f sp) (hr : Room (k + 1) X.A) (hg : Gl X x) (hm : X.mg x = some (.ref C)) (hx : ∀ σ, PassesAt CX X σ (E σ))
    (hdb : (x == ("__debug__" : Str)) = false := by decide) :
    PE X (.Call (.Name x p) [] [] pos) (tMakeS C sp E tNil) := by
  constructor
  intro pins s σ H Q I h
  apply wpAny_Call_Name_kw
  apply ld_glob I hg hm _ hdb
  exact PySem.W.callWith_K0 I.kIn M.kp (makeR_slots (us := []) M F hr (hx σ) I .nil h)
end
end Dl

namespace Dl
open PySem PySem.Spec PyProof.Rows L2
/-! ### what the rules ask of pairs, as the law reckons it -/
structure TxtD (mg : Str → Option Value) : Prop where
  isinstance : mg "isinstance" = none
  str : mg "str" = none
  len : mg "len" = none
def faultN (v : V) : Str := if isNm v = true then "" else "invalid"
def spFaultN : Sp := fun vs H Q _ => ∃ (v : V) (u : Addr), vs = [v, .ref u] ∧ NmOk H v ∧ H u = some (.lst ([] : List V)) ∧ Q (.str (faultN v)) H
/-- None, or the word, what it is about, and a mark -/
def DueAt (H : Hp) (v : V) : Option NErr → Prop
  | none => v = .non
  | some (.inv x) => ∃ t, v = .ref t ∧ H t = some (.tup [.str "name", x, .bl true])
  | some (.note b a) => ∃ t u, v = .ref t ∧ H t = some (.tup [.str "note", .ref u, .bl true]) ∧ H u = some (.tup [b, a])
theorem DueAt.of {H H' : Hp} {v : V} {o : Option NErr} (s : Same H H') (h : DueAt H v o) : DueAt H' v o := by
  cases o with
  | none => exact h
  | some e =>
    cases e with
    | inv x => obtain ⟨t, e1, e2⟩ := h; exact ⟨t, e1, s _ _ e2⟩
    | note b a => obtain ⟨t, u, e1, e2, e3⟩ := h; exact ⟨t, u, e1, s _ _ e2, s _ _ e3⟩
def spPDue (K : PySem.W.Frag) : Sp := fun vs H Q _ => ∃ (p : Addr) (rs : List PairIn), vs = [.ref p] ∧ SqL K H p (pRefs rs) ∧ (∀ r ∈ rs, PairOk K H r) ∧ ∀ H' v, Same H H' → DueAt H' v (chkPs (rs.map PairIn.dat)) → Q v H'
section
variable {P : Program} {w : World} {K : PySem.W.Frag} {mg : Str → Option Value} {base : Heap}
theorem scFault : FnScope ["_law_name_here", "_law_taken", "_law_sign"] ["_law_name_here", "_law_taken"] (defScope sLawFault) := ⟨rfl, rfl, rfl, by decide +kernel, rfl, by decide +kernel, by decide +kernel⟩
theorem ok_fault {f : Addr} {fd : FuncData} (F : Fun K "_law_fault" "_law_fault" sLawFault f fd) (T : TxtD mg) : FnOk P w K mg base CX0 1 f fd ["_law_name_here", "_law_taken"] spFaultN := by
  refine F.ok scFault (fun vs H Q E h => ?_) (fun cdv A outer s H vs Q E hr h => ?_)
  · obtain ⟨v, u, rfl, _⟩ := h
    rfl
  · obtain ⟨v, u, rfl, hv, hu, k⟩ := h
    refine ⟨_, (pss_cons (ps_if (PW.pt (pw_or (pt_not (pt_val (pe_callB call_isi (by rfl) T.isinstance (by decide +kernel) (pa_cons (pv 0) (pa_cons (pe_bltn (v := .ty "str") (by rfl) T.str (by decide +kernel) rfl) pa_nil))))) (pw_or (pt_cmpR op_eq (pv 0) pe_str (nomark _)) (pw_or1 (pt_cmpR op_gt (pe_callB call_len_str (by rfl) T.len PySem.boot_len (pa_cons (pv 0) pa_nil)) pe_int (nomark _)))))) (pss_one (ps_ret pe_str)) pss_nil)
        (pss_cons (ps_for PassesOwn.never rfl (pi_str (pv 0)) (pg_name (i := 2) scFault.nd rfl (Or.inl rfl)) (pss_one (ps_if (pt_cmpR op_notIn_sign (pv 2) pe_str (by rfl)) (pss_one (ps_ret pe_str)) pss_nil)))
        (pss_cons (ps_if (pt_cmpR op_in_seq (pv 0) (pv 1) (by rfl)) (pss_one (ps_ret pe_str)) pss_nil)
        (pss_one (ps_ret pe_str))))), ?_⟩
    obtain ⟨ty, b, h1, h2, h3⟩ := nm_type K hv
    refine ⟨_, rfl, v, _, _, _, b, rfl, ClsV.ty "str", h1, h2, b, rfl, ?_⟩
    rcases h3 with ⟨rfl, h3, hns⟩ | ⟨rfl, z, rfl, hz⟩
    · refine iteT ?_
      have e : faultN v = "invalid" := by
        unfold faultN isNm
        cases v with
        | str z => exact absurd rfl (hns z)
        | _ => rfl
      rw [e] at k
      exact k
    · refine iteF ?_
      have inv : validN z = false → Q (.str "invalid") H := fun h => by
        have e : faultN (.str z) = "invalid" := by
          unfold faultN isNm
          simp [h]
        rw [e] at k
        exact k
      refine ⟨_, rfl, rfl, _, rfl, ?_⟩
      refine ite2 (fun c => ?_) (fun c => ?_)
      · have ez : z = ("" : Str) := by simpa using c
        exact inv (by rw [ez]; decide +kernel)
      have hz1 : 1 ≤ z.length := by
        have q : ¬ z = ("" : Str) := by simpa using c
        exact len_pos q
      refine ⟨_, rfl, z, rfl, hz, _, _, rfl, rfl, _, rfl, ?_⟩
      by_cases h12 : z.length ≤ 12
      · have e2 : decide ((12 : Int) < ((z.length : Nat) : Int)) = false := decide_eq_false (by omega)
        rw [e2]
        refine iteF ?_
        refine ⟨_, rfl, z, rfl, for_it walk_str (fun i σ H' => H' = H ∧ (∃ x, σ = [some (.str z), some (.ref u), x]) ∧ ∀ c ∈ z.cps.toList.take i, c ∈ SG.cps.toList) ⟨rfl, ⟨none, rfl⟩, fun c hc => absurd hc (by simp)⟩ (fun _ _ _ _ _ => trivial) ?_ ?_⟩
        · rintro i x σ H1 H2 hi ⟨rfl, ⟨y, rfl⟩, hall⟩ ⟨rfl, c, hc, rfl⟩
          have hc2 : z.cps.toList[i]? = some c := by rw [Array.getElem?_toList]; exact hc
          have hmem : c ∈ z.cps.toList := List.mem_of_getElem? hc2
          refine ⟨_, rfl, c, SG, rfl, rfl, _, rfl, ?_⟩
          by_cases hm : c ∈ SG.cps.toList
          · rw [decide_eq_true hm]
            refine iteF ⟨rfl, ⟨_, rfl⟩, fun d hd => ?_⟩
            rw [List.take_succ, hc2] at hd
            rcases List.mem_append.mp hd with h | h
            · exact hall d h
            · obtain rfl : d = c := by simpa using h
              exact hm
          · rw [decide_eq_false hm]
            exact iteT (inv (invalid_of hmem hm))
        · rintro σ H1 ⟨rfl, ⟨y, rfl⟩, hall⟩
          have hv2 : validN z = true := by
            rw [valid_of hz1 (by
              have q : z.cps.toList.take z.cps.size = z.cps.toList := by rw [List.take_of_length_le (by simp)]
              rw [q] at hall
              exact hall), decide_eq_true h12]
          refine ⟨_, rfl, _, rfl, u, _, rfl, .inl (SqL.of hu), rfl, flat_strs [], _, rfl, ?_⟩
          have e : faultN (.str z) = "" := by unfold faultN isNm; simp [hv2]
          rw [e] at k
          exact iteF k
      · have e2 : decide ((12 : Int) < ((z.length : Nat) : Int)) = true := decide_eq_true (by omega)
        rw [e2]
        refine iteT (inv ?_)
        unfold validN
        rw [decide_eq_false h12]
        simp
theorem scPDue : FnScope ["_law_pairs", "_law_pair", "_law_name_here"] ["_law_pairs"] (defScope sLawPairsDue) := ⟨rfl, rfl, rfl, by decide +kernel, rfl, by decide +kernel, by decide +kernel⟩
theorem ok_pdue {f : Addr} {fd : FuncData} (F : Fun K "_law_pairs_due" "_law_pairs_due" sLawPairsDue f fd) (gF : Dfn P w K mg base CX0 1 "_law_fault" ["_law_name_here", "_law_taken"] spFaultN) :
    FnOk P w K mg base CX0 2 f fd ["_law_pairs"] (spPDue K) := by
  obtain ⟨fFa, dFa, mFa, kFa, bFa, GFa⟩ := gF
  refine F.ok scPDue (fun vs H Q E h => ?_) (fun cdv A outer s H vs Q E hr h => ?_)
  · obtain ⟨p, rs, rfl, _⟩ := h
    rfl
  · obtain ⟨p, rs, rfl, hp, ok, k⟩ := h
    have hr1 : Room 1 _ := hr
    refine ⟨_, (pss_cons (ps_for PassesOwn.never rfl (pi_list (pv 0)) (pg_name (i := 1) scPDue.nd rfl (Or.inl rfl))
          (pss_cons (ps_for PassesOwn.never rfl (pi_tup (pv 1)) (pg_name (i := 2) scPDue.nd rfl (Or.inl rfl)) (pss_one (ps_if (pt_cmpR op_ne (pe_call GFa hr1 (by rfl) mFa kFa bFa .nil pass0 (pa_cons (pv 2) (pa_cons (pe_lst pa_nil) pa_nil))) pe_str (nomark _)) (pss_one (ps_ret (pe_tup (pa_cons pe_str (pa_cons (pv 2) (pa_cons pe_bl pa_nil)))))) pss_nil)))
          (pss_one (ps_if (pt_cmpR op_eq (pe_ix ix_tup (pv 1) pe_int (fun _ _ => rfl)) (pe_ix ix_tup (pv 1) pe_int (fun _ _ => rfl)) (nomark _)) (pss_one (ps_ret (pe_tup (pa_cons pe_str (pa_cons (pe_tup (pa_cons (pe_ix ix_tup (pv 1) pe_int (fun _ _ => rfl)) (pa_cons (pe_ix ix_tup (pv 1) pe_int (fun _ _ => rfl)) pa_nil))) (pa_cons pe_bl pa_nil)))))) pss_nil))))
        (pss_one (ps_ret pe_non))), ?_⟩
    refine ⟨_, rfl, p, rfl, ⟨_, hp⟩, for_it (walk_list (K := K) (a := p) (xs := pRefs rs)) (fun i σ H' => ∃ (x y : Option V), σ = [some (.ref p), x, y] ∧ Same H H' ∧ chkPs ((rs.map PairIn.dat).drop i) = chkPs (rs.map PairIn.dat)) ⟨none, none, rfl, Same.refl _, rfl⟩ (fun i σ H' _ ⟨_, _, _, s, _⟩ => Same.seq s hp) ?_ ?_⟩
    · rintro i v σ H2 H3 hi ⟨x, y, rfl, s2, hc⟩ ⟨rfl, hv⟩
      have hi' : i < rs.length := by unfold pRefs at hi; rw [List.length_map] at hi; exact hi
      have hv2 : (pRefs rs)[i]? = some v := hv
      unfold pRefs at hv2
      rw [List.getElem?_map, List.getElem?_eq_getElem hi'] at hv2
      obtain rfl := Option.some.inj hv2
      have R2 := (ok _ (List.getElem_mem hi')).of s2
      rw [List.drop_eq_getElem_cons (by rw [List.length_map]; exact hi'), List.getElem_map] at hc
      generalize rs[i] = r at *
      have hc1 : (if isNm r.b = false then some (NErr.inv r.b) else if isNm r.a = false then some (.inv r.a) else if r.b = r.a then some (.note r.b r.a) else chkPs ((rs.map PairIn.dat).drop (i + 1))) = chkPs (rs.map PairIn.dat) := hc
      clear hc hv hv2
      have bad : ∀ (v : V) (H4 : Hp), Same H3 H4 → chkPs (rs.map PairIn.dat) = some (.inv v) → ∀ t, H4 t = none → Q (.ref t) (upd H4 t (.tup [.str "name", v, .bl true])) := fun v H4 s4 e t ht => by
        refine k _ _ (s2.trans (s4.trans (Same.upd_new ht))) ?_
        rw [e]
        exact ⟨t, rfl, upd_same⟩
      refine ⟨_, rfl, r.t, rfl, ⟨_, R2.pair⟩, for_it (walk_tup (K := K) (a := r.t) (xs := [r.b, r.a])) (fun j σ H' => ∃ (y : Option V), σ = [some (.ref p), some (.ref r.t), y] ∧ Same H3 H' ∧ (1 ≤ j → isNm r.b = true) ∧ (2 ≤ j → isNm r.a = true)) ⟨y, rfl, Same.refl _, by omega, by omega⟩ (fun j σ H' _ ⟨_, _, s, _⟩ => Same.tup s R2.pair) ?_ ?_⟩
      · rintro j v σ H4 H5 hj ⟨y, rfl, s4, b1, b2⟩ ⟨rfl, hv⟩
        have vok : NmOk H5 v := by
          rcases List.mem_cons.mp (List.mem_of_getElem? hv) with rfl | h
          · exact R2.nb.of s4
          · obtain rfl := List.mem_singleton.mp h
            exact R2.na.of s4
        refine ⟨_, rfl, Nat.zero_le _, fun e he => ?_⟩
        have s5 := Same.upd_new he (o := .lst ([] : List V))
        refine ⟨v, e, rfl, vok.of s5, upd_same, ?_⟩
        refine ⟨rfl, _, rfl, ?_⟩
        by_cases hn : isNm v = true
        · refine iteZ (by unfold faultN; rw [if_pos hn]; decide) ?_
          refine ⟨_, rfl, s4.trans s5, fun _ => ?_, fun h2 => ?_⟩
          · match j, hv with
            | 0, hv => obtain rfl := Option.some.inj hv; exact hn
            | j + 1, _ => exact b1 (by omega)
          · match j, hv with
            | 1, hv => obtain rfl := Option.some.inj hv; exact hn
        · refine iteY (by
            unfold faultN
            rw [if_neg hn]
            have ne : ¬ (("invalid" : Str) = "") := by decide +kernel
            rw [decide_eq_false fun q => ne (V.str.inj q)]
            rfl) ?_
          have hn' : isNm v = false := by simpa using hn
          refine ⟨_, rfl, by show 3 ≤ sizeLine; decide, fun t ht => bad v _ (s4.trans s5) ?_ t ht⟩
          match j, hv with
          | 0, hv =>
            obtain rfl := Option.some.inj hv
            rw [← hc1, if_pos hn']
          | 1, hv =>
            obtain rfl := Option.some.inj hv
            rw [← hc1, if_neg (by rw [b1 (by omega)]; decide), if_pos hn']
          | j + 2, hv => simp at hv
      · rintro σ H4 ⟨y, rfl, s4, b1, b2⟩
        have v1 : isNm r.b = true := b1 (by simp)
        have v2 : isNm r.a = true := b2 (by simp)
        rw [if_neg (by rw [v1]; decide), if_neg (by rw [v2]; decide)] at hc1
        obtain ⟨z1, e1, _⟩ := isNm_str v1
        obtain ⟨z2, e2, _⟩ := isNm_str v2
        have g := Same.tup s4 R2.pair
        refine ⟨_, rfl, r.t, _, 0, r.b, rfl, rfl, g, rfl, _, rfl, r.t, _, 1, r.a, rfl, rfl, g, rfl, by rw [e1, e2]; rfl, _, rfl, ?_⟩
        by_cases same : r.b = r.a
        · refine iteY (decide_eq_true same) ?_
          rw [if_pos same] at hc1
          refine ⟨_, rfl, r.t, _, 0, r.b, rfl, rfl, g, rfl, _, rfl, r.t, _, 1, r.a, rfl, rfl, g, rfl, by show 2 ≤ sizeLine; decide, fun u hu => ⟨by show 3 ≤ sizeLine; decide, fun t ht => ?_⟩⟩
          have s5 := Same.upd_new hu (o := .tup [r.b, r.a])
          have s6 := Same.upd_new ht (o := .tup [.str "note", .ref u, .bl true])
          refine k _ _ (s2.trans (s4.trans (s5.trans s6))) ?_
          rw [← hc1]
          exact ⟨t, u, rfl, upd_same, s6 _ _ upd_same⟩
        · refine iteZ (decide_eq_false same) ?_
          rw [if_neg same] at hc1
          exact ⟨_, _, rfl, s2.trans s4, hc1⟩
    · rintro σ H2 ⟨x, y, rfl, s2, hc⟩
      have hn : chkPs (rs.map PairIn.dat) = none := by
        rw [← hc, List.drop_eq_nil_of_le (by unfold pRefs; simp)]
        rfl
      refine k H2 .non s2 ?_
      rw [hn]
      rfl
end
end Dl

/-! try with several clauses «except C as n»: my own rule -/
namespace Dl
open PySem PySem.Spec PyProof.Rows L2
abbrev Suite := Addr → Value → Option Addr → TS
/-- the ends of a suite whose name at slot i is unbound behind it -/
def unE (i : Nat) (D : Ends) : Ends where
  nx := fun τ G => D.nx (τ.set i none) G
  rt := D.rt
  bk := fun τ G => D.bk (τ.set i none) G
  ct := fun τ G => D.ct (τ.set i none) G
def wAll (K : PySem.W.Frag) (i : Nat) (out : WX) (D : Ends) : List (Value × Suite) → WX
  | [] => out
  | p :: rest => fun cls d τ G => ∃ yes : Bool, PySem.W.exmOne K cls p.1 = some yes ∧ (yes = true → ∀ a, G a = none → p.2 a cls d (unE i D) (τ.set i (some (.ref a))) G) ∧ (yes = false → wAll K i out D rest cls d τ G)
inductive Clauses (X : Cx) (n : Str) : List ExceptHandler → List (Value × Suite) → Prop
  | done : Clauses X n [] []
  | more {x : Str} {c : Value} {ts : Suite} {st : Stmt} {sts : List Stmt} {q q' : Pos} {rest : List ExceptHandler} {l : List (Value × Suite)} (nm : Names X x c)
      (suite : ∀ (a : Addr) (oe : Obj) (cls : Value) (d : Option Addr) (pn : List (Addr × Obj)), Zc cls d oe → (∃ fs, oe.data = .fields fs) → PSs (X.suite a ((a, oe) :: pn)) (st :: sts) (ts a cls d)) (tail : Clauses X n rest l) :
      Clauses X n (.ExceptHandler (some (.Name x q)) (some n) (st :: sts) q' :: rest) ((c, ts) :: l)
section
variable {X : Cx} {n : Str} {i : Nat} {body : List Stmt} {h1 : ExceptHandler} {more : List ExceptHandler} {l : List (Value × Suite)} {pos : Pos} {tb : WX → TS} {out : WX}
theorem ps_try_all (top : X.stack = X.env :: X.outer) (fr : X.env.frame = some X.env.locals) (nd : X.N.Nodup) (at_ : X.N[i]? = some n) (loc : X.env.kindOf n = some .local) (tk : Takes X out)
    (run : ∀ (W : WX) (pn : List (Addr × Obj)) (xe : Value → Shared → Prop), Takes (X.tr pn xe) W → PassesOwn (model X.prog X.w) X.A X.env xe → PSs (X.tr pn xe) body (tb W)) (cs : Clauses X n (h1 :: more) l) :
    PS X (.Try body (h1 :: more) [] [] pos) (fun D τ G => tb (wAll X.K i out D l) D τ G) := by
  constructor
  intro pins s τ G D I want
  have good := I.ok
  have frames : X.A.frames = some (X.env :: X.outer) := top ▸ good.frames
  apply wpAny_Try_except
  have go := (run (wAll X.K i out D l) (X.pn ++ pins)
    (fun e t1 => wpAny (model X.prog X.w) X.A (noteFrame e X.env)
      (fun _ t2 => wpAny (model X.prog X.w) X.A (setFlight e none)
        (fun _ t3 => wpAny (model X.prog X.w) X.A (handleBy e X.env (h1 :: more)) (SP X pins D) X.xe t3) X.xe t2) X.xe t1) ?caught PassesOwn.looking).run [] s τ G D (I.toTry _) want
  case caught =>
    rintro u t ⟨a, B, sI, pins', τ', G', cls, d, rfl, J0, fresh, up, sky, na, os, ag, w⟩
    have J : Inv X pins τ' G' sI := J0.ofTry good
    rw [top] at sky
    show wpAny (model X.prog X.w) X.A (noteFrame (.ref a) X.env) _ _ _
    apply Sky.land Zc.steady frames fr sky
    intro h3 fl up3
    have J3 : Inv X pins τ' G' { t with heap := h3 } := J.landed fresh fl.1 (up.trans up3) os ag
    obtain ⟨ob, fs, hob, zob, dob⟩ := fl.there
    have out_frames : a ∉ frs (X.env :: X.outer) := by
      intro hm
      obtain ⟨_, o2, e2, no⟩ := fl.2.2.1.mem hm
      rw [hob] at e2
      cases e2
      exact no _ dob
    have nl : a ≠ X.env.locals := fun e => out_frames (List.mem_filterMap.mpr ⟨X.env, List.mem_cons_self, fr.trans (congrArg some e.symm)⟩)
    have nf : a ∉ X.fs := by
      intro hm
      obtain ⟨ev, hev, e2⟩ := List.mem_filterMap.mp hm
      exact out_frames (List.mem_filterMap.mpr ⟨ev, List.mem_cons_of_mem _ hev, e2⟩)
    have S3 := J3.suite hob dob na nl nf
    have each : ∀ {hs : List ExceptHandler} {k : List (Value × Suite)}, Clauses X n hs k → wAll X.K i out D k cls d τ' G' → wpAny (model X.prog X.w) X.A (handleBy (.ref a) X.env hs) (SP X pins D) X.xe { t with heap := h3 } := by
      intro hs k hk
      induction hk with
      | done =>
        intro w
        apply wpAny_handleBy_nil
        have fl2 := fl
        obtain ⟨_, _, _, o4, v4, T, _, _, e4, _, d4, i4, _⟩ := fl2
        have off : wpAny (model X.prog X.w) X.A (setFlight (.ref a) X.env.frame) (fun _ t4 => wpAny (model X.prog X.w) X.A (throw (.ref a) : Sem Flow) (SP X pins D) X.xe t4) X.xe { t with heap := h3 } := by
          rw [fr]
          apply HandSPX.setFlight_upZ fl
          intro h4 hh4 up4
          exact wpAny_throw (tk _ _ ⟨a, B, sI, pins, τ', G', cls, d, rfl, J, fresh, (up.trans up3).trans up4, .inr (.inr (top.symm ▸ hh4)), na, os, ag, w⟩)
        unfold PySem.passOn
        apply wpAny_bind
        apply wpAny_field e4 d4 i4
        rw [if_neg (by simp : ¬ ((Value.ref T == Value.none) = true))]
        first
          | exact wpAny_bind (wpAny_pure (wpAny_bind off))
          | exact wpAny_bind off
      | @more x c ts st sts q q' rest k2 nm suite tail ih =>
        rintro ⟨yes, e5, isYes, isNo⟩
        apply wpAny_handleBy_cons (codeAny_handlers_test ?test) (by intro z; cases z)
        case test =>
          have looks : PySem.W.Looks (model X.prog X.w) h3 (typeOf (.ref a)) cls := fun _ _ _ _ keep z => wpAny_typeOf_ref (keep _ _ hob) (zob.1.symm ▸ z)
          have one := PySem.W.exm_one (M := model X.prog X.w) J3.kIn looks e5
          have read : ∀ {Q : Value → Shared → Prop} {E : Value → Shared → Prop}, Q c { t with heap := h3 } → wpAny (model X.prog X.w) (X.A.mark (some (.ref a))) (eval (.Name x q) X.env) Q E { t with heap := h3 } := by
            intro Q E z
            obtain ⟨g, dbg, inMod | ⟨inMod, v, nn⟩⟩ := nm
            · exact ld_glob (X := X.suite a ((a, ob) :: (X.pn ++ pins))) S3 g inMod z dbg
            · exact ld_blt (X := X.suite a ((a, ob) :: (X.pn ++ pins))) S3 g inMod v z nn dbg
          apply read
          apply one.here
          cases yes with
          | false =>
            show wpAny _ X.A (handleBy (.ref a) X.env rest) _ _ _
            exact ih (isNo rfl)
          | true =>
            apply codeAny_handlers_suite_as
            apply HandSPX.lands_againZ fl
            intro h4 fl4 up4
            have J4 : Inv X pins τ' G' { t with heap := h4 } := J.landed fresh fl4.1 ((up.trans up3).trans up4) os ag
            obtain ⟨ob4, fs4, hob4, zob4, dob4⟩ := fl4.there
            have S4 := J4.suite hob4 dob4 na nl nf
            apply store_ok (X := X.suite a ((a, ob4) :: (X.pn ++ pins))) (v := .ref a) S4 nd at_ (.inl loc) rfl ?_ (.inr loc)
            intro t5 S5
            have body5 := (suite a ob4 cls d (X.pn ++ pins) zob4 ⟨_, dob4⟩).run [] t5 _ G' _ S5 (isYes rfl a na)
            apply wpAny_mono body5 ?_ (fun _ _ z => z.elim)
            intro fw t6 end6
            have drop : ∀ {τ6 : L2.St} {G6 : Hp} {R : Shared → Prop}, Inv (X.suite a ((a, ob4) :: (X.pn ++ pins))) [] τ6 G6 t6 → (∀ t7, Inv X pins (τ6.set i none) G6 t7 → R t7) → wpAny (model X.prog X.w) X.A (do bindName X.env n .none; unbindBehindTheSuite X.env n q') (fun _ t7 => R t7) X.xe t6 := by
              intro τ6 G6 R S6 z
              exact gone_ok (S6.unsuite good) nd at_ loc z
            match fw, end6 with
            | .next, ⟨τ6, G6, S6, q6⟩ => exact drop S6 fun t7 J7 => ⟨_, _, J7, q6⟩
            | .brk, ⟨τ6, G6, S6, q6⟩ => exact drop S6 fun t7 J7 => ⟨_, _, J7, q6⟩
            | .cont, ⟨τ6, G6, S6, q6⟩ => exact drop S6 fun t7 J7 => ⟨_, _, J7, q6⟩
            | .ret u, ⟨v6, τ6, G6, S6, r6, q6⟩ => exact drop S6 fun t7 J7 => ⟨_, _, _, J7, r6, q6⟩
    exact each cs w
  apply wpAny_mono go ?_ (fun _ _ z => z)
  intro fw t1 end1
  match fw, end1 with
  | .next, ⟨τ1, G1, J1, q1⟩ => exact wpAny_execs_nil ⟨τ1, G1, J1.ofTry good, q1⟩
  | .brk, ⟨τ1, G1, J1, q1⟩ => exact ⟨τ1, G1, J1.ofTry good, q1⟩
  | .cont, ⟨τ1, G1, J1, q1⟩ => exact ⟨τ1, G1, J1.ofTry good, q1⟩
  | .ret u, ⟨v1, τ1, G1, J1, r1, q1⟩ => exact ⟨v1, τ1, G1, J1.ofTry good, r1, q1⟩
end
end Dl

/-! in a try's body: o.m(..) of a def with a star parameter, o[k] by the own __getitem__; isinstance of a caught error that has its dict -/
namespace Dl
open PySem PySem.Spec PyProof.Rows L2
section
variable {X : Cx} {σ : L2.St} {pins : List (Addr × Obj)} {H : Hp} {s : Shared} {Q : VK}
/-- what isinstance asks of an error's class -/
structure IsE (K : PySem.W.Frag) (D : Addr) : Prop where
  hc : (PySem.W.clsIn K D).isSome = true
  ga : PySem.W.findIn K (.ref D) "__getattribute__" = some (some (.builtin "BaseException.__getattribute__"))
  gg : PySem.W.findIn K (.ref D) "__getattr__" = some none
  sb : PySem.W.subIn K (.ref D) (.type "BaseException") = some true
  ha : PySem.W.findIn K (.ref D) "__class__" = some (some (.builtin "object.__class__"))
  hn : PySem.W.specialIn K (.builtin "object.__class__") "__get__" = some (some (.builtin "getset_descriptor.__get__"))
  ht : PySem.W.takesIn K (.builtin "object.__class__") = some true
  hm : PySem.W.mroIn K D (.type "object") = some true
def rIsED (K : PySem.W.Frag) (D a : Addr) (cls : Value) (d : Option Addr) : List V → Hp → VK → Prop := fun xs H Q => ∃ (c : V) (cv : Value) (b : Bool) (dd : Addr) (fs : List (Str × V)), xs = [.ref a, c] ∧ (∀ u, RelV c u → u = cv) ∧ cls = .ref D ∧ d = some dd ∧ H dd = some (.xd fs) ∧ PySem.W.kitOne K (.ref D) cv = some b ∧ Q (.bl b) H
theorem call_isED {a D : Addr} {cls : Value} {d : Option Addr} {oe : Obj} {pn : List (Addr × Obj)} (T : IsE X.K D) (hz : Zc cls d oe) (hf : ∃ vs, oe.data = .fields vs) : CallR (X.suite a ((a, oe) :: pn)) (.builtin "isinstance") (rIsED X.K D a cls d) := by
  intro pins s σ H xs us Q I r h
  obtain ⟨c, cv, b, dd, fs, rfl, hcv, rfl, rfl, hdd, hk, q⟩ := h
  obtain ⟨u1, u2, rfl, r1, r2⟩ := vals2 r
  cases r1
  obtain rfl := hcv _ r2
  obtain ⟨there, _⟩ := I.pin (a, oe) (List.mem_append_left _ List.mem_cons_self)
  obtain ⟨vs, hv⟩ := hf
  obtain ⟨mA, hns, _⟩ := (show ObjOk X.prog X.w H s.heap dd (.xd fs) from I.hok dd _ hdd)
  obtain ⟨od, ho, _⟩ := lookIn_ns hns
  have J : PySem.W.InstAt s.heap a oe D (some od) := ⟨there, hz.1, by unfold PySem.W.notCls; rw [hv] <;> rfl, by rw [hz.2]; exact ho⟩
  exact PySem.W.kia_one (PySem.W.kitx_exc T.hc T.ga T.gg T.sb T.ha T.hn T.ht T.hm) I.kIn J hk (fun z => nomatch z) fun tk => ⟨.bl b, H, I.kept (t' := tk) fun _ _ z => z, rfl, q⟩
end
end Dl

namespace Dl
open PySem PySem.Spec PyProof.Rows L2
/-- pairs as data -/
structure PairD (K : PySem.W.Frag) (H : Hp) (r : PairIn) : Prop where
  pair : SqT K H r.t [r.b, r.a]
  nb : NmD H r.b
  na : NmD H r.a
theorem PairD.ok {K : PySem.W.Frag} {H : Hp} {r : PairIn} (h : PairD K H r) : PairOk K H r := ⟨h.pair, h.nb.ok, h.na.ok⟩
theorem PairD.of {K : PySem.W.Frag} {H H' : Hp} {r : PairIn} (s : Same H H') (h : PairD K H r) : PairD K H' r := ⟨Same.tup s h.pair, h.nb.of s, h.na.of s⟩
theorem nm_dat {K : PySem.W.Frag} {H : Hp} {v : V} (h : NmD H v) : ∃ d, Dp K H v d ∧ PyData.canLay0 d = true ∧ d.depth ≤ 1 := let ⟨d, h1, h2, h3, _⟩ := h.dat K; ⟨d, h1, h2, h3⟩
theorem pair_dat {K : PySem.W.Frag} {H : Hp} {r : PairIn} (h : PairD K H r) : ∃ d, Dp K H (.ref r.t) d ∧ PyData.canLay0 d = true ∧ d.depth ≤ 2 := by
  obtain ⟨d, p1, c1, e1⟩ := nm_dat (K := K) h.nb
  obtain ⟨e, p2, c2, e2⟩ := nm_dat (K := K) h.na
  refine ⟨.tuple [d, e], .tup h.pair (.cons p1 (.cons p2 .nil)), ?_, ?_⟩
  · simp only [PyData.canLay0, PyData.canLayAll0, c1, c2, Bool.and_true]
  · simp only [PyData.depth, PyData.depthAll]
    omega
theorem pairs_dat {K : PySem.W.Frag} {H : Hp} : ∀ {rs : List PairIn}, (∀ r ∈ rs, PairD K H r) → ∃ ds : List PyData, DpAll K H (pRefs rs) ds ∧ PyData.canLayAll0 ds = true ∧ PyData.depthAll ds ≤ 2 ∧ ds.length = rs.length
  | [], _ => ⟨[], .nil, by simp [PyData.canLayAll0], by simp [PyData.depthAll], rfl⟩
  | r :: rs, h => by
    obtain ⟨ds, p, c, e, l⟩ := pairs_dat fun q hq => h q (List.mem_cons_of_mem _ hq)
    obtain ⟨d, p1, c1, e1⟩ := pair_dat (h r (List.mem_cons_self ..))
    refine ⟨d :: ds, .cons p1 p, ?_, ?_, by simp [l]⟩
    · rw [PyData.canLayAll0, c1, c]; rfl
    · rw [PyData.depthAll]; omega
theorem pairs_shaped {ds : List PyData} (c : PyData.canLayAll0 ds = true) (d : PyData.depthAll ds ≤ 2) : SeqAt.shaped (.list ds) = true := by
  unfold SeqAt.shaped
  rw [PyData.canLay0, c, Bool.true_and, PyData.depth]
  exact decide_eq_true (by omega)
theorem none_shaped : SeqAt.shaped (.list []) = true := by decide +kernel
theorem eqv_none {ds : List PyData} : PyData.eqv (.list ds) (.list []) = decide (ds.length = 0) := by
  cases ds <;> simp [PyData.eqv, PyData.eqvAll]
def starSp (n : Nat) (sp : Sp) : Sp := fun vs H Q E => ∃ ws rest, vs = ws ++ rest ∧ ws.length = n ∧ rest.length ≤ sizeLine ∧ ∀ p, H p = Option.none → sp (ws ++ [V.ref p]) (upd H p (.tup rest)) Q E
theorem note_any {K : PySem.W.Frag} {CN CI CE : Addr} {H : Hp} {rs : List PairIn} {Q : Hp → Prop} {E : XK} {x dx : Addr} (nx : H x = none) (ndx : H dx = none) (nex : dx ≠ x) (ok : ∀ r ∈ rs, PairOk K H r) (few : rs.length < 64)
    (k : chkPs (rs.map PairIn.dat) = none → ∀ H8, Same H H8 → NotesAt K CN H8 x (normK (pKeys (rs.map PairIn.dat))) → Q H8) (kx : ∀ e, chkPs (rs.map PairIn.dat) = some e → OutF CI CE H E e) :
    starSp 1 (spNotes K CN CI CE) (.ref x :: pRefs rs) (upd (upd H dx (.own x)) x (.ins CN dx [])) (fun v H2 => v = .non ∧ Q H2) E := by
  refine ⟨[.ref x], pRefs rs, rfl, rfl, by unfold pRefs; rw [List.length_map]; exact Nat.le_of_lt (small1000 (by omega)), fun p hp => ?_⟩
  have npx : x ≠ p := ne_of_none upd_same hp
  have sm : Same H (upd (upd H dx (.own x)) x (.ins CN dx [])) := fun c o e => by
    rw [upd_ne (ne_of_none e nx), upd_ne (ne_of_none e ndx)]; exact e
  exact ⟨H, x, dx, p, rs, rfl, sm.trans (Same.upd_new hp), nx, by rw [upd_ne npx, upd_same], SqT.of upd_same, npx.symm, ok, few, fun hn H' s' at_ => ⟨rfl, k hn H' s' at_⟩, kx⟩
/-- what the clauses ask of the classes -/
structure NExm (K : PySem.W.Frag) (mg : Str → Option Value) (CI CE CD : Addr) : Prop where
  mI : mg "isinstance" = none
  mV : mg "ValueError" = none
  mlen : mg "len" = none
  gD : mg "DimmerError" = some (.ref CD)
  ee : PySem.W.exmOne K (.ref CE) (.ref CE) = some true
  ie : PySem.W.exmOne K (.ref CI) (.ref CE) = some false
  ii : PySem.W.exmOne K (.ref CI) (.ref CI) = some true
  xI : XfC K CI
  xE : XfC K CE
  sI : IsE K CI
  sE : IsE K CE
  kED : PySem.W.kitOne K (.ref CE) (.ref CD) = some true
  kEI : PySem.W.kitOne K (.ref CE) (.ref CI) = some false
  kID : PySem.W.kitOne K (.ref CI) (.ref CD) = some true
  kIV : PySem.W.kitOne K (.ref CI) (.type "ValueError") = some true
def sayN (K : PySem.W.Frag) (CI CE CD : Addr) : Suite := fun a cls d => tRet (tTup (tCons (tC (.str "note")) (tCons (tTup (tCons (tXf a cls d CE "before" (tVar 1)) (tCons (tXf a cls d CE "after" (tVar 1)) tNil)))
  (tCons (tAndV (tCB (rIsED K CE a cls d) (tCons (tVar 1) (tCons (tC (.ref CD)) tNil))) (tNotV (tCB (rIsED K CE a cls d) (tCons (tVar 1) (tCons (tC (.ref CI)) tNil))))) tNil))))
def sayI (K : PySem.W.Frag) (CI CD : Addr) : Suite := fun a cls d => tRet (tTup (tCons (tC (.str "name")) (tCons (tXf a cls d CI "name" (tVar 1))
  (tCons (tAndV (tCB (rIsED K CI a cls d) (tCons (tVar 1) (tCons (tC (.ref CD)) tNil))) (tCB (rIsED K CI a cls d) (tCons (tVar 1) (tCons (tC (.ty "ValueError")) tNil)))) tNil))))
theorem say_outN {K : PySem.W.Frag} {mg : Str → Option Value} {CI CE CD : Addr} (X : NExm K mg CI CE CD) {out : WX} {D : Ends} {τ : L2.St} {H : Hp} {e : NErr} (hi : 1 < τ.length) (k : ∀ H' v, Same H H' → DueAt H' v (some e) → D.rt v H') :
    OutF CI CE H (WE (wAll K 1 out D [(.ref CE, sayN K CI CE CD), (.ref CI, sayI K CI CD)]) τ) e := by
  have at_ : ∀ a : Addr, (τ.set 1 (some (V.ref a)))[1]? = some (some (V.ref a)) := fun a => by simp [hi]
  have rr : ∀ (c : Addr) (u : Value), RelV (.ref c) u → u = .ref c := fun c u r => r
  cases e with
  | inv v =>
    refine fun d H' s' nd hd => ⟨false, X.ie, fun q => Bool.noConfusion q, fun _ => ⟨true, X.ii, fun _ a _ => ?_, fun q => Bool.noConfusion q⟩⟩
    refine ⟨_, at_ a, rfl, rfl, d, _, v, rfl, hd, ?_, ?_⟩
    · show List.lookup ("name" : Str) [("name", v)] = some v
      rw [List.lookup_cons, beq_self_eq_true]
    refine ⟨_, at_ a, .ref CD, .ref CD, true, d, _, rfl, rr CD, rfl, rfl, hd, X.kID, true, rfl, iteY rfl ?_⟩
    refine ⟨_, at_ a, .ty "ValueError", .type "ValueError", true, d, _, rfl, fun u r => r, rfl, rfl, hd, X.kIV, by show 3 ≤ sizeLine; decide, fun t ht => ?_⟩
    exact k _ _ (s'.trans (Same.upd_new ht)) ⟨t, rfl, upd_same⟩
  | note b v =>
    refine fun d H' s' nd hd => ⟨true, X.ee, fun _ a _ => ?_, fun q => Bool.noConfusion q⟩
    have ne : ¬ (("before" : Str) = "after") := by decide +kernel
    refine ⟨_, at_ a, rfl, rfl, d, _, b, rfl, hd, ?_, _, at_ a, rfl, rfl, d, _, v, rfl, hd, ?_, by show 2 ≤ sizeLine; decide, fun u hu => ?_⟩
    · show List.lookup ("before" : Str) [("after", v), ("before", b)] = some b
      rw [List.lookup_cons, beq_eq_false_iff_ne.mpr ne, List.lookup_cons, beq_self_eq_true]
    · show List.lookup ("after" : Str) [("after", v), ("before", b)] = some v
      rw [List.lookup_cons, beq_self_eq_true]
    have s5 := Same.upd_new hu (o := .tup [b, v])
    have hd2 := s5 _ _ hd
    have hu2 := upd_same (H := H') (a := u) (o := .tup [b, v])
    have s6 := s'.trans s5
    generalize upd H' u (.tup [b, v]) = H2 at *
    refine ⟨_, at_ a, .ref CD, .ref CD, true, d, _, rfl, rr CD, rfl, rfl, hd2, X.kED, true, rfl, iteY rfl ?_⟩
    refine ⟨_, at_ a, .ref CI, .ref CI, false, d, _, rfl, rr CI, rfl, rfl, hd2, X.kEI, false, rfl, by show 3 ≤ sizeLine; decide, fun t ht => ?_⟩
    exact k _ _ (s6.trans (Same.upd_new ht)) ⟨t, u, rfl, upd_same, (Same.upd_new ht) _ _ hu2⟩
theorem len_yes {rs : List PairIn} {m : Int} (h : (rs.length : Int) = m) : decide (V.int ((pRefs rs).length : Int) = V.int m) = true := by
  refine decide_eq_true ?_
  unfold pRefs
  rw [List.length_map, h]
theorem len_not {rs : List PairIn} {m : Int} (h : ¬ (rs.length : Int) = m) : decide (V.int ((pRefs rs).length : Int) = V.int m) = false := by
  refine decide_eq_false fun q => ?_
  unfold pRefs at q
  rw [List.length_map] at q
  exact h (V.int.inj q)
def spRaisedN (K : PySem.W.Frag) : Sp := fun vs H Q _ => ∃ (p : Addr) (rs : List PairIn), vs = [.ref p] ∧ SqL K H p (pRefs rs) ∧ (∀ r ∈ rs, PairD K H r) ∧ rs.length ≤ 3 ∧ ∀ H' v, Same H H' → DueAt H' v (chkPs (rs.map PairIn.dat)) → Q v H'
def rLenS (K : PySem.W.Frag) : List V → Hp → VK → Prop := fun xs H Q => ∃ p ys, xs = [.ref p] ∧ (SqL K H p ys ∨ SqT K H p ys) ∧ Q (.int ys.length) H
section
variable {P : Program} {w : World} {K : PySem.W.Frag} {mg : Str → Option Value} {base : Heap} {CN CI CE CD : Addr}
theorem scRaisedN : FnScope ["_law_pairs", "e"] ["_law_pairs"] (defScope sLawRaised) := ⟨rfl, rfl, rfl, by decide +kernel, rfl, by decide +kernel, by decide +kernel⟩
theorem ok_raisedN {f : Addr} {fd : FuncData} (F : Fun K "_law_raised" "_law_raised" sLawRaised f fd) (X : NExm K mg CI CE CD) (gN : mg "Notes" = some (.ref CN)) (eI : Ex P w K mg base "InvalidName" "name" CI) (eE : NoteX P w K mg base CE)
    (init : ∃ fN, Mk K CN fN ∧ FnR P w K mg base (L2.CX P w) 6 fN (starSp 1 (spNotes K CN CI CE))) :
    FnOk P w K mg base CX0 8 f fd ["_law_pairs"] (spRaisedN K) := by
  obtain ⟨_, _, TI, _, _⟩ := eI
  obtain ⟨_, _, TE, _, _⟩ := eE
  obtain ⟨fN, M, GM⟩ := init
  refine F.ok scRaisedN (fun vs H Q E h => ?_) (fun cdv A outer s H vs Q E hr h => ?_)
  · obtain ⟨p, rs, rfl, _⟩ := h
    rfl
  · obtain ⟨p, rs, rfl, hp, ok, few, k⟩ := h
    have hr7 : Room 7 _ := hr
    have r64 := Nat.lt_of_succ_lt (room65 hr)
    refine ⟨_, pss_cons (ps_try_all (i := 1) (l := [(.ref CE, sayN K CI CE CD), (.ref CI, sayI K CI CD)])
          (tb := fun W => tSeq (tIfS (tTest (tOp (rEqD K) (tVar 0) (tLst tNil))) (tDrop (tMakeS CN (starSp 1 (spNotes K CN CI CE)) (WE W) tNil)) tNext)
            (tSeq (tIfS (tTest (tOp rEq (tCB (rLenS K) (tCons (tVar 0) tNil)) (tC (.int 1)))) (tDrop (tMakeS CN (starSp 1 (spNotes K CN CI CE)) (WE W) (tCons (tOp (rIxL K) (tVar 0) (tC (.int 0))) tNil))) tNext)
            (tSeq (tIfS (tTest (tOp rEq (tCB (rLenS K) (tCons (tVar 0) tNil)) (tC (.int 2)))) (tDrop (tMakeS CN (starSp 1 (spNotes K CN CI CE)) (WE W) (tCons (tOp (rIxL K) (tVar 0) (tC (.int 0))) (tCons (tOp (rIxL K) (tVar 0) (tC (.int 1))) tNil)))) tNext)
            (tIfS (tTest (tOp rEq (tCB (rLenS K) (tCons (tVar 0) tNil)) (tC (.int 3)))) (tDrop (tMakeS CN (starSp 1 (spNotes K CN CI CE)) (WE W) (tCons (tOp (rIxL K) (tVar 0) (tC (.int 0))) (tCons (tOp (rIxL K) (tVar 0) (tC (.int 1))) (tCons (tOp (rIxL K) (tVar 0) (tC (.int 2))) tNil))))) tNext))))
          (out := fun _ _ _ _ => False) rfl rfl scRaisedN.nd rfl rfl takes0
          (fun W pn xe tk _ => (pss_cons (ps_if (pt_cmpR (by exact op_eqD r64 : OpR _ _ (rEqD K)) (pv 0) (pe_lst pa_nil) (nomark _)) (pss_one (ps_expr (by exact (pe_makeRS0 M GM hr7 (by rfl) gN (fun σ => passAt tk σ))))) pss_nil)
            (pss_cons (ps_if (pt_cmpR op_eq (pe_callB (by exact call_len_seq : CallR _ _ (rLenS K)) (by rfl) X.mlen PySem.boot_len (pa_cons (pv 0) pa_nil)) pe_int (nomark _)) (pss_one (ps_expr (by exact (pe_makeRS M GM hr7 (by rfl) gN (fun σ => passAt tk σ) (pa_cons (pe_ix ix_list (pv 0) pe_int (fun _ _ => rfl)) pa_nil))))) pss_nil)
            (pss_cons (ps_if (pt_cmpR op_eq (pe_callB (by exact call_len_seq : CallR _ _ (rLenS K)) (by rfl) X.mlen PySem.boot_len (pa_cons (pv 0) pa_nil)) pe_int (nomark _)) (pss_one (ps_expr (by exact (pe_makeRS M GM hr7 (by rfl) gN (fun σ => passAt tk σ) (pa_cons (pe_ix ix_list (pv 0) pe_int (fun _ _ => rfl)) (pa_cons (pe_ix ix_list (pv 0) pe_int (fun _ _ => rfl)) pa_nil)))))) pss_nil)
            (pss_one (ps_if (pt_cmpR op_eq (pe_callB (by exact call_len_seq : CallR _ _ (rLenS K)) (by rfl) X.mlen PySem.boot_len (pa_cons (pv 0) pa_nil)) pe_int (nomark _)) (pss_one (ps_expr (by exact (pe_makeRS M GM hr7 (by rfl) gN (fun σ => passAt tk σ) (pa_cons (pe_ix ix_list (pv 0) pe_int (fun _ _ => rfl)) (pa_cons (pe_ix ix_list (pv 0) pe_int (fun _ _ => rfl)) (pa_cons (pe_ix ix_list (pv 0) pe_int (fun _ _ => rfl)) pa_nil))))))) pss_nil))))))
          (.more ⟨rfl, by decide, Or.inl TE.gC⟩ (fun a oe cls d pn hz hf => (pss_one (ps_ret (pe_tup (pa_cons pe_str (pa_cons (pe_tup (pa_cons (pe_xf X.xE TE.noB hz hf (pv 1)) (pa_cons (pe_xf X.xE TE.noA hz hf (pv 1)) pa_nil)))
                (pa_cons (pe_and (pe_callB (call_isED X.sE hz hf) (by rfl) X.mI (by decide +kernel) (pa_cons (pv 1) (pa_cons (pe_glob (v := .ref CD) (by rfl) X.gD rfl) pa_nil))) (pe_one (pe_not (pe_callB (call_isED X.sE hz hf) (by rfl) X.mI (by decide +kernel) (pa_cons (pv 1) (pa_cons (pe_glob (v := .ref CI) (by rfl) TI.gC rfl) pa_nil)))))) pa_nil)))))))
            (.more ⟨rfl, by decide, Or.inl TI.gC⟩ (fun a oe cls d pn hz hf => (pss_one (ps_ret (pe_tup (pa_cons pe_str (pa_cons (pe_xf X.xI TI.no hz hf (pv 1))
                (pa_cons (pe_and (pe_callB (call_isED X.sI hz hf) (by rfl) X.mI (by decide +kernel) (pa_cons (pv 1) (pa_cons (pe_glob (v := .ref CD) (by rfl) X.gD rfl) pa_nil))) (pe_one (pe_callB (call_isED X.sI hz hf) (by rfl) X.mI (by decide +kernel) (pa_cons (pv 1) (pa_cons (pe_bltn (v := .ty "ValueError") (by rfl) X.mV (by decide +kernel) rfl) pa_nil))))) pa_nil))))))) .done)))
      (pss_one (ps_ret pe_non)), ?_⟩
    have say : ∀ (H1 : Hp) (e : NErr) (D : Ends) (τ : L2.St), Same H H1 → 1 < τ.length → D.rt = Q → chkPs (rs.map PairIn.dat) = some e → OutF CI CE H1 (WE (wAll K 1 (fun _ _ _ _ => False) D [(.ref CE, sayN K CI CE CD), (.ref CI, sayI K CI CD)]) τ) e := fun H1 e D τ s1 hτ hD he =>
      say_outN X hτ fun H' v s' due => by
        rw [hD]
        refine k H' v (s1.trans s') ?_
        rw [he]
        exact due
    have okn : ∀ {H1 : Hp}, Same H H1 → ∀ r ∈ rs, PairOk K H1 r := fun s r hr' => (ok r hr').ok.of s
    have done : chkPs (rs.map PairIn.dat) = none → ∀ H1, Same H H1 → Q .non H1 := fun hn H1 s1 => k H1 .non s1 (by rw [hn]; rfl)
    refine ⟨_, rfl, Nat.zero_le _, fun e he => ?_⟩
    have s1 := Same.upd_new he (o := .lst ([] : List V))
    obtain ⟨ds, dp, dc, dd, dl⟩ := pairs_dat (K := K) fun r hr' => (ok r hr').of s1
    have hp1 := Same.seq s1 hp
    refine ⟨.list ds, .list [], .lst hp1 dp, .lst (SqL.of upd_same) .nil, pairs_shaped dc dd, none_shaped, _, rfl, ?_⟩
    rw [eqv_none, dl]
    generalize upd H e (.lst ([] : List V)) = H1 at *
    -- a length that is another one
    have no : ∀ {m : Int} {A B : Prop}, ¬ (rs.length : Int) = m → B → if decide (V.int ((pRefs rs).length : Int) = V.int m) = true then A else B := fun h b => iteZ (len_not h) b
    rcases rs with _ | ⟨r1, _ | ⟨r2, _ | ⟨r3, _ | ⟨r4, rs⟩⟩⟩⟩
    · refine iteY rfl ?_
      refine fun x dx nx ndx nex => note_any (rs := []) nx ndx nex (okn s1) (by simp) (fun hn H2 s2 _ => ?_) fun e he => say _ e _ _ s1 (by show 1 < 2; decide) rfl he
      have hp2 := Same.seq s2 hp1
      refine ⟨_, rfl, p, _, rfl, .inl hp2, rfl, _, rfl, no (by simp) ?_⟩
      refine ⟨_, rfl, p, _, rfl, .inl hp2, rfl, _, rfl, no (by simp) ?_⟩
      refine ⟨_, rfl, p, _, rfl, .inl hp2, rfl, _, rfl, no (by simp) ?_⟩
      exact done hn H2 (s1.trans s2)
    · refine iteZ rfl ?_
      refine ⟨_, rfl, p, _, rfl, .inl hp1, rfl, _, rfl, iteY (len_yes rfl) ?_⟩
      refine ⟨_, rfl, p, _, 0, .ref r1.t, rfl, rfl, hp1, rfl, ?_⟩
      refine fun x dx nx ndx nex => note_any (rs := [r1]) nx ndx nex (okn s1) (by simp) (fun hn H2 s2 _ => ?_) fun e he => say _ e _ _ s1 (by show 1 < 2; decide) rfl he
      have hp2 := Same.seq s2 hp1
      refine ⟨_, rfl, p, _, rfl, .inl hp2, rfl, _, rfl, no (by simp) ?_⟩
      refine ⟨_, rfl, p, _, rfl, .inl hp2, rfl, _, rfl, no (by simp) ?_⟩
      exact done hn H2 (s1.trans s2)
    · refine iteZ rfl ?_
      refine ⟨_, rfl, p, _, rfl, .inl hp1, rfl, _, rfl, no (by simp) ?_⟩
      refine ⟨_, rfl, p, _, rfl, .inl hp1, rfl, _, rfl, iteY (len_yes rfl) ?_⟩
      refine ⟨_, rfl, p, _, 0, .ref r1.t, rfl, rfl, hp1, rfl, _, rfl, p, _, 1, .ref r2.t, rfl, rfl, hp1, rfl, ?_⟩
      refine fun x dx nx ndx nex => note_any (rs := [r1, r2]) nx ndx nex (okn s1) (by simp) (fun hn H2 s2 _ => ?_) fun e he => say _ e _ _ s1 (by show 1 < 2; decide) rfl he
      have hp2 := Same.seq s2 hp1
      refine ⟨_, rfl, p, _, rfl, .inl hp2, rfl, _, rfl, no (by simp) ?_⟩
      exact done hn H2 (s1.trans s2)
    · refine iteZ rfl ?_
      refine ⟨_, rfl, p, _, rfl, .inl hp1, rfl, _, rfl, no (by simp) ?_⟩
      refine ⟨_, rfl, p, _, rfl, .inl hp1, rfl, _, rfl, no (by simp) ?_⟩
      refine ⟨_, rfl, p, _, rfl, .inl hp1, rfl, _, rfl, iteY (len_yes rfl) ?_⟩
      refine ⟨_, rfl, p, _, 0, .ref r1.t, rfl, rfl, hp1, rfl, _, rfl, p, _, 1, .ref r2.t, rfl, rfl, hp1, rfl, _, rfl, p, _, 2, .ref r3.t, rfl, rfl, hp1, rfl, ?_⟩
      refine fun x dx nx ndx nex => note_any (rs := [r1, r2, r3]) nx ndx nex (okn s1) (by simp) (fun hn H2 s2 _ => ?_) fun e he => say _ e _ _ s1 (by show 1 < 2; decide) rfl he
      exact done hn H2 (s1.trans s2)
    · simp only [List.length_cons] at few; omega
end
end Dl

namespace Dl
open PySem PySem.Spec PyProof.Rows L2
/-- a value that is data whatever the heap holds -/
def Free (v : V) : Prop := ∀ H, NmD H v
theorem free_str {z : Str} (h : validN z = true) : Free (.str z) := fun H => ⟨valid_can h, by have := (valid_small h).1; omega⟩
theorem free_lit {z : Str} (h : PyData.canLay0 (.str z) = true) (l : z.length ≤ 1000) : Free (.str z) := fun H => ⟨h, l⟩
theorem shaped_ofn {d : PyData} (h : PyData.canLay0 d = true) (h2 : d.depth ≤ 4) : SeqAt.shaped d = true := by
  unfold SeqAt.shaped
  rw [h, Bool.true_and]
  exact decide_eq_true (by omega)
theorem eqv_same {d : PyData} (h : SeqAt.shaped d = true) : PyData.eqv d d = true := SeqAt.eqv_refl _ (by
  unfold SeqAt.shaped at h
  exact (Bool.and_eq_true_iff.mp h).1)
/-- what the word of the checks speaks of -/
theorem chk_val : ∀ {ps : List (V × V)} {e : NErr}, chkPs ps = some e → ∃ p ∈ ps, match e with | .inv x => x = p.1 ∨ x = p.2 | .note b a => b = p.1 ∧ a = p.2
  | [], e, h => by cases h
  | (b, a) :: r, e, h => by
    unfold chkPs at h
    split at h
    · cases h; exact ⟨_, List.mem_cons_self .., .inl rfl⟩
    split at h
    · cases h; exact ⟨_, List.mem_cons_self .., .inr rfl⟩
    split at h
    · cases h; exact ⟨_, List.mem_cons_self .., rfl, rfl⟩
    · obtain ⟨p, hp, q⟩ := chk_val h
      exact ⟨p, List.mem_cons_of_mem _ hp, q⟩
theorem can3 {w : Str} (h : canS w) {d : PyData} (hd : PyData.canLay0 d = true) {b : Bool} : PyData.canLay0 (.tuple [.str w, d, .bool b]) = true := by
  unfold canS at h
  simp only [PyData.canLay0] at h
  simp only [PyData.canLay0, PyData.canLayAll0, h, hd, Bool.and_true]
theorem dep3 {w : Str} {d : PyData} {b : Bool} {n : Nat} (hd : d.depth ≤ n) : (PyData.tuple [.str w, d, .bool b]).depth ≤ n + 1 := by
  simp only [PyData.depth, PyData.depthAll]
  omega
theorem two_words : canS "name" ∧ canS "note" := by unfold canS; decide +kernel
/-- two tellings of one word -/
theorem due_eq {K : PySem.W.Frag} {H : Hp} {v u : V} {rs : List PairIn} (hd : ∀ r ∈ rs, PairD K H r) (h1 : DueAt H v (chkPs (rs.map PairIn.dat))) (h2 : DueAt H u (chkPs (rs.map PairIn.dat))) :
    ∃ d e, Dp K H v d ∧ Dp K H u e ∧ SeqAt.shaped d = true ∧ SeqAt.shaped e = true ∧ PyData.eqv d e = true := by
  cases ho : chkPs (rs.map PairIn.dat) with
  | none =>
    rw [ho] at h1 h2
    obtain rfl : v = .non := h1
    obtain rfl : u = .non := h2
    exact ⟨.none, .none, .non, .non, by decide +kernel, by decide +kernel, by simp [PyData.eqv]⟩
  | some er =>
    rw [ho] at h1 h2
    obtain ⟨p, hp, q⟩ := chk_val ho
    obtain ⟨r, hr, rfl⟩ := List.mem_map.mp hp
    have R := hd r hr
    cases er with
    | inv x =>
      have nx : NmD H x := by
        rcases q with q | q
        · rw [q]; exact R.nb
        · rw [q]; exact R.na
      obtain ⟨d, dp, dc, dd⟩ := nm_dat (K := K) nx
      obtain ⟨t, rfl, ht⟩ := h1
      obtain ⟨t', rfl, ht'⟩ := h2
      have shp := shaped_ofn (can3 two_words.1 dc (b := true)) (Nat.le_trans (dep3 (w := "name") (b := true) dd) (by decide))
      exact ⟨.tuple [.str "name", d, .bool true], .tuple [.str "name", d, .bool true], .tup (SqT.of ht) (.cons (.str _) (.cons dp (.cons (.bl _) .nil))), .tup (SqT.of ht') (.cons (.str _) (.cons dp (.cons (.bl _) .nil))), shp, shp, eqv_same shp⟩
    | note b a =>
      obtain ⟨d1, dp1, dc1, dd1⟩ := nm_dat (K := K) (show NmD H b by rw [q.1]; exact R.nb)
      obtain ⟨d2, dp2, dc2, dd2⟩ := nm_dat (K := K) (show NmD H a by rw [q.2]; exact R.na)
      obtain ⟨t, w, rfl, ht, hw⟩ := h1
      obtain ⟨t', w', rfl, ht', hw'⟩ := h2
      have c2 : PyData.canLay0 (.tuple [d1, d2]) = true := by simp only [PyData.canLay0, PyData.canLayAll0, dc1, dc2, Bool.and_true]
      have e2 : (PyData.tuple [d1, d2]).depth ≤ 2 := by
        simp only [PyData.depth, PyData.depthAll]
        omega
      have shp := shaped_ofn (can3 two_words.2 c2 (b := true)) (Nat.le_trans (dep3 (w := "note") (b := true) e2) (by decide))
      exact ⟨.tuple [.str "note", .tuple [d1, d2], .bool true], .tuple [.str "note", .tuple [d1, d2], .bool true], .tup (SqT.of ht) (.cons (.str _) (.cons (.tup (SqT.of hw) (.cons dp1 (.cons dp2 .nil))) (.cons (.bl _) .nil))),
        .tup (SqT.of ht') (.cons (.str _) (.cons (.tup (SqT.of hw') (.cons dp1 (.cons dp2 .nil))) (.cons (.bl _) .nil))), shp, shp, eqv_same shp⟩
/-- a pair of free values -/
structure PairF (H : Hp) (r : PairIn) : Prop where
  pair : H r.t = some (.tup [r.b, r.a])
  nb : Free r.b
  na : Free r.a
theorem PairF.d {K : PySem.W.Frag} {H : Hp} {r : PairIn} (h : PairF H r) : PairD K H r := ⟨SqT.of h.pair, h.nb H, h.na H⟩
theorem PairF.of {H H' : Hp} {r : PairIn} (s : Same H H') (h : PairF H r) : PairF H' r := ⟨s _ _ h.pair, h.nb, h.na⟩
theorem PairF.ofB {b : Addr} {H H' : Hp} {r : PairIn} (hb : ∃ xs, H b = some (.lst xs)) (s : SameB b H H') (h : PairF H r) : PairF H' r :=
  ⟨s _ _ (fun e => by obtain ⟨xs, q⟩ := hb; have p := h.pair; rw [e, q] at p; cases p) h.pair, h.nb, h.na⟩
theorem atI_mem {xs : List V} {j : Int} (h0 : 0 ≤ j) (h1 : j < (xs.length : Nat)) : ∃ v, atI xs j = some v ∧ v ∈ xs := by
  obtain ⟨k, rfl⟩ := Int.eq_ofNat_of_zero_le h0
  have hk : k < xs.length := by omega
  exact ⟨xs[k], by unfold atI; rw [ix_at hk]; exact List.getElem?_eq_getElem hk, List.getElem_mem hk⟩
end Dl

namespace Dl
open PySem PySem.Spec PyProof.Rows L2
def BagIn (H : Hp) (b : Addr) : Prop := ∃ L : List Int, H b = some (.lst (L.map V.int)) ∧ BagOk L
theorem BagIn.lst {H : Hp} {b : Addr} (h : BagIn H b) : ∃ xs, H b = some (.lst xs) := let ⟨L, e, _⟩ := h; ⟨_, e⟩
theorem BagIn.upd {H : Hp} {b : Addr} {L : List Int} (h : BagOk L) : BagIn (upd H b (.lst (L.map V.int))) b := ⟨L, upd_same, h⟩
theorem BagIn.of {H H' : Hp} {b : Addr} (s : Same H H') (h : BagIn H b) : BagIn H' b := let ⟨L, e, o⟩ := h; ⟨L, s _ _ e, o⟩
/-- a draw keeps everything but the bag -/
theorem draw_same {b : Addr} {H : Hp} {L : List Int} : SameB b H (upd H b (.lst (L.map V.int))) := SameB.upd
theorem cut_take1 (xs : List V) (i : Nat) : cutV xs none (some (i : Int)) = xs.take i := by
  unfold cutV
  rw [HT.sIx_nat, HT.sIx_none]
  simp only [List.drop_zero, Nat.sub_zero]
  by_cases h : i ≤ xs.length
  · rw [Nat.min_eq_left h]
  · rw [Nat.min_eq_right (by omega), List.take_of_length_le (by omega), List.take_of_length_le (by omega)]
end Dl

namespace Dl
open PySem PySem.Spec PyProof.Rows L2
def oddL : List V := [.str "", .str "A", .str "a b", .str "abcdefghijklm", .str "a_b", .int 7, .non, .str "b-", .str " ", .str "-1", .str "a.", .str "aZ9"]
theorem odd_free : ∀ v ∈ oddL, Free v := fun v hv => by
  unfold oddL at hv
  simp only [List.mem_cons, List.not_mem_nil, or_false] at hv
  rcases hv with rfl | rfl | rfl | rfl | rfl | rfl | rfl | rfl | rfl | rfl | rfl | rfl
  case inr.inr.inr.inr.inr.inl => exact fun _ => trivial
  case inr.inr.inr.inr.inr.inr.inl => exact fun _ => trivial
  all_goals exact free_lit (by decide +kernel) (by decide +kernel)
def spOdd : Sp := fun vs H Q _ => ∃ n : Int, vs = [.int n] ∧ 0 ≤ n ∧ n < 12 ∧ ∀ H' v, Same H H' → Free v → Q v H'
section
variable {P : Program} {w : World} {K : PySem.W.Frag} {mg : Str → Option Value} {base : Heap}
theorem scOdd : FnScope ["_law_cell"] ["_law_cell"] (defScope sLawOddName) := ⟨rfl, rfl, rfl, by decide +kernel, rfl, by decide +kernel, by decide +kernel⟩
theorem ok_odd {f : Addr} {fd : FuncData} (F : Fun K "_law_odd_name" "_law_odd_name" sLawOddName f fd) : FnOk P w K mg base CX0 1 f fd ["_law_cell"] spOdd := by
  refine F.ok scOdd (fun vs H Q E h => ?_) (fun cdv A outer s H vs Q E hr h => ?_)
  · obtain ⟨n, rfl, _⟩ := h
    rfl
  · obtain ⟨n, rfl, n0, n12, k⟩ := h
    refine ⟨_, (pss_one (ps_ret (pe_ix ix_list (pe_lst (pa_cons pe_str (pa_cons pe_str (pa_cons pe_str (pa_cons pe_str (pa_cons pe_str (pa_cons pe_int (pa_cons pe_non (pa_cons pe_str (pa_cons pe_str (pa_cons pe_str (pa_cons pe_str (pa_cons pe_str pa_nil))))))))))))) (pv 0) (fun _ _ => rfl)))), ?_⟩
    refine ⟨by show 12 ≤ sizeLine; decide, fun q hq => ?_⟩
    obtain ⟨n, rfl⟩ := Int.eq_ofNat_of_zero_le n0
    have hn : n < oddL.length := by show n < 12; omega
    exact ⟨_, rfl, q, oddL, (n : Int), oddL[n], rfl, rfl, SqL.of upd_same, atI_nat (List.getElem?_eq_getElem hn), k _ _ (Same.upd_new hq) (odd_free _ (List.getElem_mem hn))⟩
end
end Dl

namespace Dl
open PySem PySem.Spec PyProof.Rows L2
structure TxtL30 (mg : Str → Option Value) : Prop where
  list : mg "list" = none
  len : mg "len" = none
  range : mg "range" = none
theorem atI_ge {xs : List V} {j : Nat} {v : V} (h : xs[j]? = some v) : atI xs ((j : Nat) : Int) = some v := by
  unfold atI
  rw [ix_at (List.getElem?_eq_some_iff.mp h).1]
  exact h
def spLaw30 (K : PySem.W.Frag) : Sp := fun vs H Q _ => ∃ (a : Addr) (ns : List Int), vs = [.ref a] ∧ SqL K H a (ns.map V.int) ∧ ns.length ≤ 63 ∧ ∀ H', Q (.bl true) H'
theorem cutP (rs : List PairIn) : cutV (pRefs rs) none (some 1) = pRefs (rs.take 1) := by
  have e : cutV (pRefs rs) none (some ((1 : Nat) : Int)) = (pRefs rs).take 1 := cut_take1 _ 1
  unfold pRefs at *
  rw [List.map_take]
  exact e
section
variable {P : Program} {w : World} {K : PySem.W.Frag} {mg : Str → Option Value} {base : Heap}
theorem scLaw30 : FnScope ["_law_script", "_law_bag_here", "_law_looks", "_law_pairs", "_law_k", "_law_pool", "_law_due", "_law_odd", "_law_extra"] ["_law_script"] (defScope sLaw) := ⟨rfl, rfl, rfl, by decide +kernel, rfl, by decide +kernel, by decide +kernel⟩
theorem ok_law30 {f : Addr} {fd : FuncData} (F : Fun K "law" "law" sLaw f fd) (T : TxtL30 mg)
    (gB : Dfn P w K mg base CX0 1 "_law_bag" ["_law_script"] (spBag K)) (gT : Dfn P w K mg base CX0 1 "_law_take" ["_law_bag_here", "_law_size"] spTake)
    (gN : Dfn P w K mg base CX0 3 "_law_names" ["_law_bag_here", "_law_count"] spNames) (gO : Dfn P w K mg base CX0 1 "_law_odd_name" ["_law_cell"] spOdd)
    (gD : Dfn P w K mg base CX0 2 "_law_pairs_due" ["_law_pairs"] (spPDue K)) (gR : Dfn P w K mg base CX0 8 "_law_raised" ["_law_pairs"] (spRaisedN K)) :
    FnOk P w K mg base CX0 9 f fd ["_law_script"] (spLaw30 K) := by
  obtain ⟨fB, dB, mBag, kBag, bBag, GBag⟩ := gB
  obtain ⟨fT, dT, mTake, kTake, bTake, GTake⟩ := gT
  obtain ⟨fN, dN, mNames, kNames, bNames, GNames⟩ := gN
  obtain ⟨fO, dO, mOdd, kOdd, bOdd, GOdd⟩ := gO
  obtain ⟨fD, dD, mDue, kDue, bDue, GDue⟩ := gD
  obtain ⟨fR, dR, mRaised, kRaised, bRaised, GRaised⟩ := gR
  refine F.ok scLaw30 (fun vs H Q E h => ?_) (fun cdv A outer s H vs Q E hr h => ?_)
  · obtain ⟨a, ns, rfl, _⟩ := h
    rfl
  · obtain ⟨a0, ns, rfl, hS, hlen, k⟩ := h
    have hr8 : Room 8 _ := hr
    have hr3 : Room 3 _ := hr.mono (by decide)
    have hr2 : Room 2 _ := hr.mono (by decide)
    have hr1 : Room 1 _ := hr.mono (by decide)
    refine ⟨_, (pss_cons (ps_set (i := 1) scLaw30.nd rfl (Or.inl rfl) (pe_call GBag hr1 (by rfl) mBag kBag bBag .nil pass0 (pa_cons (pv 0) pa_nil)))
        (pss_cons (ps_set (i := 2) scLaw30.nd rfl (Or.inl rfl) (pe_call GNames hr3 (by rfl) mNames kNames bNames .nil pass0 (pa_cons (pv 1) (pa_cons (pe_op op_add pe_int (pe_call GTake hr1 (by rfl) mTake kTake bTake .nil pass0 (pa_cons (pv 1) (pa_cons pe_int pa_nil)))) pa_nil))))
        (pss_cons (ps_set (i := 3) scLaw30.nd rfl (Or.inl rfl) (pe_lst pa_nil))
        (pss_cons (ps_for PassesOwn.never rfl (pi_range1 (by rfl) T.range (pa_cons (pe_call GTake hr1 (by rfl) mTake kTake bTake .nil pass0 (pa_cons (pv 1) (pa_cons pe_int pa_nil))) pa_nil)) (pg_name (i := 4) scLaw30.nd rfl (Or.inl rfl)) (pss_cons (ps_set (i := 5) scLaw30.nd rfl (Or.inl rfl) (pe_op op_cat (pe_op op_cat (pe_op op_cat (pv 2) (pv 2)) (pv 2)) (pe_lst (pa_cons (pe_call GOdd hr1 (by rfl) mOdd kOdd bOdd .nil pass0 (pa_cons (pe_call GTake hr1 (by rfl) mTake kTake bTake .nil pass0 (pa_cons (pv 1) (pa_cons pe_int pa_nil))) pa_nil)) pa_nil))))
        (pss_one (ps_expr (pe_bm PySem.F.plainAttrs_list PySem.F.slot_list_append PySem.F.type_list_append mt_append (pv 3) (pa_cons (pe_tup (pa_cons (pe_ix ix_list (pv 5) (pe_call GTake hr1 (by rfl) mTake kTake bTake .nil pass0 (pa_cons (pv 1) (pa_cons (pe_callB call_len_seq (by rfl) T.len PySem.boot_len (pa_cons (pv 5) pa_nil)) pa_nil))) (fun _ _ => rfl)) (pa_cons (pe_ix ix_list (pv 5) (pe_call GTake hr1 (by rfl) mTake kTake bTake .nil pass0 (pa_cons (pv 1) (pa_cons (pe_callB call_len_seq (by rfl) T.len PySem.boot_len (pa_cons (pv 5) pa_nil)) pa_nil))) (fun _ _ => rfl)) pa_nil))) pa_nil))))))
        (pss_cons (ps_set (i := 6) scLaw30.nd rfl (Or.inl rfl) (pe_call GDue hr2 (by rfl) mDue kDue bDue .nil pass0 (pa_cons (pv 3) pa_nil)))
        (pss_cons (ps_if (PW.pt (pw_or (pt_cmpR (op_neD hr.units) (pe_call GRaised hr8 (by rfl) mRaised kRaised bRaised .nil pass0 (pa_cons (pe_callTy call_list_of (by rfl) T.list (by decide +kernel) (pa_cons (pv 3) pa_nil)) pa_nil)) (pv 6) (nomark _)) (pw_or1 (pt_cmpR (op_neD hr.units) (pe_call GRaised hr8 (by rfl) mRaised kRaised bRaised .nil pass0 (pa_cons (pe_callTy call_list_of (by rfl) T.list (by decide +kernel) (pa_cons (pv 3) pa_nil)) pa_nil)) (pv 6) (nomark _))))) (pss_one (ps_ret pe_bl)) pss_nil)
        (pss_cons (ps_for PassesOwn.never rfl (pi_list (pe_lst (pa_cons (pe_lst (pa_cons pe_str pa_nil)) (pa_cons (pe_lst pa_nil) pa_nil)))) (pg_name (i := 7) scLaw30.nd rfl (Or.inl rfl)) (pss_one (ps_for PassesOwn.never rfl (pi_list (pe_lst (pa_cons (pe_tup (pa_cons (pv 7) (pa_cons (pe_ix ix_list (pv 2) pe_int (fun _ _ => rfl)) pa_nil))) (pa_cons (pe_tup (pa_cons (pe_ix ix_list (pv 2) pe_int (fun _ _ => rfl)) (pa_cons (pv 7) pa_nil))) (pa_cons (pe_tup (pa_cons (pv 7) (pa_cons (pv 7) pa_nil))) pa_nil))))) (pg_name (i := 8) scLaw30.nd rfl (Or.inl rfl)) (pss_one (ps_if (pt_cmpR (op_neD hr.units) (pe_call GRaised hr8 (by rfl) mRaised kRaised bRaised .nil pass0 (pa_cons (pe_op op_cat (pe_slice sl_list (pv 3) po_none (po_some pe_int)) (pe_lst (pa_cons (pv 8) pa_nil))) pa_nil)) (pe_call GDue hr2 (by rfl) mDue kDue bDue .nil pass0 (pa_cons (pe_op op_cat (pe_slice sl_list (pv 3) po_none (po_some pe_int)) (pe_lst (pa_cons (pv 8) pa_nil))) pa_nil)) (nomark _)) (pss_one (ps_ret pe_bl)) pss_nil)))))
        (pss_one (ps_ret pe_bl))))))))), ?_⟩
    refine ⟨_, rfl, a0, ns, rfl, hS, hlen, fun H1 b L s1 hb0 hL hok => ?_⟩
    refine ⟨_, rfl, _, rfl, b, L, 4, rfl, hL, hok, by decide, by decide, fun L1 n ok1 n0 n1 => ⟨_, _, rfl, rfl, b, L1, 1 + n, rfl, upd_same, ok1, by omega, by omega, fun H2 u L2 zs s2 hun hu hb2 ok2 okz hz => ?_⟩⟩
    have nub : u ≠ b := fun e => by rw [e, upd_same] at hun; cases hun
    have zl : 1 ≤ zs.length ∧ zs.length ≤ 4 := by omega
    clear hL hok s1 s2 ok1 hun hz n0 n1
    have fz : ∀ z ∈ zs, Free (.str z) := fun z h => free_str (okz.valid h)
    -- the pairs
    refine ⟨Nat.zero_le _, fun p hp => ?_⟩
    have npb : p ≠ b := fun e => by rw [e, hb2] at hp; cases hp
    have nup : u ≠ p := ne_of_none hu hp
    have s3 := Same.upd_new hp (o := .lst ([] : List V))
    have hb3 := s3 _ _ hb2
    have hu3 := s3 _ _ hu
    have hp3 := upd_same (H := H2) (a := p) (o := .lst ([] : List V))
    have t3 : SameB b H2 (upd H2 p (.lst ([] : List V))) := SameB.of s3
    generalize upd H2 p (.lst ([] : List V)) = H3 at *
    refine ⟨_, rfl, b, L2, 4, rfl, hb3, ok2, by decide, by decide, fun L3 n ok3 n0 n1 => ⟨_, rfl, by omega, by omega, for_range (lo := 0) (fun i σ H' => ∃ (rs : List PairIn) (x4 x5 : Option V), σ = [some (.ref a0), some (.ref b), some (.ref u), some (.ref p), x4, x5, none, none, none] ∧
        SameB b H2 H' ∧ BagIn H' b ∧ H' p = some (.lst (pRefs rs)) ∧ (∀ r ∈ rs, PairF H' r) ∧ rs.length = i)
      ⟨[], none, none, rfl, fun c o n h => by rw [upd_ne n]; exact t3 _ _ n h, .upd ok3, by rw [upd_ne npb]; exact hp3, fun r h => absurd h (by simp), rfl⟩ ?_ ?_⟩⟩
    · rintro i σ H4 hi ⟨rs, x4, x5, rfl, t4, ⟨L4, hb4, ok4⟩, hp4, hrs, hl⟩
      have hu4 := t4 _ _ nub hu
      have lz : (zs.map V.str).length = zs.length := List.length_map ..
      refine ⟨_, rfl, _, rfl, u, u, _, _, rfl, rfl, hu4, hu4, Nat.le_of_lt (small1000 (by omega)), fun p1 hp1 => ?_⟩
      have s5 := Same.upd_new hp1 (o := .lst (zs.map V.str ++ zs.map V.str))
      have hp15 := upd_same (H := H4) (a := p1) (o := .lst (zs.map V.str ++ zs.map V.str))
      have hu5 := s5 _ _ hu4
      have hb5 := s5 _ _ hb4
      have hP5 := s5 _ _ hp4
      have f5 : ∀ r ∈ rs, PairF (upd H4 p1 (.lst (zs.map V.str ++ zs.map V.str))) r := fun r h => (hrs r h).of s5
      have t5 := t4.trans (SameB.of s5)
      generalize upd H4 p1 (.lst (zs.map V.str ++ zs.map V.str)) = H5 at *
      refine ⟨_, rfl, p1, u, _, _, rfl, rfl, hp15, hu5, Nat.le_of_lt (small1000 (by rw [List.length_append]; omega)), fun p2 hp2 => ?_⟩
      have s6 := Same.upd_new hp2 (o := .lst ((zs.map V.str ++ zs.map V.str) ++ zs.map V.str))
      have hp26 := upd_same (H := H5) (a := p2) (o := .lst ((zs.map V.str ++ zs.map V.str) ++ zs.map V.str))
      have hb6 := s6 _ _ hb5
      have hP6 := s6 _ _ hP5
      have np2b : p2 ≠ b := fun e => by rw [e, hb5] at hp2; cases hp2
      have f6 : ∀ r ∈ rs, PairF (upd H5 p2 (.lst ((zs.map V.str ++ zs.map V.str) ++ zs.map V.str))) r := fun r h => (f5 r h).of s6
      have t6 := t5.trans (SameB.of s6)
      generalize upd H5 p2 (.lst ((zs.map V.str ++ zs.map V.str) ++ zs.map V.str)) = H6 at *
      refine ⟨_, rfl, b, L4, 12, rfl, hb6, ok4, by decide, by decide, fun L7 c ok7 c0 c1 => ⟨c, rfl, c0, c1, fun H7 v s7 fv => ⟨by show 1 ≤ sizeLine; decide, fun p3 hp3 => ?_⟩⟩⟩
      have s8 := s7.trans (Same.upd_new hp3 (o := .lst [v]))
      have hp38 := upd_same (H := H7) (a := p3) (o := .lst [v])
      have hb8 := s8 _ _ (upd_same (H := H6) (a := b) (o := .lst (L7.map V.int)))
      have hP8 := s8 _ _ (by rw [upd_ne npb]; exact hP6)
      have hp28 := s8 _ _ (by rw [upd_ne np2b]; exact hp26)
      have f8 : ∀ r ∈ rs, PairF (upd H7 p3 (.lst [v])) r := fun r h => ((f6 r h).ofB ⟨_, hb6⟩ (draw_same (L := L7))).of s8
      have t8 := t6.trans ((draw_same (L := L7)).trans (SameB.of s8))
      generalize upd H7 p3 (.lst [v]) = H8 at *
      refine ⟨p2, p3, _, _, rfl, rfl, hp28, hp38, Nat.le_of_lt (small1000 (by simp only [List.length_append, List.length_cons, List.length_nil]; omega)), fun p4 hp4n => ?_⟩
      have hall : ∀ x ∈ ((zs.map V.str ++ zs.map V.str) ++ zs.map V.str) ++ [v], Free x := fun x hx => by
        have one : ∀ x ∈ zs.map V.str, Free x := fun x hx => by
          obtain ⟨z, hz, rfl⟩ := List.mem_map.mp hx
          exact fz z hz
        rcases List.mem_append.mp hx with h | h
        · rcases List.mem_append.mp h with h | h
          · rcases List.mem_append.mp h with h | h <;> exact one x h
          · exact one x h
        · rw [List.mem_singleton.mp h]; exact fv
      have plen : 1 ≤ (((zs.map V.str ++ zs.map V.str) ++ zs.map V.str) ++ [v]).length ∧ (((zs.map V.str ++ zs.map V.str) ++ zs.map V.str) ++ [v]).length ≤ 100 := by simp only [List.length_append, List.length_cons, List.length_nil]; omega
      generalize ((zs.map V.str ++ zs.map V.str) ++ zs.map V.str) ++ [v] = pool at *
      have s9 := Same.upd_new hp4n (o := .lst pool)
      have hp49 := upd_same (H := H8) (a := p4) (o := .lst pool)
      have hb9 := s9 _ _ hb8
      have hP9 := s9 _ _ hP8
      have np4b : p4 ≠ b := fun e => by rw [e, hb8] at hp4n; cases hp4n
      have f9 : ∀ r ∈ rs, PairF (upd H8 p4 (.lst pool)) r := fun r h => (f8 r h).of s9
      have t9 := t8.trans (SameB.of s9)
      generalize upd H8 p4 (.lst pool) = H9 at *
      clear hb4 hp4 hrs hu4 hp1 s5 hp15 hu5 hb5 hP5 f5 t5 t4 hp2 s6 hp26 hb6 hP6 np2b f6 t6 hp3 s8 hp38 hb8 hP8 hp28 f8 t8 hp4n s9 ok4 s7 fv
      refine ⟨_, rfl, .inl ⟨rfl, _, SqL.of hP9⟩, _, rfl, _, rfl, _, rfl, p4, _, rfl, .inl (SqL.of hp49), b, L7, _, rfl, hb9, ok7, by omega, by omega, fun L10 j ok10 j0 j1 => ?_⟩
      obtain ⟨v1, e1, m1⟩ := atI_mem j0 j1
      refine ⟨p4, pool, j, v1, rfl, rfl, SqL.of (by rw [upd_ne np4b]; exact hp49), e1, ?_⟩
      have f10 : ∀ r ∈ rs, PairF (upd H9 b (.lst (L10.map V.int))) r := fun r h => (f9 r h).ofB ⟨_, hb9⟩ draw_same
      have t10 := t9.trans (draw_same (L := L10))
      have hb10 := upd_same (H := H9) (a := b) (o := .lst (L10.map V.int))
      have hp410 := draw_same (L := L10) _ _ np4b hp49
      have hP10 := draw_same (L := L10) _ _ npb hP9
      generalize upd H9 b (.lst (L10.map V.int)) = H10 at *
      refine ⟨_, rfl, _, rfl, _, rfl, p4, _, rfl, .inl (SqL.of hp410), b, L10, _, rfl, hb10, ok10, by omega, by omega, fun L11 j' ok11 j0' j1' => ?_⟩
      obtain ⟨v2, e2, m2⟩ := atI_mem j0' j1'
      refine ⟨p4, pool, j', v2, rfl, rfl, SqL.of (by rw [upd_ne np4b]; exact hp410), e2, ?_⟩
      have f11 : ∀ r ∈ rs, PairF (upd H10 b (.lst (L11.map V.int))) r := fun r h => (f10 r h).ofB ⟨_, hb10⟩ draw_same
      have t11 := t10.trans (draw_same (L := L11))
      have hb11 := upd_same (H := H10) (a := b) (o := .lst (L11.map V.int))
      have hP11 := draw_same (L := L11) _ _ npb hP10
      generalize upd H10 b (.lst (L11.map V.int)) = H11 at *
      refine ⟨by show 2 ≤ sizeLine; decide, fun t ht => ?_⟩
      have s12 := Same.upd_new ht (o := .tup [v1, v2])
      have ht12 := upd_same (H := H11) (a := t) (o := .tup [v1, v2])
      have hP12 := s12 _ _ hP11
      have hb12 := s12 _ _ hb11
      have f12 : ∀ r ∈ rs, PairF (upd H11 t (.tup [v1, v2])) r := fun r h => (f11 r h).of s12
      have t12 := t11.trans (SameB.of s12)
      generalize upd H11 t (.tup [v1, v2]) = H12 at *
      refine ⟨p, _, _, rfl, rfl, hP12, by unfold pRefs; rw [List.length_map]; exact small1000 (by omega), ?_⟩
      have keep : ∀ {r : PairIn}, PairF H12 r → PairF (upd H12 p (.lst (pRefs rs ++ [.ref t]))) r := fun {r} h => ⟨by rw [upd_ne (fun e => by have q := h.pair; rw [e, hP12] at q; cases q)]; exact h.pair, h.nb, h.na⟩
      refine ⟨rs ++ [⟨t, v1, v2⟩], _, _, rfl, fun c o n h => ?_, ⟨L11, by rw [upd_ne npb.symm]; exact hb12, ok11⟩, ?_, fun r h => ?_, by rw [List.length_append, hl]; rfl⟩
      · rw [upd_ne (ne_of_none h hp)]
        exact t12 _ _ n h
      · rw [upd_same]
        unfold pRefs
        rw [List.map_append]
        rfl
      · rcases List.mem_append.mp h with h | h
        · exact keep (f12 r h)
        · obtain rfl := List.mem_singleton.mp h
          exact keep ⟨ht12, hall _ m1, hall _ m2⟩
    rintro σ H4 ⟨rs, x4, x5, rfl, t4, _, hp4, hrs, hl⟩
    have hu4 := t4 _ _ nub hu
    have rl : rs.length ≤ 3 := by omega
    clear t4 hb3 hu3 hp3 t3 s3 hu hp hb2 ok2
    have dp : ∀ {H' : Hp}, Same H4 H' → ∀ r ∈ rs, PairD K H' r := fun s r h => ((hrs r h).of s).d
    -- due
    refine ⟨_, rfl, p, rs, rfl, SqL.of hp4, fun r h => (dp (Same.refl _) r h).ok, fun H5 v5 s5 due5 => ?_⟩
    refine ⟨_, rfl, p, _, rfl, .inl (SqL.of (s5 _ _ hp4)), fun q1 hq1 => ?_⟩
    have s6 := s5.trans (Same.upd_new hq1 (o := .lst (pRefs rs)))
    have d6 := due5.of (Same.upd_new hq1 (o := .lst (pRefs rs)))
    refine ⟨q1, rs, rfl, SqL.of upd_same, dp s6, rl, fun H7 v7 s7 due7 => ?_⟩
    obtain ⟨d, e, p1, p2, sh1, sh2, eq⟩ := due_eq (dp (s6.trans s7)) due7 (d6.of s7)
    refine ⟨_, rfl, d, e, p1, p2, sh1, sh2, _, rfl, iteZ (by rw [eq]; rfl) ?_⟩
    have s47 := s6.trans s7
    have d7 := d6.of s7
    clear due7 p1 p2 sh1 sh2 eq d e hq1 s6 d6 s7 due5 s5
    refine ⟨_, rfl, p, _, rfl, .inl (SqL.of (s47 _ _ hp4)), fun q1 hq1 => ?_⟩
    have s8 := s47.trans (Same.upd_new hq1 (o := .lst (pRefs rs)))
    have d8 := d7.of (Same.upd_new hq1 (o := .lst (pRefs rs)))
    refine ⟨q1, rs, rfl, SqL.of upd_same, dp s8, rl, fun H9 v9 s9 due9 => ?_⟩
    obtain ⟨d, e, p1, p2, sh1, sh2, eq⟩ := due_eq (dp (s8.trans s9)) due9 (d8.of s9)
    refine ⟨_, rfl, d, e, p1, p2, sh1, sh2, _, rfl, iteZ (by rw [eq]; rfl) ?_⟩
    have s49 := s8.trans s9
    clear due9 p1 p2 sh1 sh2 eq d e hq1 s8 d8 s9 d7 s47
    -- lists as names
    refine ⟨by show 1 ≤ sizeLine; decide, fun l1 hl1 => ?_⟩
    have s10 := s49.trans (Same.upd_new hl1 (o := .lst [.str "x"]))
    have e1 := upd_same (H := H9) (a := l1) (o := .lst [.str "x"])
    generalize upd H9 l1 (.lst [.str "x"]) = H10 at *
    refine ⟨Nat.zero_le _, fun l2 hl2 => ?_⟩
    have s11 := s10.trans (Same.upd_new hl2 (o := .lst ([] : List V)))
    have e2 := upd_same (H := H10) (a := l2) (o := .lst ([] : List V))
    have e1' := (Same.upd_new hl2 (o := .lst ([] : List V))) _ _ e1
    generalize upd H10 l2 (.lst ([] : List V)) = H11 at *
    refine ⟨by show 2 ≤ sizeLine; decide, fun l3 hl3 => ?_⟩
    have s12 := s11.trans (Same.upd_new hl3 (o := .lst [.ref l1, .ref l2]))
    have e3 := upd_same (H := H11) (a := l3) (o := .lst [.ref l1, .ref l2])
    have e1'' := (Same.upd_new hl3 (o := .lst [.ref l1, .ref l2])) _ _ e1'
    have e2'' := (Same.upd_new hl3 (o := .lst [.ref l1, .ref l2])) _ _ e2
    generalize upd H11 l3 (.lst [.ref l1, .ref l2]) = H12 at *
    have xcan : canS "x" := by unfold canS; decide +kernel
    have both : ∀ v ∈ [V.ref l1, .ref l2], NmD H12 v := fun v hv => by
      rcases List.mem_cons.mp hv with rfl | hv
      · exact ⟨["x"], e1'', fun z hz => by obtain rfl := List.mem_singleton.mp hz; exact xcan⟩
      · obtain rfl := List.mem_singleton.mp hv
        exact ⟨[], e2'', fun z hz => absurd hz (by simp)⟩
    have hz0 : 0 < zs.length := by omega
    have fz0 : Free (.str zs[0]) := fz _ (List.getElem_mem hz0)
    have at0 : atI (zs.map V.str) 0 = some (.str zs[0]) := by
      have q := atI_ge (xs := zs.map V.str) (j := 0) (v := .str zs[0]) (by rw [List.getElem?_map, List.getElem?_eq_getElem hz0]; rfl)
      exact q
    refine ⟨l3, rfl, ⟨_, SqL.of e3⟩, for_it (walk_list (K := K) (a := l3) (xs := [.ref l1, .ref l2])) (fun i σ H' => ∃ (x7 x8 : Option V), σ = [some (.ref a0), some (.ref b), some (.ref u), some (.ref p), x4, x5, some v5, x7, x8] ∧ Same H12 H')
      ⟨none, none, rfl, Same.refl _⟩ (fun i σ H' _ ⟨_, _, _, s⟩ => SqL.of (s _ _ e3)) ?_ ?_⟩
    · rintro i v σ H13 H14 hi ⟨x7, x8, rfl, s13⟩ ⟨rfl, hv⟩
      have nv := (both v (List.mem_of_getElem? hv)).of s13
      have s413 := s12.trans s13
      have hu13 := s413 _ _ hu4
      refine ⟨_, rfl, _, rfl, u, _, 0, _, rfl, rfl, SqL.of hu13, at0, by show 2 ≤ sizeLine; decide, fun t1 ht1 => ?_⟩
      have r1 := Same.upd_new ht1 (o := .tup [v, .str zs[0]])
      have g1 := upd_same (H := H14) (a := t1) (o := .tup [v, .str zs[0]])
      generalize upd H14 t1 (.tup [v, .str zs[0]]) = H15 at *
      refine ⟨_, rfl, u, _, 0, _, rfl, rfl, SqL.of (r1 _ _ hu13), at0, _, rfl, by show 2 ≤ sizeLine; decide, fun t2 ht2 => ?_⟩
      have r2 := Same.upd_new ht2 (o := .tup [.str zs[0], v])
      have g2 := upd_same (H := H15) (a := t2) (o := .tup [.str zs[0], v])
      have g1' := r2 _ _ g1
      generalize upd H15 t2 (.tup [.str zs[0], v]) = H16 at *
      refine ⟨_, rfl, _, rfl, by show 2 ≤ sizeLine; decide, fun t3 ht3 => ?_⟩
      have r3 := Same.upd_new ht3 (o := .tup [v, v])
      have g3 := upd_same (H := H16) (a := t3) (o := .tup [v, v])
      have g1'' := r3 _ _ g1'
      have g2' := r3 _ _ g2
      generalize upd H16 t3 (.tup [v, v]) = H17 at *
      refine ⟨by show 3 ≤ sizeLine; decide, fun l4 hl4 => ?_⟩
      have r4 := Same.upd_new hl4 (o := .lst [.ref t1, .ref t2, .ref t3])
      have g4 := upd_same (H := H17) (a := l4) (o := .lst [.ref t1, .ref t2, .ref t3])
      have k1 := r4 _ _ g1''
      have k2 := r4 _ _ g2'
      have k3 := r4 _ _ g3
      generalize upd H17 l4 (.lst [.ref t1, .ref t2, .ref t3]) = H18 at *
      have r18 := r1.trans (r2.trans (r3.trans r4))
      have s18 := s413.trans r18
      have nv18 := nv.of r18
      have three : ∀ x ∈ [V.ref t1, .ref t2, .ref t3], ∃ r : PairIn, x = .ref r.t ∧ PairD K H18 r := fun x hx => by
        rcases List.mem_cons.mp hx with rfl | hx
        · exact ⟨⟨t1, v, .str zs[0]⟩, rfl, SqT.of k1, nv18, fz0 _⟩
        rcases List.mem_cons.mp hx with rfl | hx
        · exact ⟨⟨t2, .str zs[0], v⟩, rfl, SqT.of k2, fz0 _, nv18⟩
        · obtain rfl := List.mem_singleton.mp hx
          exact ⟨⟨t3, v, v⟩, rfl, SqT.of k3, nv18, nv18⟩
      refine ⟨l4, rfl, ⟨_, SqL.of g4⟩, for_it (walk_list (K := K) (a := l4) (xs := [.ref t1, .ref t2, .ref t3])) (fun i σ H' => ∃ (x8 : Option V), σ = [some (.ref a0), some (.ref b), some (.ref u), some (.ref p), x4, x5, some v5, some v, x8] ∧ Same H18 H')
        ⟨x8, rfl, Same.refl _⟩ (fun i σ H' _ ⟨_, _, s⟩ => SqL.of (s _ _ g4)) ?_ ?_⟩
      · rintro j y σ H19 H20 hj ⟨x8', rfl, s19⟩ ⟨rfl, hy⟩
        obtain ⟨r, rfl, hr18⟩ := three y (List.mem_of_getElem? hy)
        have s20 := s18.trans s19
        have hr20 := hr18.of s19
        have many : ∀ {H' : Hp}, Same H20 H' → ∀ q ∈ rs.take 1 ++ [r], PairD K H' q := fun s q hq => by
          rcases List.mem_append.mp hq with h | h
          · exact dp (s20.trans s) q (List.mem_of_mem_take h)
          · obtain rfl := List.mem_singleton.mp h; exact hr20.of s
        have few : (rs.take 1 ++ [r]).length ≤ 3 := by simp only [List.length_append, List.length_take, List.length_cons, List.length_nil]; omega
        have eqr : pRefs (rs.take 1) ++ [V.ref r.t] = pRefs (rs.take 1 ++ [r]) := by unfold pRefs; rw [List.map_append]; rfl
        have l1e : (pRefs (rs.take 1)).length ≤ 1 := by unfold pRefs; rw [List.length_map, List.length_take]; omega
        refine ⟨_, rfl, 1, rfl, p, _, rfl, SqL.of (s20 _ _ hp4), fun p1 hp1 => ?_⟩
        rw [cutP]
        have w1 := Same.upd_new hp1 (o := .lst (pRefs (rs.take 1)))
        have y1 := upd_same (H := H20) (a := p1) (o := .lst (pRefs (rs.take 1)))
        generalize upd H20 p1 (.lst (pRefs (rs.take 1))) = H21 at *
        refine ⟨_, rfl, by show 1 ≤ sizeLine; decide, fun p2 hp2 => ?_⟩
        have w2 := Same.upd_new hp2 (o := .lst [.ref r.t])
        have y2 := upd_same (H := H21) (a := p2) (o := .lst [.ref r.t])
        have y1' := w2 _ _ y1
        generalize upd H21 p2 (.lst [.ref r.t]) = H22 at *
        refine ⟨p1, p2, _, _, rfl, rfl, y1', y2, Nat.le_of_lt (small1000 (by simp only [List.length_cons, List.length_nil]; omega)), fun p3 hp3 => ?_⟩
        rw [eqr]
        have w3 := Same.upd_new hp3 (o := .lst (pRefs (rs.take 1 ++ [r])))
        have y3 := upd_same (H := H22) (a := p3) (o := .lst (pRefs (rs.take 1 ++ [r])))
        generalize upd H22 p3 (.lst (pRefs (rs.take 1 ++ [r]))) = H23 at *
        have w13 := w1.trans (w2.trans w3)
        refine ⟨p3, rs.take 1 ++ [r], rfl, SqL.of y3, many w13, few, fun H24 v24 w24 due24 => ?_⟩
        have w14 := w13.trans w24
        refine ⟨_, rfl, 1, rfl, p, _, rfl, SqL.of ((s20.trans w14) _ _ hp4), fun p4 hp4' => ?_⟩
        rw [cutP]
        have w4 := Same.upd_new hp4' (o := .lst (pRefs (rs.take 1)))
        have y4 := upd_same (H := H24) (a := p4) (o := .lst (pRefs (rs.take 1)))
        generalize upd H24 p4 (.lst (pRefs (rs.take 1))) = H25 at *
        refine ⟨_, rfl, by show 1 ≤ sizeLine; decide, fun p5 hp5 => ?_⟩
        have w5 := Same.upd_new hp5 (o := .lst [.ref r.t])
        have y5 := upd_same (H := H25) (a := p5) (o := .lst [.ref r.t])
        have y4' := w5 _ _ y4
        generalize upd H25 p5 (.lst [.ref r.t]) = H26 at *
        refine ⟨p4, p5, _, _, rfl, rfl, y4', y5, Nat.le_of_lt (small1000 (by simp only [List.length_cons, List.length_nil]; omega)), fun p6 hp6 => ?_⟩
        rw [eqr]
        have w6 := Same.upd_new hp6 (o := .lst (pRefs (rs.take 1 ++ [r])))
        have y6 := upd_same (H := H26) (a := p6) (o := .lst (pRefs (rs.take 1 ++ [r])))
        generalize upd H26 p6 (.lst (pRefs (rs.take 1 ++ [r]))) = H27 at *
        have w46 := w4.trans (w5.trans w6)
        have w16 := w14.trans w46
        refine ⟨p6, rs.take 1 ++ [r], rfl, SqL.of y6, fun q hq => (many w16 q hq).ok, fun H28 v28 w28 due28 => ?_⟩
        obtain ⟨d, e, q1, q2, sh1, sh2, eq⟩ := due_eq (many (w16.trans w28)) (due24.of (w46.trans w28)) due28
        refine ⟨d, e, q1, q2, sh1, sh2, _, rfl, iteZ (by rw [eq]; rfl) ?_⟩
        exact ⟨_, rfl, s19.trans (w16.trans w28)⟩
      · rintro σ H19 ⟨x8', rfl, s19⟩
        exact ⟨_, _, rfl, s13.trans (r18.trans s19)⟩
    · rintro σ H13 ⟨x7, x8, rfl, s13⟩
      exact k H13
end
end Dl

namespace Dl
open PySem PySem.Spec PyProof.Rows L2
theorem own_exm {K : PySem.W.Frag} {S : Addr} (h1 : PySem.W.subIn K (.ref S) (.type "BaseException") = some true) (h2 : PySem.W.isClsIn K S = true) (h3 : PySem.W.typeIn K (.ref S) = some (.type "type")) (h4 : PySem.W.subIn K (.ref S) (.ref S) = some true) :
    PySem.W.exmOne K (.ref S) (.ref S) = some true := by
  have h5 : ((PySem.W.clsIn K S).isSome && PySem.W.typeIn K (.ref S) == some (.type "type")) = true := by
    rw [h3]
    simpa using (show (PySem.W.clsIn K S).isSome = true from h2)
  have h6 : (PySem.W.subIn K (.ref S) (.type "BaseException") == some true) = true := by rw [h1]; rfl
  have whole : PySem.W.exmOne K (.ref S) (.ref S) = if (PySem.W.subIn K (.ref S) (.type "BaseException") == some true) = true then (if ((PySem.W.clsIn K S).isSome && PySem.W.typeIn K (.ref S) == some (.type "type")) = true then PySem.W.subIn K (.ref S) (.ref S) else none) else none := rfl
  rw [whole, if_pos h6, if_pos h5, h4]
theorem all_mk {l : PySem.W.OpenLaw} {w : World} {K : PySem.W.Frag} {h : Heap} {mg : Str → Option Value} {fa f_is_name f_check_name f_law_bag f_law_take f_law_name f_law_names f_law_fault f_law_odd_name f_law_pairs_due f_law_raised f_law C_InvalidName f_InvalidName C_InvalidNote f_InvalidNote C_DimmerError C_Notes f_Notes_init : Addr} (X : K.In h) (G : h.Ns mainGlobals mg) (hfa : mg "law" = some (.ref fa))
    {od_is_name an_is_name od_check_name an_check_name od_law_bag an_law_bag od_law_take an_law_take od_law_name an_law_name od_law_names an_law_names od_law_fault an_law_fault od_law_odd_name an_law_odd_name od_law_pairs_due an_law_pairs_due od_law_raised an_law_raised od_law an_law od_InvalidName an_InvalidName od_InvalidNote an_InvalidNote od_Notes_init an_Notes_init : Option Addr} {sl_is_name sl_check_name sl_law_bag sl_law_take sl_law_name sl_law_names sl_law_fault sl_law_odd_name sl_law_pairs_due sl_law_raised sl_law sl_InvalidName sl_InvalidNote sl_Notes_init : Array (Option Value)} {oc_is_name kV_is_name dc_is_name pm_is_name cd_is_name ct_is_name oc_check_name kV_check_name dc_check_name pm_check_name cd_check_name ct_check_name oc_law_bag kV_law_bag dc_law_bag pm_law_bag cd_law_bag ct_law_bag oc_law_take kV_law_take dc_law_take pm_law_take cd_law_take ct_law_take oc_law_name kV_law_name dc_law_name pm_law_name cd_law_name ct_law_name oc_law_names kV_law_names dc_law_names pm_law_names cd_law_names ct_law_names oc_law_fault kV_law_fault dc_law_fault pm_law_fault cd_law_fault ct_law_fault oc_law_odd_name kV_law_odd_name dc_law_odd_name pm_law_odd_name cd_law_odd_name ct_law_odd_name oc_law_pairs_due kV_law_pairs_due dc_law_pairs_due pm_law_pairs_due cd_law_pairs_due ct_law_pairs_due oc_law_raised kV_law_raised dc_law_raised pm_law_raised cd_law_raised ct_law_raised oc_law kV_law dc_law pm_law cd_law ct_law oc_InvalidName kV_InvalidName dc_InvalidName pm_InvalidName cd_InvalidName ct_InvalidName oc_InvalidNote kV_InvalidNote dc_InvalidNote pm_InvalidNote cd_InvalidNote ct_InvalidNote oc_Notes_init kV_Notes_init dc_Notes_init pm_Notes_init cd_Notes_init ct_Notes_init : Value} {t_LONGEST t_SIGNS : Tok}
    {nm_InvalidName q_InvalidName : Str} {N_InvalidName : Addr} {bs_InvalidName bm_InvalidName : List Value} {sn_InvalidName : List Str} {sub_InvalidName : List Value} {ab_InvalidName : Bool} {col_InvalidName : Option Bool} {dd_InvalidName : Option Addr} {m0_InvalidName m1_InvalidName m2_InvalidName m3_InvalidName m5_InvalidName : Option Value}
    {nm_InvalidNote q_InvalidNote : Str} {N_InvalidNote : Addr} {bs_InvalidNote bm_InvalidNote : List Value} {sn_InvalidNote : List Str} {sub_InvalidNote : List Value} {ab_InvalidNote : Bool} {col_InvalidNote : Option Bool} {dd_InvalidNote : Option Addr} {m0_InvalidNote m1_InvalidNote m2_InvalidNote m3_InvalidNote m5_InvalidNote : Option Value}
    (a_is_name : PySem.W.nsIn K mainGlobals "is_name" = some (some (.ref f_is_name)))
    (l_is_name : K.lookup f_is_name = some ⟨oc_is_name, od_is_name, .func (PySem.W.fnOf "is_name" "is_name" (defArgs sIsName) (defBody sIsName) (defScope sIsName) .none kV_is_name dc_is_name pm_is_name an_is_name cd_is_name ct_is_name), sl_is_name⟩)
    (c_is_name : PySem.W.codeIn K cd_is_name "is_name" = true)
    (k_is_name : PySem.W.keepIn K (.ref f_is_name) = true)
    (a_check_name : PySem.W.nsIn K mainGlobals "check_name" = some (some (.ref f_check_name)))
    (l_check_name : K.lookup f_check_name = some ⟨oc_check_name, od_check_name, .func (PySem.W.fnOf "check_name" "check_name" (defArgs sCheckName) (defBody sCheckName) (defScope sCheckName) .none kV_check_name dc_check_name pm_check_name an_check_name cd_check_name ct_check_name), sl_check_name⟩)
    (c_check_name : PySem.W.codeIn K cd_check_name "check_name" = true)
    (k_check_name : PySem.W.keepIn K (.ref f_check_name) = true)
    (a_law_bag : PySem.W.nsIn K mainGlobals "_law_bag" = some (some (.ref f_law_bag)))
    (l_law_bag : K.lookup f_law_bag = some ⟨oc_law_bag, od_law_bag, .func (PySem.W.fnOf "_law_bag" "_law_bag" (defArgs sBag) (defBody sBag) (defScope sBag) .none kV_law_bag dc_law_bag pm_law_bag an_law_bag cd_law_bag ct_law_bag), sl_law_bag⟩)
    (c_law_bag : PySem.W.codeIn K cd_law_bag "_law_bag" = true)
    (k_law_bag : PySem.W.keepIn K (.ref f_law_bag) = true)
    (a_law_take : PySem.W.nsIn K mainGlobals "_law_take" = some (some (.ref f_law_take)))
    (l_law_take : K.lookup f_law_take = some ⟨oc_law_take, od_law_take, .func (PySem.W.fnOf "_law_take" "_law_take" (defArgs sTake) (defBody sTake) (defScope sTake) .none kV_law_take dc_law_take pm_law_take an_law_take cd_law_take ct_law_take), sl_law_take⟩)
    (c_law_take : PySem.W.codeIn K cd_law_take "_law_take" = true)
    (k_law_take : PySem.W.keepIn K (.ref f_law_take) = true)
    (a_law_name : PySem.W.nsIn K mainGlobals "_law_name" = some (some (.ref f_law_name)))
    (l_law_name : K.lookup f_law_name = some ⟨oc_law_name, od_law_name, .func (PySem.W.fnOf "_law_name" "_law_name" (defArgs sLawName) (defBody sLawName) (defScope sLawName) .none kV_law_name dc_law_name pm_law_name an_law_name cd_law_name ct_law_name), sl_law_name⟩)
    (c_law_name : PySem.W.codeIn K cd_law_name "_law_name" = true)
    (k_law_name : PySem.W.keepIn K (.ref f_law_name) = true)
    (a_law_names : PySem.W.nsIn K mainGlobals "_law_names" = some (some (.ref f_law_names)))
    (l_law_names : K.lookup f_law_names = some ⟨oc_law_names, od_law_names, .func (PySem.W.fnOf "_law_names" "_law_names" (defArgs sLawNames) (defBody sLawNames) (defScope sLawNames) .none kV_law_names dc_law_names pm_law_names an_law_names cd_law_names ct_law_names), sl_law_names⟩)
    (c_law_names : PySem.W.codeIn K cd_law_names "_law_names" = true)
    (k_law_names : PySem.W.keepIn K (.ref f_law_names) = true)
    (a_law_fault : PySem.W.nsIn K mainGlobals "_law_fault" = some (some (.ref f_law_fault)))
    (l_law_fault : K.lookup f_law_fault = some ⟨oc_law_fault, od_law_fault, .func (PySem.W.fnOf "_law_fault" "_law_fault" (defArgs sLawFault) (defBody sLawFault) (defScope sLawFault) .none kV_law_fault dc_law_fault pm_law_fault an_law_fault cd_law_fault ct_law_fault), sl_law_fault⟩)
    (c_law_fault : PySem.W.codeIn K cd_law_fault "_law_fault" = true)
    (k_law_fault : PySem.W.keepIn K (.ref f_law_fault) = true)
    (a_law_odd_name : PySem.W.nsIn K mainGlobals "_law_odd_name" = some (some (.ref f_law_odd_name)))
    (l_law_odd_name : K.lookup f_law_odd_name = some ⟨oc_law_odd_name, od_law_odd_name, .func (PySem.W.fnOf "_law_odd_name" "_law_odd_name" (defArgs sLawOddName) (defBody sLawOddName) (defScope sLawOddName) .none kV_law_odd_name dc_law_odd_name pm_law_odd_name an_law_odd_name cd_law_odd_name ct_law_odd_name), sl_law_odd_name⟩)
    (c_law_odd_name : PySem.W.codeIn K cd_law_odd_name "_law_odd_name" = true)
    (k_law_odd_name : PySem.W.keepIn K (.ref f_law_odd_name) = true)
    (a_law_pairs_due : PySem.W.nsIn K mainGlobals "_law_pairs_due" = some (some (.ref f_law_pairs_due)))
    (l_law_pairs_due : K.lookup f_law_pairs_due = some ⟨oc_law_pairs_due, od_law_pairs_due, .func (PySem.W.fnOf "_law_pairs_due" "_law_pairs_due" (defArgs sLawPairsDue) (defBody sLawPairsDue) (defScope sLawPairsDue) .none kV_law_pairs_due dc_law_pairs_due pm_law_pairs_due an_law_pairs_due cd_law_pairs_due ct_law_pairs_due), sl_law_pairs_due⟩)
    (c_law_pairs_due : PySem.W.codeIn K cd_law_pairs_due "_law_pairs_due" = true)
    (k_law_pairs_due : PySem.W.keepIn K (.ref f_law_pairs_due) = true)
    (a_law_raised : PySem.W.nsIn K mainGlobals "_law_raised" = some (some (.ref f_law_raised)))
    (l_law_raised : K.lookup f_law_raised = some ⟨oc_law_raised, od_law_raised, .func (PySem.W.fnOf "_law_raised" "_law_raised" (defArgs sLawRaised) (defBody sLawRaised) (defScope sLawRaised) .none kV_law_raised dc_law_raised pm_law_raised an_law_raised cd_law_raised ct_law_raised), sl_law_raised⟩)
    (c_law_raised : PySem.W.codeIn K cd_law_raised "_law_raised" = true)
    (k_law_raised : PySem.W.keepIn K (.ref f_law_raised) = true)
    (a_law : PySem.W.nsIn K mainGlobals "law" = some (some (.ref f_law)))
    (l_law : K.lookup f_law = some ⟨oc_law, od_law, .func (PySem.W.fnOf "law" "law" (defArgs sLaw) (defBody sLaw) (defScope sLaw) .none kV_law dc_law pm_law an_law cd_law ct_law), sl_law⟩)
    (c_law : PySem.W.codeIn K cd_law "law" = true)
    (k_law : PySem.W.keepIn K (.ref f_law) = true)
    (a_InvalidName : PySem.W.nsIn K mainGlobals "InvalidName" = some (some (.ref C_InvalidName)))
    (x_InvalidName : K.lookup C_InvalidName = some (excClassObj nm_InvalidName q_InvalidName C_InvalidName N_InvalidName bs_InvalidName bm_InvalidName true sn_InvalidName sub_InvalidName ab_InvalidName col_InvalidName dd_InvalidName m0_InvalidName m1_InvalidName m2_InvalidName m3_InvalidName m5_InvalidName "ValueError.__new__"))
    (hb_InvalidName : PySem.HandSPX.refsVE bm_InvalidName = true)
    (sa_InvalidName : PySem.W.findIn K (.ref C_InvalidName) "__setattr__" = some (some (.builtin "object.__setattr__")))
    (e_InvalidName : PySem.W.subIn K (.ref C_InvalidName) (.type "BaseException") = some true)
    (tc_InvalidName : PySem.W.typeIn K (.ref C_InvalidName) = some (.type "type"))
    (kc_InvalidName : PySem.W.keepIn K (.ref C_InvalidName) = true)
    (no_InvalidName : PySem.W.findIn K (.ref C_InvalidName) "name" = some none)
    (i_InvalidName : PySem.W.findIn K (.ref C_InvalidName) "__init__" = some (some (.ref f_InvalidName)))
    (ti_InvalidName : PySem.W.typeIn K (.ref f_InvalidName) = some (.type "function"))
    (l_InvalidName : K.lookup f_InvalidName = some ⟨oc_InvalidName, od_InvalidName, .func (PySem.W.fnOf "__init__" "InvalidName.__init__" (defArgs sInv) (defBody sInv) (defScope sInv) .none kV_InvalidName dc_InvalidName pm_InvalidName an_InvalidName cd_InvalidName ct_InvalidName), sl_InvalidName⟩)
    (c_InvalidName : PySem.W.codeIn K cd_InvalidName "InvalidName.__init__" = true)
    (k_InvalidName : PySem.W.keepIn K (.ref f_InvalidName) = true)
    (ga_InvalidName : PySem.W.findIn K (.ref C_InvalidName) "__getattribute__" = some (some (.builtin "BaseException.__getattribute__")))
    (gg_InvalidName : PySem.W.findIn K (.ref C_InvalidName) "__getattr__" = some none)
    (hd_InvalidName : PySem.W.hasDictIn K C_InvalidName = true)
    (ic_InvalidName : PySem.W.isClsIn K C_InvalidName = true)
    (a_InvalidNote : PySem.W.nsIn K mainGlobals "InvalidNote" = some (some (.ref C_InvalidNote)))
    (x_InvalidNote : K.lookup C_InvalidNote = some (excClassObj nm_InvalidNote q_InvalidNote C_InvalidNote N_InvalidNote bs_InvalidNote bm_InvalidNote true sn_InvalidNote sub_InvalidNote ab_InvalidNote col_InvalidNote dd_InvalidNote m0_InvalidNote m1_InvalidNote m2_InvalidNote m3_InvalidNote m5_InvalidNote "ValueError.__new__"))
    (hb_InvalidNote : PySem.HandSPX.refsVE bm_InvalidNote = true)
    (sa_InvalidNote : PySem.W.findIn K (.ref C_InvalidNote) "__setattr__" = some (some (.builtin "object.__setattr__")))
    (e_InvalidNote : PySem.W.subIn K (.ref C_InvalidNote) (.type "BaseException") = some true)
    (tc_InvalidNote : PySem.W.typeIn K (.ref C_InvalidNote) = some (.type "type"))
    (kc_InvalidNote : PySem.W.keepIn K (.ref C_InvalidNote) = true)
    (no_InvalidNote : PySem.W.findIn K (.ref C_InvalidNote) "before" = some none)
    (i_InvalidNote : PySem.W.findIn K (.ref C_InvalidNote) "__init__" = some (some (.ref f_InvalidNote)))
    (ti_InvalidNote : PySem.W.typeIn K (.ref f_InvalidNote) = some (.type "function"))
    (l_InvalidNote : K.lookup f_InvalidNote = some ⟨oc_InvalidNote, od_InvalidNote, .func (PySem.W.fnOf "__init__" "InvalidNote.__init__" (defArgs sInvalidNoteInit) (defBody sInvalidNoteInit) (defScope sInvalidNoteInit) .none kV_InvalidNote dc_InvalidNote pm_InvalidNote an_InvalidNote cd_InvalidNote ct_InvalidNote), sl_InvalidNote⟩)
    (c_InvalidNote : PySem.W.codeIn K cd_InvalidNote "InvalidNote.__init__" = true)
    (k_InvalidNote : PySem.W.keepIn K (.ref f_InvalidNote) = true)
    (ga_InvalidNote : PySem.W.findIn K (.ref C_InvalidNote) "__getattribute__" = some (some (.builtin "BaseException.__getattribute__")))
    (gg_InvalidNote : PySem.W.findIn K (.ref C_InvalidNote) "__getattr__" = some none)
    (hd_InvalidNote : PySem.W.hasDictIn K C_InvalidNote = true)
    (ic_InvalidNote : PySem.W.isClsIn K C_InvalidNote = true)
    (a_DimmerError : PySem.W.nsIn K mainGlobals "DimmerError" = some (some (.ref C_DimmerError)))
    (su_InvalidNote_InvalidNote : PySem.W.subIn K (.ref C_InvalidNote) (.ref C_InvalidNote) = some true)
    (ex_InvalidName_InvalidNote : PySem.W.exmOne K (.ref C_InvalidName) (.ref C_InvalidNote) = some false)
    (su_InvalidName_InvalidName : PySem.W.subIn K (.ref C_InvalidName) (.ref C_InvalidName) = some true)
    (a_Notes : PySem.W.nsIn K mainGlobals "Notes" = some (some (.ref C_Notes)))
    (pg_Notes : PySem.W.plainGet K C_Notes Str.empty = true)
    (hd_Notes : PySem.W.hasDictIn K C_Notes = true)
    (po_Notes : PySem.W.plainOver K C_Notes = true)
    (sa_Notes : PySem.W.findIn K (.ref C_Notes) "__setattr__" = some (some (.builtin "object.__setattr__")))
    (mk_Notes : PySem.W.makesIn K C_Notes = true)
    (kc_Notes : PySem.W.keepIn K (.ref C_Notes) = true)
    (n_Notes_pairs : PySem.W.findIn K (.ref C_Notes) "pairs" = some none)
    (i_Notes_init : PySem.W.findIn K (.ref C_Notes) "__init__" = some (some (.ref f_Notes_init)))
    (fn_Notes_init : PySem.W.isFn K (.ref f_Notes_init) = true)
    (l_Notes_init : K.lookup f_Notes_init = some ⟨oc_Notes_init, od_Notes_init, .func (PySem.W.fnOf "__init__" "Notes.__init__" (defArgs sNotesInit) (defBody sNotesInit) (defScope sNotesInit) .none kV_Notes_init dc_Notes_init pm_Notes_init an_Notes_init cd_Notes_init ct_Notes_init), sl_Notes_init⟩)
    (c_Notes_init : PySem.W.codeIn K cd_Notes_init "Notes.__init__" = true)
    (k_Notes_init : PySem.W.keepIn K (.ref f_Notes_init) = true)
    (q_after : PySem.W.findIn K (.ref C_InvalidNote) "after" = some none)
    (q_get : PySem.W.specialIn K (.builtin "object.__class__") "__get__" = some (some (.builtin "getset_descriptor.__get__")))
    (q_takes : PySem.W.takesIn K (.builtin "object.__class__") = some true)
    (q_clsI : (PySem.W.clsIn K C_InvalidName).isSome = true)
    (q_classI : PySem.W.findIn K (.ref C_InvalidName) "__class__" = some (some (.builtin "object.__class__")))
    (q_mroI : PySem.W.mroIn K C_InvalidName (.type "object") = some true)
    (q_clsN : (PySem.W.clsIn K C_InvalidNote).isSome = true)
    (q_classN : PySem.W.findIn K (.ref C_InvalidNote) "__class__" = some (some (.builtin "object.__class__")))
    (q_mroN : PySem.W.mroIn K C_InvalidNote (.type "object") = some true)
    (q_kND : PySem.W.kitOne K (.ref C_InvalidNote) (.ref C_DimmerError) = some true)
    (q_kNI : PySem.W.kitOne K (.ref C_InvalidNote) (.ref C_InvalidName) = some false)
    (q_kID : PySem.W.kitOne K (.ref C_InvalidName) (.ref C_DimmerError) = some true)
    (q_kIV : PySem.W.kitOne K (.ref C_InvalidName) (.type "ValueError") = some true)
    (z_len : PySem.W.nsIn K mainGlobals "len" = some none)
    (z_int : PySem.W.nsIn K mainGlobals "int" = some none)
    (z_abs : PySem.W.nsIn K mainGlobals "abs" = some none)
    (z_isinstance : PySem.W.nsIn K mainGlobals "isinstance" = some none)
    (z_str : PySem.W.nsIn K mainGlobals "str" = some none)
    (z_all : PySem.W.nsIn K mainGlobals "all" = some none)
    (z_list : PySem.W.nsIn K mainGlobals "list" = some none)
    (z_range : PySem.W.nsIn K mainGlobals "range" = some none)
    (z_tuple : PySem.W.nsIn K mainGlobals "tuple" = some none)
    (z_sorted : PySem.W.nsIn K mainGlobals "sorted" = some none)
    (z_set : PySem.W.nsIn K mainGlobals "set" = some none)
    (z_ValueError : PySem.W.nsIn K mainGlobals "ValueError" = some none)
    (v_LONGEST : PySem.W.nsIn K mainGlobals "LONGEST" = some (some (.int 12 t_LONGEST)))
    (v_SIGNS : PySem.W.nsIn K mainGlobals "SIGNS" = some (some (.str SG t_SIGNS))) :
    ∃ fd : FuncData, (∀ (s : Shared) (v : Value), BindsTo s fd ⟨[v], []⟩ [("_law_script", v)]) ∧ ∀ base : Heap, K.In base → base.Ns mainGlobals mg → FnOk l.prog w K mg base CX0 9 fa fd ["_law_script"] (spLaw30 K) := by
  have e := hfa.symm.trans (PySem.W.mg_of X G a_law)
  cases e
  have n_len := PySem.W.mg_none_of X G z_len
  have n_int := PySem.W.mg_none_of X G z_int
  have n_abs := PySem.W.mg_none_of X G z_abs
  have n_isinstance := PySem.W.mg_none_of X G z_isinstance
  have n_str := PySem.W.mg_none_of X G z_str
  have n_all := PySem.W.mg_none_of X G z_all
  have n_list := PySem.W.mg_none_of X G z_list
  have n_range := PySem.W.mg_none_of X G z_range
  have n_tuple := PySem.W.mg_none_of X G z_tuple
  have n_sorted := PySem.W.mg_none_of X G z_sorted
  have n_set := PySem.W.mg_none_of X G z_set
  have n_ValueError := PySem.W.mg_none_of X G z_ValueError
  have TB : TxtB mg := ⟨n_len, n_int, n_abs⟩
  have TN : TxtN mg := ⟨n_isinstance, n_str, n_len, n_all, ⟨_, PySem.W.mg_of X G v_LONGEST⟩, ⟨_, PySem.W.mg_of X G v_SIGNS⟩⟩
  have TM : TxtM mg := ⟨n_range, n_len, n_str⟩
  have TD : TxtD mg := ⟨n_isinstance, n_str, n_len⟩
  have TL : TxtL30 mg := ⟨n_list, n_len, n_range⟩
  have cl : Cls K C_Notes := ⟨pg_Notes, hd_Notes, po_Notes, sa_Notes⟩
  have TNo : TxtNotes K mg C_Notes := ⟨cl, n_Notes_pairs, n_tuple, n_sorted, n_set⟩
  have E_I : ErrC K mg "InvalidName" "name" C_InvalidName f_InvalidName := ⟨⟨⟨_, _, _, _, _, _, _, _, _, _, _, _, _, _, _, x_InvalidName, hb_InvalidName⟩, sa_InvalidName, e_InvalidName, tc_InvalidName, kc_InvalidName⟩, PySem.W.mg_of X G a_InvalidName, i_InvalidName, ti_InvalidName, no_InvalidName⟩
  have E_N : ErrN K mg C_InvalidNote f_InvalidNote := ⟨⟨⟨_, _, _, _, _, _, _, _, _, _, _, _, _, _, _, x_InvalidNote, hb_InvalidNote⟩, sa_InvalidNote, e_InvalidNote, tc_InvalidNote, kc_InvalidNote⟩, PySem.W.mg_of X G a_InvalidNote, i_InvalidNote, ti_InvalidNote, no_InvalidNote, q_after⟩
  have XE : NExm K mg C_InvalidName C_InvalidNote C_DimmerError := ⟨n_isinstance, n_ValueError, n_len, PySem.W.mg_of X G a_DimmerError, own_exm e_InvalidNote ic_InvalidNote tc_InvalidNote su_InvalidNote_InvalidNote, ex_InvalidName_InvalidNote, own_exm e_InvalidName ic_InvalidName tc_InvalidName su_InvalidName_InvalidName,
    ⟨ga_InvalidName, gg_InvalidName, e_InvalidName, hd_InvalidName⟩, ⟨ga_InvalidNote, gg_InvalidNote, e_InvalidNote, hd_InvalidNote⟩, ⟨q_clsI, ga_InvalidName, gg_InvalidName, e_InvalidName, q_classI, q_get, q_takes, q_mroI⟩, ⟨q_clsN, ga_InvalidNote, gg_InvalidNote, e_InvalidNote, q_classN, q_get, q_takes, q_mroN⟩, q_kND, q_kNI, q_kID, q_kIV⟩
  have F_InvalidName := fun_mk (st := sInv) l_InvalidName c_InvalidName k_InvalidName
  have b_InvalidName := F_InvalidName.binds (ps := ["self", "name"]) fun _ _ _ _ _ _ us hl => match us, hl with | [_, _], _ => rfl
  have F_InvalidNote := fun_mk (st := sInvalidNoteInit) l_InvalidNote c_InvalidNote k_InvalidNote
  have b_InvalidNote := F_InvalidNote.binds (ps := ["self", "before", "after"]) fun _ _ _ _ _ _ us hl => match us, hl with | [_, _, _], _ => rfl
  have F_is_name := fun_mk (st := sIsName) l_is_name c_is_name k_is_name
  have b_is_name := F_is_name.binds (ps := ["value"]) fun _ _ _ _ _ _ us hl => match us, hl with | [_], _ => rfl
  have F_check_name := fun_mk (st := sCheckName) l_check_name c_check_name k_check_name
  have b_check_name := F_check_name.binds (ps := ["name"]) fun _ _ _ _ _ _ us hl => match us, hl with | [_], _ => rfl
  have F_law_bag := fun_mk (st := sBag) l_law_bag c_law_bag k_law_bag
  have b_law_bag := F_law_bag.binds (ps := ["_law_script"]) fun _ _ _ _ _ _ us hl => match us, hl with | [_], _ => rfl
  have F_law_take := fun_mk (st := sTake) l_law_take c_law_take k_law_take
  have b_law_take := F_law_take.binds (ps := ["_law_bag_here", "_law_size"]) fun _ _ _ _ _ _ us hl => match us, hl with | [_, _], _ => rfl
  have F_law_name := fun_mk (st := sLawName) l_law_name c_law_name k_law_name
  have b_law_name := F_law_name.binds (ps := ["_law_bag_here", "_law_used"]) fun _ _ _ _ _ _ us hl => match us, hl with | [_, _], _ => rfl
  have F_law_names := fun_mk (st := sLawNames) l_law_names c_law_names k_law_names
  have b_law_names := F_law_names.binds (ps := ["_law_bag_here", "_law_count"]) fun _ _ _ _ _ _ us hl => match us, hl with | [_, _], _ => rfl
  have F_law_fault := fun_mk (st := sLawFault) l_law_fault c_law_fault k_law_fault
  have b_law_fault := F_law_fault.binds (ps := ["_law_name_here", "_law_taken"]) fun _ _ _ _ _ _ us hl => match us, hl with | [_, _], _ => rfl
  have F_law_odd_name := fun_mk (st := sLawOddName) l_law_odd_name c_law_odd_name k_law_odd_name
  have b_law_odd_name := F_law_odd_name.binds (ps := ["_law_cell"]) fun _ _ _ _ _ _ us hl => match us, hl with | [_], _ => rfl
  have F_law_pairs_due := fun_mk (st := sLawPairsDue) l_law_pairs_due c_law_pairs_due k_law_pairs_due
  have b_law_pairs_due := F_law_pairs_due.binds (ps := ["_law_pairs"]) fun _ _ _ _ _ _ us hl => match us, hl with | [_], _ => rfl
  have F_law_raised := fun_mk (st := sLawRaised) l_law_raised c_law_raised k_law_raised
  have b_law_raised := F_law_raised.binds (ps := ["_law_pairs"]) fun _ _ _ _ _ _ us hl => match us, hl with | [_], _ => rfl
  have F_Notes_init := fun_mk (st := sNotesInit) l_Notes_init c_Notes_init k_Notes_init
  have mN := PySem.W.mg_of X G a_Notes
  refine ⟨_, fun s v => .of_eq rfl, fun base _ _ => ok_law30 (fun_mk (st := sLaw) l_law c_law k_law) TL ?_ ?_ ?_ ?_ ?_ ?_⟩
  · exact ⟨_, _, PySem.W.mg_of X G a_law_bag, F_law_bag.kp, b_law_bag, ok_bag F_law_bag TB⟩
  · exact ⟨_, _, PySem.W.mg_of X G a_law_take, F_law_take.kp, b_law_take, ok_take F_law_take TB⟩
  · have gT : Dfn l.prog w K mg base CX0 1 "_law_take" ["_law_bag_here", "_law_size"] spTake := ⟨_, _, PySem.W.mg_of X G a_law_take, F_law_take.kp, b_law_take, ok_take F_law_take TB⟩
    have g1 : Dfn l.prog w K mg base CX0 2 "_law_name" ["_law_bag_here", "_law_used"] spName := ⟨_, _, PySem.W.mg_of X G a_law_name, F_law_name.kp, b_law_name, ok_name F_law_name TM gT⟩
    exact ⟨_, _, PySem.W.mg_of X G a_law_names, F_law_names.kp, b_law_names, ok_names F_law_names TM g1⟩
  · exact ⟨_, _, PySem.W.mg_of X G a_law_odd_name, F_law_odd_name.kp, b_law_odd_name, ok_odd F_law_odd_name⟩
  · have gF : Dfn l.prog w K mg base CX0 1 "_law_fault" ["_law_name_here", "_law_taken"] spFaultN := ⟨_, _, PySem.W.mg_of X G a_law_fault, F_law_fault.kp, b_law_fault, ok_fault F_law_fault TD⟩
    exact ⟨_, _, PySem.W.mg_of X G a_law_pairs_due, F_law_pairs_due.kp, b_law_pairs_due, ok_pdue F_law_pairs_due gF⟩
  · have xI : Ex l.prog w K mg base "InvalidName" "name" C_InvalidName := ⟨_, _, E_I, b_InvalidName, ok_einv F_InvalidName E_I⟩
    have xN : NoteX l.prog w K mg base C_InvalidNote := ⟨_, _, E_N, b_InvalidNote, ok_enote F_InvalidNote E_N⟩
    have gN : Dfn l.prog w K mg base CX0 1 "is_name" ["value"] (spIsName K) := ⟨_, _, PySem.W.mg_of X G a_is_name, F_is_name.kp, b_is_name, ok_isname F_is_name TN⟩
    have gCN : Dfn l.prog w K mg base (L2.CX l.prog w) 3 "check_name" ["name"] (spCheckName C_InvalidName) := ⟨_, _, PySem.W.mg_of X G a_check_name, F_check_name.kp, b_check_name, ok_checkname F_check_name gN xI⟩
    exact ⟨_, _, PySem.W.mg_of X G a_law_raised, F_law_raised.kp, b_law_raised, ok_raisedN F_law_raised XE mN xI xN ⟨_, ⟨mk_Notes, i_Notes_init, fn_Notes_init, kc_Notes⟩, ok_notes F_Notes_init TNo gCN xN⟩⟩
theorem walk {l : PySem.W.OpenLaw} {q : Program} {loose : List Str} {XP : (Str → Option Value) → Heap → Prop} {YP : World → Heap → Prop} {d : DefRec} {K : Params → PySem.W.Frag} (hn : l.most = some 63) (hdf : d.params.defaults = [])
    (hY : ∀ (w : World) (h : Heap), YP w h → (K w.params).In h)
    (F : ∀ (w : World) (mg : Str → Option Value) (fa : Addr) (h : Heap), (K w.params).In h → h.Ns mainGlobals mg → mg d.name = some (.ref fa) →
      ∃ fd : FuncData, (∀ (s : Shared) (u : Value), BindsTo s fd ⟨[u], []⟩ [("_law_script", u)]) ∧ ∀ base : Heap, (K w.params).In base → base.Ns mainGlobals mg → FnOk l.prog w (K w.params) mg base CX0 9 fa fd ["_law_script"] (spLaw30 (K w.params))) :
    PySem.W.WalkO q loose XP YP l.row.toRowW d [] (fun f vs => PySem.call f vs) :=
  walk_of (n := 63) (k := 9) (x := "_law_script") (CX := fun _ => CX0) (sp := fun w => spLaw30 (K w.params)) hn (by decide) hdf ⟨rfl, by decide, by decide⟩ hY F
    (fun _ _ a ns hl _ hS => ⟨a, ns, rfl, hS, hl, fun _ => rfl⟩) fun _ _ _ _ _ z => z
end Dl

open PySem PySem.W PyProof.Rows in
set_option maxRecDepth 100000 in
set_option maxHeartbeats 0 in
theorem PySem.Challenge.cw_dimmerlog_k30_refused_notes_holds : PySem.Challenge.rw_dimmerlog_k30_refused_notes.Holds := by
  w_on; o_law; k_head; (case hw => w_witness2)
  k_fill
  refine Dl.walk (l := PySem.Challenge.rw_dimmerlog_k30_refused_notes) rfl rfl (fun w h Y => PySem.W.kIn_of Y) ?F
  case F =>
    intro w mg fa h KX G hmg
    refine' Dl.all_mk KX G hmg ?a_is_name ?l_is_name ?c_is_name ?k_is_name ?a_check_name ?l_check_name ?c_check_name ?k_check_name ?a_law_bag ?l_law_bag ?c_law_bag ?k_law_bag ?a_law_take ?l_law_take ?c_law_take ?k_law_take ?a_law_name ?l_law_name ?c_law_name ?k_law_name ?a_law_names ?l_law_names ?c_law_names ?k_law_names ?a_law_fault ?l_law_fault ?c_law_fault ?k_law_fault ?a_law_odd_name ?l_law_odd_name ?c_law_odd_name ?k_law_odd_name ?a_law_pairs_due ?l_law_pairs_due ?c_law_pairs_due ?k_law_pairs_due ?a_law_raised ?l_law_raised ?c_law_raised ?k_law_raised ?a_law ?l_law ?c_law ?k_law ?a_InvalidName ?x_InvalidName ?hb_InvalidName ?sa_InvalidName ?e_InvalidName ?tc_InvalidName ?kc_InvalidName ?no_InvalidName ?i_InvalidName ?ti_InvalidName ?l_InvalidName ?c_InvalidName ?k_InvalidName ?ga_InvalidName ?gg_InvalidName ?hd_InvalidName ?ic_InvalidName ?a_InvalidNote ?x_InvalidNote ?hb_InvalidNote ?sa_InvalidNote ?e_InvalidNote ?tc_InvalidNote ?kc_InvalidNote ?no_InvalidNote ?i_InvalidNote ?ti_InvalidNote ?l_InvalidNote ?c_InvalidNote ?k_InvalidNote ?ga_InvalidNote ?gg_InvalidNote ?hd_InvalidNote ?ic_InvalidNote ?a_DimmerError ?su_InvalidNote_InvalidNote ?ex_InvalidName_InvalidNote ?su_InvalidName_InvalidName ?a_Notes ?pg_Notes ?hd_Notes ?po_Notes ?sa_Notes ?mk_Notes ?kc_Notes ?n_Notes_pairs ?i_Notes_init ?fn_Notes_init ?l_Notes_init ?c_Notes_init ?k_Notes_init ?q_after ?q_get ?q_takes ?q_clsI ?q_classI ?q_mroI ?q_clsN ?q_classN ?q_mroN ?q_kND ?q_kNI ?q_kID ?q_kIV ?z_len ?z_int ?z_abs ?z_isinstance ?z_str ?z_all ?z_list ?z_range ?z_tuple ?z_sorted ?z_set ?z_ValueError ?v_LONGEST ?v_SIGNS
    (case a_is_name => k_is)
    (case l_is_name => k_is)
    (case c_is_name => k_is)
    (case k_is_name => k_is)
    (case a_check_name => k_is)
    (case l_check_name => k_is)
    (case c_check_name => k_is)
    (case k_check_name => k_is)
    (case a_law_bag => k_is)
    (case l_law_bag => k_is)
    (case c_law_bag => k_is)
    (case k_law_bag => k_is)
    (case a_law_take => k_is)
    (case l_law_take => k_is)
    (case c_law_take => k_is)
    (case k_law_take => k_is)
    (case a_law_name => k_is)
    (case l_law_name => k_is)
    (case c_law_name => k_is)
    (case k_law_name => k_is)
    (case a_law_names => k_is)
    (case l_law_names => k_is)
    (case c_law_names => k_is)
    (case k_law_names => k_is)
    (case a_law_fault => k_is)
    (case l_law_fault => k_is)
    (case c_law_fault => k_is)
    (case k_law_fault => k_is)
    (case a_law_odd_name => k_is)
    (case l_law_odd_name => k_is)
    (case c_law_odd_name => k_is)
    (case k_law_odd_name => k_is)
    (case a_law_pairs_due => k_is)
    (case l_law_pairs_due => k_is)
    (case c_law_pairs_due => k_is)
    (case k_law_pairs_due => k_is)
    (case a_law_raised => k_is)
    (case l_law_raised => k_is)
    (case c_law_raised => k_is)
    (case k_law_raised => k_is)
    (case a_law => k_is)
    (case l_law => k_is)
    (case c_law => k_is)
    (case k_law => k_is)
    (case a_InvalidName => k_is)
    (case x_InvalidName => k_is)
    (case hb_InvalidName => (first | rfl | decide +kernel))
    (case sa_InvalidName => k_is)
    (case e_InvalidName => k_is)
    (case tc_InvalidName => k_is)
    (case kc_InvalidName => k_is)
    (case no_InvalidName => k_is)
    (case i_InvalidName => k_is)
    (case ti_InvalidName => k_is)
    (case l_InvalidName => k_is)
    (case c_InvalidName => k_is)
    (case k_InvalidName => k_is)
    (case ga_InvalidName => k_is)
    (case gg_InvalidName => k_is)
    (case hd_InvalidName => k_is)
    (case ic_InvalidName => k_is)
    (case a_InvalidNote => k_is)
    (case x_InvalidNote => k_is)
    (case hb_InvalidNote => (first | rfl | decide +kernel))
    (case sa_InvalidNote => k_is)
    (case e_InvalidNote => k_is)
    (case tc_InvalidNote => k_is)
    (case kc_InvalidNote => k_is)
    (case no_InvalidNote => k_is)
    (case i_InvalidNote => k_is)
    (case ti_InvalidNote => k_is)
    (case l_InvalidNote => k_is)
    (case c_InvalidNote => k_is)
    (case k_InvalidNote => k_is)
    (case ga_InvalidNote => k_is)
    (case gg_InvalidNote => k_is)
    (case hd_InvalidNote => k_is)
    (case ic_InvalidNote => k_is)
    (case a_DimmerError => k_is)
    (case su_InvalidNote_InvalidNote => (first | rfl | k_is))
    (case ex_InvalidName_InvalidNote => (first | k_is | rfl))
    (case su_InvalidName_InvalidName => (first | rfl | k_is))
    (case a_Notes => k_is)
    (case pg_Notes => k_is)
    (case hd_Notes => k_is)
    (case po_Notes => k_is)
    (case sa_Notes => k_is)
    (case mk_Notes => k_is)
    (case kc_Notes => k_is)
    (case n_Notes_pairs => k_is)
    (case i_Notes_init => k_is)
    (case fn_Notes_init => k_is)
    (case l_Notes_init => k_is)
    (case c_Notes_init => k_is)
    (case k_Notes_init => k_is)
    (case q_after => k_is)
    (case q_get => (first | k_is | rfl))
    (case q_takes => (first | k_is | rfl))
    (case q_clsI => (first | k_is | rfl))
    (case q_classI => k_is)
    (case q_mroI => (first | k_is | rfl))
    (case q_clsN => (first | k_is | rfl))
    (case q_classN => k_is)
    (case q_mroN => (first | k_is | rfl))
    (case q_kND => (first | k_is | rfl))
    (case q_kNI => (first | k_is | rfl))
    (case q_kID => (first | k_is | rfl))
    (case q_kIV => (first | k_is | rfl))
    (case z_len => k_is)
    (case z_int => k_is)
    (case z_abs => k_is)
    (case z_isinstance => k_is)
    (case z_str => k_is)
    (case z_all => k_is)
    (case z_list => k_is)
    (case z_range => k_is)
    (case z_tuple => k_is)
    (case z_sorted => k_is)
    (case z_set => k_is)
    (case z_ValueError => k_is)
    (case v_LONGEST => k_is)
    (case v_SIGNS => k_is)
