import PyProof.Rows.All
import Wide.All
import OpenK.AllK
import Wide.FinOn
import HandS.ForMost
import HandS.Exc
import HandS.TryOnly
import HandS.ExcOwn
import HandS.WordsExc
import HandS.ExcInit
import HandS.ExcField
import HandS.IsInst
import HandS.Walk
import HandS.Conv
import HandS.Wide
import HandS.TryMany
import HandS.CallSlots
import HandS.Flow
import HandS.Deep
import HandS.Star
import HandS.MethStar
import HandS.ExcIs
import HandS.Rev
import HandS.More
import KE.GoesEnum
import KE.GoesMore
import HandS.ListEq
import HandS.DictEq
import HandS.DeepEq
import HandS.OwnEq
import HandS.Codes
import KE.KExcIs
import HandS.DictComp
import HandS.Dict
import HandS.NoneIn
import HandS.TupSets
import HandS.Text
import HandS.Property
import KE.SortData
import HandS.TupAny
import PyProof.P3In
import HandS.FStr
import PySem.Challenge.RW_dimmerlog_k29_closed_notes
set_option Elab.async false
set_option linter.all false
set_option maxRecDepth 100000
set_option maxHeartbeats 4000000
namespace Dl
open PySem L2
def top (i : Nat) : Stmt := PySem.Challenge.pw_dimmerlog_k29_closed_notes.main.body.getD i (.Pass ⟨0, 0, 0, 0⟩)
abbrev sInv : Stmt := inClass (top 2) 0
abbrev sInvalidNoteInit : Stmt := inClass (top 3) 0
abbrev sIsName : Stmt := top 7
abbrev sCheckName : Stmt := top 8
abbrev sReached : Stmt := top 10
abbrev sNotesInit : Stmt := inClass (top 12) 0
abbrev sNotesAdd : Stmt := inClass (top 12) 1
abbrev sNotesSub : Stmt := inClass (top 12) 2
abbrev sNotesNeg : Stmt := inClass (top 12) 3
abbrev sNotesContains : Stmt := inClass (top 12) 4
abbrev sNotesIter : Stmt := inClass (top 12) 5
abbrev sNotesLen : Stmt := inClass (top 12) 6
abbrev sNotesEq : Stmt := inClass (top 12) 7
abbrev sNotesStr : Stmt := inClass (top 12) 8
abbrev sNotesAbout : Stmt := inClass (top 12) 9
abbrev sNotesClosed : Stmt := inClass (top 12) 10
abbrev sBag : Stmt := top 14
abbrev sTake : Stmt := top 15
abbrev sLawIs : Stmt := top 16
abbrev sLawName : Stmt := top 17
abbrev sLawNames : Stmt := top 18
abbrev sLawPairs : Stmt := top 19
abbrev sLawNotes : Stmt := top 20
abbrev sLawFrom : Stmt := top 21
abbrev sLaw : Stmt := top 22
end Dl

/-! sets of tuples of texts: my own rule. First: what such a tuple is asked -/
namespace Dl
open PySem PySem.Spec PyProof.Rows L2
/-- the tuple at a has the texts k -/
abbrev Tx (P : Program) (w : World) (h : Heap) (k : List Str) (a : Addr) : Prop := IsTupleKey (strKind P w) h k a
abbrev txHash (P : Program) (w : World) (k : List Str) : Int := tupleKeyHash (strKind P w) k
section
variable {P : Program} {w : World} {A : Around} {E : Value → Shared → Prop} {s : Shared}
theorem texts_of {k : List Str} {vs : List Value} (h : ItemsAre (strKind P w) k vs) : ∀ v ∈ vs, ∃ z t, v = Value.str z t := by
  induction h with
  | nil => exact fun v hv => absurd hv (by simp)
  | @cons z u ks us one _ rest =>
    intro v hv
    cases hv with
    | head => exact ⟨z, Value.isStrOf_shape one⟩
    | tail _ hv => exact rest v hv
theorem text_class (n : Nat) (z : Str) (t : Tok) : ofAClassStatement n (.str z t) = pure false := by cases n <;> rfl
theorem text_hash (n : Nat) (z : Str) (t : Tok) : hashByValue n (.str z t) = pure false := by cases n <;> rfl
/-- it is of no class statement -/
theorem tx_class {k : List Str} {b : Addr} {Q : Bool → Shared → Prop} (tx : Tx P w s.heap k b) (q : Q false s) : wpAny (model P w) A (ofAClassStatement 8 (.ref b)) Q E s := by
  obtain ⟨o, items, n, at_, cls, dat, its⟩ := id tx
  have texts := texts_of its
  unfold ofAClassStatement
  apply wpAny_bind
  apply wpAny_typeOf tx.typeIs
  dsimp only
  simp only [show ((("tuple" : String) == "tuple") = true) from by decide, if_true, Bool.not_true, Bool.false_eq_true, if_false]
  try apply wpAny_bind (wpAny_pure _)
  try simp only [Bool.not_true, Bool.false_eq_true, if_false]
  change wpAny _ _ (seqItems? (.ref b) >>= _) _ _ s
  apply wpAny_bind
  apply wpAny_seqItems at_ dat
  dsimp only
  apply wpAny_bind
  change wpAny _ _ (forIn items _ _) _ _ s
  rw [← Array.forIn_toList]
  apply wpAny_forIn_list _ (fun left r s1 => (r.1 = none ∧ s1 = s) ∧ ∀ v ∈ left, ∃ z t, v = Value.str z t) _ _ _ _ _ ⟨⟨rfl, rfl⟩, texts⟩
  · rintro v left r s1 ⟨⟨r0, rfl⟩, all⟩
    obtain ⟨z, t, rfl⟩ := all v (List.mem_cons_self ..)
    rw [text_class]
    apply wpAny_bind
    apply wpAny_pure
    exact wpAny_pure ⟨⟨rfl, rfl⟩, fun u hu => all u (List.mem_cons_of_mem _ hu)⟩
  · rintro ⟨r1, r2⟩ s1 ⟨⟨r0, rfl⟩, _⟩
    cases r0
    exact wpAny_pure q
/-- whether its hash goes by its value: some answer -/
theorem tx_byvalue {k : List Str} {b : Addr} {Q : Bool → Shared → Prop} (tx : Tx P w s.heap k b) (q : ∀ c, Q c s) : wpAny (model P w) A (hashByValue 8 (.ref b)) Q E s := by
  obtain ⟨o, items, n, at_, cls, dat, its⟩ := id tx
  have texts := texts_of its
  unfold hashByValue
  apply wpAny_bind
  apply wpAny_specialOf tx.typeIs F.slot_tuple_hash.lookup
  change wpAny _ _ (seqItems? (.ref b) >>= _) _ _ s
  apply wpAny_bind
  apply wpAny_seqItems at_ dat
  apply wpAny_bind
  change wpAny _ _ (forIn items _ _) _ _ s
  rw [← Array.forIn_toList]
  apply wpAny_forIn_list _ (fun left r s1 => s1 = s ∧ ∀ v ∈ left, ∃ z t, v = Value.str z t) _ _ _ _ _ ⟨rfl, texts⟩
  · rintro v left r s1 ⟨rfl, all⟩
    obtain ⟨z, t, rfl⟩ := all v (List.mem_cons_self ..)
    rw [text_hash]
    apply wpAny_bind
    apply wpAny_pure
    exact wpAny_pure (wpAny_pure (q false))
  · rintro ⟨r1, r2⟩ s1 ⟨rfl, _⟩
    cases r1 with
    | none => exact wpAny_pure (q true)
    | some c => exact wpAny_pure (q c)
/-- a search among such tuples shows nothing -/
theorem tx_unseen {k : List Str} {b : Addr} {Q : Bool → Shared → Prop} (tx : Tx P w s.heap k b) {ys : List Value} (hy : ∀ y ∈ ys, ∃ k2 c, y = Value.ref c ∧ Tx P w s.heap k2 c) (q : Q false s) : wpAny (model P w) A (searchCouldBeSeen (.ref b) ys) Q E s := by
  unfold searchCouldBeSeen
  apply wpAny_bind
  apply wpAny_forIn_list _ (fun left r s1 => (r.1 = none ∧ s1 = s) ∧ ∀ y ∈ left, ∃ k2 c, y = Value.ref c ∧ Tx P w s.heap k2 c) _ _ _ _ _ ⟨⟨rfl, rfl⟩, hy⟩
  · rintro v left r s1 ⟨⟨r0, rfl⟩, all⟩
    obtain ⟨k2, c, rfl, tc⟩ := all v (List.mem_cons_self ..)
    have more := fun u (hu : u ∈ left) => all u (List.mem_cons_of_mem _ hu)
    by_cases known : (b == c || (carriedByValue (.ref b) && carriedByValue (.ref c))) = true
    · exact wp_if_pos known (wpAny_pure ⟨⟨rfl, rfl⟩, more⟩)
    · apply wp_if_neg known
      apply wpAny_bind
      apply wpAny_eqIsQuiet_tuple tx
      simp only [Bool.not_true, Bool.false_eq_true, if_false]
      apply wpAny_bind
      apply wpAny_eqIsQuiet_tuple tc
      simp only [Bool.not_true, Bool.false_eq_true, if_false]
      apply wpAny_bind
      apply tx_class tx
      simp only [Bool.false_eq_true, if_false]
      apply wpAny_bind
      apply tx_class tc
      simp only [Bool.false_eq_true, if_false]
      exact wpAny_pure ⟨⟨rfl, rfl⟩, more⟩
  · rintro ⟨r1, r2⟩ s1 ⟨⟨r0, rfl⟩, _⟩
    cases r0
    exact wpAny_pure q
end
end Dl

/-! sets of tuples of texts: the set, the search -/
namespace Dl
open PySem PySem.Spec PyProof.Rows L2
abbrev Keyed := List (Addr × List Str)
def hashes (P : Program) (w : World) (L : Keyed) : List Int := L.map fun p => txHash P w p.2
def entries (P : Program) (w : World) (L : Keyed) : List (Int × Value) := L.map fun p => (txHash P w p.2, Value.ref p.1)
/-- the set at a has the tuples L -/
structure Held (P : Program) (w : World) (h : Heap) (a : Addr) (L : Keyed) (es : Array (Int × Value)) (ep : Nat) (t : SetTable) : Prop where
  obj : ∃ o, h.get? a = some o ∧ o.ExactSet ∧ o.data = .set es ep t
  ent : es.toList = entries P w L
  tab : TabOk t (hashes P w L)
  once : (L.map (·.2)).Nodup
  txt : ∀ p ∈ L, Tx P w h p.2 p.1
  led : w.params.followText "set-order" = true ∨ t.led = true
  room : L.length * 5 < t.mask * 3
  few : L.length < 64
/-- where the walk of a hash begins -/
def begin_ (m : Nat) (h : Int) : SetTable.Probe := runAt m (SetTable.bits h % (m + 1)) (SetTable.bits h)
theorem no_dummy (m : Nat) : ∀ (n : Nat) (p : SetTable.Probe), p.dummy = none → (nth m p n).dummy = none
  | 0, _, h => h
  | n + 1, p, h => no_dummy m n (adv m p) (by unfold adv; split <;> exact h)
section
variable {P : Program} {w : World} {A : Around} {E : Value → Shared → Prop} {s : Shared} {a : Addr} {L : Keyed} {es : Array (Int × Value)} {ep : Nat} {t : SetTable}
theorem entries_len (es : Array (Int × Value)) (L : Keyed) (h : es.toList = entries P w L) : es.size = L.length := by
  rw [← Array.length_toList, h]
  exact List.length_map _
theorem hashes_len : (hashes P w L).length = L.length := List.length_map _
theorem Held.size {h : Heap} (R : Held P w h a L es ep t) : es.size = L.length := entries_len es L R.ent
theorem Held.placed {h : Heap} (R : Held P w h a L es ep t) : t.place.size = L.length := by rw [R.tab.sz, hashes_len]
theorem Held.fits {h : Heap} (R : Held P w h a L es ep t) : t.fits es.size = true := by
  have e1 := R.placed
  have e2 := R.size
  have e3 := R.room
  have e4 : t.dummies.size = 0 := by rw [R.tab.dm]; rfl
  have e5 : t.place.size + t.dummies.size ≤ t.mask := by omega
  have e6 : t.place.size = es.size := by omega
  unfold SetTable.fits
  rw [e6, beq_self_eq_true, Bool.true_and]
  exact decide_eq_true e5
theorem Held.at_ {h : Heap} (R : Held P w h a L es ep t) {i : Nat} {p : Addr × List Str} (e : L[i]? = some p) : es[i]? = some (txHash P w p.2, Value.ref p.1) := by
  have q : es.toList[i]? = some (txHash P w p.2, Value.ref p.1) := by
    rw [R.ent]
    unfold entries
    rw [List.getElem?_map, e]
    rfl
  rwa [Array.getElem?_toList] at q
theorem Held.stays {h : Heap} (R : Held P w h a L es ep t) : t.gaveWay = false := by
  have q := mask_odd R.tab.mok
  unfold SetTable.gaveWay
  rw [q]
  rfl
theorem tx_search (R : Held P w s.heap a L es ep t) {x : Addr} {k : List Str} (tx : Tx P w s.heap k x) (hu : A.units < cLine) {K : Nat} (bound : K < 10 * SetTable.turns t.mask)
    (free : way t.mask (txHash P w k) K ∉ t.place.toList) (taken : ∀ c, c < K → way t.mask (txHash P w k) c ∈ t.place.toList) {Q : SetFound → Shared → Prop}
    (yes : k ∈ L.map (·.2) → Q (.there none) s) (no : k ∉ L.map (·.2) → Q (.free (way t.mask (txHash P w k) K) false) s) (f : Nat) :
    ∀ (c : Nat) (stand : Option SetTable.Probe), stand.getD (t.probeStart (txHash P w k)) = nth t.mask (begin_ t.mask (txHash P w k)) c → c ≤ K → K - c < f →
      (∀ (i : Nat) p, L[i]? = some p → p.2 = k → ∃ c2, c ≤ c2 ∧ c2 < K ∧ t.place.toList[i]? = some (way t.mask (txHash P w k) c2)) →
      wpAny (model P w) A (setSearchFrom a (.ref x) (txHash P w k) true f stand) Q E s := by
  induction f with
  | zero => exact fun c stand _ _ less => absurd less (Nat.not_lt_zero _)
  | succ f ih =>
    intro c stand from_ le less ahead
    obtain ⟨o, obj, exact_, dat⟩ := R.obj
    have go : ∀ q, nth t.mask (nth t.mask (begin_ t.mask (txHash P w k)) c) q = nth t.mask (begin_ t.mask (txHash P w k)) (c + q) := fun q => (nth_add t.mask c _ q).symm
    have spot : ∀ q, (nth t.mask (nth t.mask (begin_ t.mask (txHash P w k)) c) q).j = way t.mask (txHash P w k) (c + q) := fun q => congrArg (fun z => SetTable.Probe.j z) (go q)
    have last : way t.mask (txHash P w k) (c + (K - c)) = way t.mask (txHash P w k) K := by rw [show c + (K - c) = K by omega]
    have stored : ∀ (i : Nat) p, L[i]? = some p → (es[i]?.map (·.1)).getD 0 = txHash P w p.2 := fun i p e => by rw [R.at_ e]; rfl
    have told := go_spec t R.tab.ris R.tab.dm (fun i => (es[i]?.map (·.1)).getD 0) (txHash P w k) (10 * SetTable.turns t.mask) (K - c) (nth t.mask (begin_ t.mask (txHash P w k)) c) (no_dummy _ _ _ rfl) (by omega)
      (fun q lq => by rw [spot]; exact taken _ (by omega)) (by rw [spot, last]; exact free)
    rw [setSearchFrom_succ]
    apply wpAny_bind
    apply wpAny_setState_of obj dat R.fits
    dsimp only
    apply wp_if_neg (by rw [R.stays]; decide)
    try apply wpAny_bind (wpAny_pure _)
    rw [from_]
    rcases told with ⟨q, i, lq, at_i, same, before, met⟩ | ⟨none_, met⟩
    case inr =>
      rw [spot, last] at met
      have met2 : t.probe (fun i => (es[i]?.map (·.1)).getD 0) (txHash P w k) (nth t.mask (begin_ t.mask (txHash P w k)) c) = some (.empty (way t.mask (txHash P w k) K) none) := met
      rw [met2]
      dsimp only
      refine wpAny_pure (no fun hm => ?_)
      obtain ⟨p, hp, e⟩ := List.mem_map.mp hm
      obtain ⟨i, hi, ei⟩ := List.getElem_of_mem hp
      have li : L[i]? = some p := by rw [List.getElem?_eq_getElem hi, ei]
      obtain ⟨c2, l1, l2, l3⟩ := ahead i p li e
      refine none_ (c2 - c) i (by omega) (by rw [spot, show c + (c2 - c) = c2 by omega]; exact l3) ?_
      rw [stored i p li, e]
    rw [spot, go] at met
    rw [spot] at at_i
    have met2 : t.probe (fun i => (es[i]?.map (·.1)).getD 0) (txHash P w k) (nth t.mask (begin_ t.mask (txHash P w k)) c) = some (.candidate (way t.mask (txHash P w k) (c + q)) i (nth t.mask (begin_ t.mask (txHash P w k)) (c + (q + 1)))) := met
    rw [met2]
    dsimp only
    have il : i < L.length := by
      have z := (List.getElem?_eq_some_iff.mp at_i).1
      rw [Array.length_toList, R.placed] at z
      exact z
    obtain ⟨p, li⟩ : ∃ p, L[i]? = some p := ⟨_, List.getElem?_eq_getElem il⟩
    have pm := List.mem_of_getElem? li
    have live : t.slot (way t.mask (txHash P w k) (c + q)) = .live i := slot_live R.tab.ris at_i
    have rest : wpAny (model P w) A (searchRest a (.ref x) (txHash P w k) true f es t (way t.mask (txHash P w k) (c + q)) i (nth t.mask (begin_ t.mask (txHash P w k)) (c + (q + 1)))) Q E s := by
      unfold searchRest
      rw [R.at_ li]
      dsimp only
      apply wpAny_bind
      apply wpAny_holding
      apply wpAny_eqBool_tuple hu (R.txt p pm) tx
      apply wpAny_bind
      apply wpAny_setState_of obj dat R.fits
      dsimp only
      by_cases eq_ : p.2 = k
      · exact wp_if_pos (by simp [eq_]) (wpAny_pure (yes (List.mem_map.mpr ⟨p, pm, eq_⟩)))
      apply wp_if_neg (by simp [eq_])
      try apply wpAny_bind (wpAny_pure _)
      rw [sameMem]
      dsimp only
      simp only [if_true, live, R.at_ li]
      apply wpAny_bind
      apply wpAny_isSame_ref_self
      apply wpAny_bind
      apply wpAny_pure
      simp only [if_true]
      apply wp_if_neg (by simp [eq_])
      refine ih (c + (q + 1)) _ rfl (by omega) (by omega) fun i2 p2 li2 e2 => ?_
      obtain ⟨c2, l1, l2, l3⟩ := ahead i2 p2 li2 e2
      refine ⟨c2, ?_, l2, l3⟩
      rcases Nat.lt_trichotomy c2 (c + q) with z | z | z
      · exact absurd ((stored i2 p2 li2).trans (by rw [e2])) (before (c2 - c) i2 (by omega) (by rw [spot, show c + (c2 - c) = c2 by omega]; exact l3))
      · rw [z] at l3
        have twice := slot_live R.tab.ris l3
        rw [live] at twice
        cases twice
        rw [li] at li2
        cases li2
        exact absurd e2 eq_
      · omega
    by_cases ld : t.led = true
    · apply wp_if_neg (by simp [ld])
      try apply wpAny_bind (wpAny_pure _)
      exact rest
    · apply wp_if_pos (by simp [ld])
      apply wpAny_bind
      refine tx_unseen tx (fun y hy => ?_) ?_
      · obtain ⟨e, he, rfl⟩ := List.mem_map.mp hy
        have he : e ∈ es := by simp at he; exact he.1
        have he : e ∈ es.toList := by simpa using he
        rw [R.ent] at he
        obtain ⟨p2, hp2, rfl⟩ := List.mem_map.mp he
        exact ⟨p2.2, p2.1, rfl, R.txt p2 hp2⟩
      · apply wp_if_neg (by decide)
        try apply wpAny_bind (wpAny_pure _)
        exact rest
end
end Dl

/-! sets of tuples of texts: one more -/
namespace Dl
open PySem PySem.Spec PyProof.Rows L2
theorem put_in_perm {α : Type} (l : List α) (n : Nat) (x : α) : (l.take n ++ x :: l.drop n).Perm (x :: l) := by
  have q : (l.take n ++ x :: l.drop n).Perm (x :: (l.take n ++ l.drop n)) := List.perm_middle
  rwa [List.take_append_drop] at q
section
variable {P : Program} {w : World} {A : Around} {E : Value → Shared → Prop} {s : Shared} {a : Addr} {L : Keyed} {es : Array (Int × Value)} {ep : Nat} {t : SetTable}
theorem Tx.but {h h' : Heap} {k : List Str} {b : Addr} {o : Obj} (tx : Tx P w h k b) (obj : h.get? a = some o) (dat : o.data = .set es ep t) (same : Heap.SameBut a h h') : Tx P w h' k b := by
  obtain ⟨o2, items, n, obj2, cls2, dat2, its⟩ := tx
  have ne : b ≠ a := fun e => by
    rw [e, obj] at obj2
    cases obj2
    rw [dat] at dat2
    cases dat2
  exact ⟨o2, items, n, (same.2 b ne).trans obj2, cls2, dat2, its⟩
/-- the entries in another order -/
theorem reorder (order : Array Nat) (ent : es.toList = entries P w L) (perm : order.toList.Perm (List.range L.length)) :
    ∃ L2 : Keyed, (order.filterMap (es[·]?)).toList = entries P w L2 ∧ L2.Perm L ∧ hashes P w L2 = order.toList.map fun i => (es.map (·.1)).getD i 0 := by
  have len := entries_len es L ent
  have at_ : ∀ (i : Nat) (p : Addr × List Str), L[i]? = some p → es[i]? = some (txHash P w p.2, Value.ref p.1) := fun i p e => by
    rw [← Array.getElem?_toList, ent]
    unfold entries
    rw [List.getElem?_map, e]
    rfl
  have step : ∀ l : List Nat, (∀ i ∈ l, i < L.length) → l.filterMap (fun i => es[i]?) = entries P w (l.filterMap fun i => L[i]?) ∧ hashes P w (l.filterMap fun i => L[i]?) = l.map fun i => (es.map (·.1)).getD i 0 := by
    intro l
    induction l with
    | nil => exact fun _ => ⟨rfl, rfl⟩
    | cons i l ih =>
      intro all
      have lt := all i (List.mem_cons_self ..)
      obtain ⟨i1, i2⟩ := ih fun j hj => all j (List.mem_cons_of_mem _ hj)
      have li : L[i]? = some L[i] := List.getElem?_eq_getElem lt
      have e := at_ i _ li
      rw [List.filterMap_cons_some e, List.filterMap_cons_some li, i1]
      refine ⟨rfl, ?_⟩
      show txHash P w (L[i]).2 :: hashes P w (l.filterMap fun i => L[i]?) = _
      rw [i2, List.map_cons]
      congr 1
      simp [Array.getD_eq_getD_getElem?, Array.getElem?_map, e]
  obtain ⟨s1, s2⟩ := step order.toList fun i hi => List.mem_range.mp (perm.mem_iff.mp hi)
  refine ⟨order.toList.filterMap fun i => L[i]?, by rw [Array.toList_filterMap]; exact s1, ?_, s2⟩
  have whole : ∀ n, n ≤ L.length → (List.range n).filterMap (fun i => L[i]?) = L.take n := by
    intro n
    induction n with
    | zero => exact fun _ => rfl
    | succ n ih =>
      intro le
      have lt : n < L.length := le
      have li : L[n]? = some L[n] := List.getElem?_eq_getElem lt
      rw [List.range_succ, List.filterMap_append, ih (Nat.le_of_lt lt), List.take_succ, li]
      rw [List.filterMap_cons_some li]
      rfl
  have q := perm.filterMap fun i => L[i]?
  rw [whole L.length (Nat.le_refl _), List.take_length] at q
  exact q
/-- a larger table -/
theorem tx_relay {o : Obj} (obj : s.heap.get? a = some o) (exact_ : o.ExactSet) (dat : o.data = .set es ep t) (ent : es.toList = entries P w L) (tab : TabOk t (hashes P w L)) (fit : L.length ≤ t.mask) (once : (L.map (·.2)).Nodup) (txt : ∀ p ∈ L, Tx P w s.heap p.2 p.1)
    (led : w.params.followText "set-order" = true ∨ t.led = true) (few : L.length < 64) {wanted M : Nat} (size : SetTable.sizeAbove wanted - 1 = M) (ok : MaskOk M) (small : SetTable.sizeAbove wanted ≤ 128) (room : L.length * 5 < M * 3) {Q : Unit → Shared → Prop}
    (q : ∀ h' L' es' ep' t', Heap.SameBut a s.heap h' → Held P w h' a L' es' ep' t' → L'.Perm L → Q () { s with heap := h' }) : wpAny (model P w) A (setRelay a wanted) Q E s := by
  have len := entries_len es L ent
  have placed : t.place.size = L.length := by rw [tab.sz, hashes_len]
  have fits : t.fits es.size = true := by
    have e5 : t.place.size + t.dummies.size ≤ t.mask := by rw [tab.dm, placed]; exact fit
    unfold SetTable.fits
    rw [show t.place.size = es.size by omega, beq_self_eq_true, Bool.true_and]
    exact decide_eq_true e5
  have keys : (es.map (·.1)).size = L.length := by rw [Array.size_map, len]
  obtain ⟨t2, order, laid, perm, tab2, mask2, led2, plain2, dm2⟩ := relaid_ok t (hs := es.map (·.1)) (wanted := wanted) size ok (by rw [keys]; omega)
  rw [keys] at perm
  obtain ⟨L2, ent2, perm2, hash2⟩ := reorder order ent perm
  rw [← hash2] at tab2
  have len2 := entries_len _ L2 ent2
  have plen := perm2.length_eq
  rw [setRelay_eq]
  apply wpAny_bind
  apply wpAny_setState_of obj dat fits
  dsimp only
  apply wp_if_neg (by rw [sizeLine_eq]; omega)
  try apply wpAny_bind (wpAny_pure _)
  rw [laid]
  dsimp only
  apply wpAny_bind
  apply wp_if_neg (by rw [len2, len, plen]; simp)
  try apply wpAny_bind (wpAny_pure _)
  apply wpAny_pure
  dsimp only
  refine wpAny_storeSet_of obj dat ?_ (by rw [len2, plen, sizeLine_eq]; omega)
  have same : Heap.SameBut a s.heap (s.heap.update a (Obj.putSet (order.filterMap (es[·]?)) t2)) := Heap.SameBut.update ..
  exact q _ L2 _ (ep + 1) t2 same ⟨⟨_, store_at obj dat, ⟨exact_.1, exact_.2.1, exact_.2.2⟩, rfl⟩, ent2, tab2, (perm2.map (·.2)).nodup_iff.mpr once, fun p hp => (txt p (perm2.mem_iff.mp hp)).but obj dat same, by rw [led2]; exact led, by rw [plen, mask2]; exact room, by rw [plen]; exact few⟩ perm2
/-- the search as adding asks for it -/
theorem tx_find (R : Held P w s.heap a L es ep t) {x : Addr} {k : List Str} (tx : Tx P w s.heap k x) (hu : A.units < cLine) {Q : SetFound → Shared → Prop} (yes : k ∈ L.map (·.2) → Q (.there none) s)
    (no : ∀ K, k ∉ L.map (·.2) → way t.mask (txHash P w k) K ∉ t.place.toList → (∀ c, c < K → way t.mask (txHash P w k) c ∈ t.place.toList) → Q (.free (way t.mask (txHash P w k) K) false) s) :
    wpAny (model P w) A (setSearch a (.ref x) (txHash P w k) true) Q E s := by
  have len := R.size
  have room := R.room
  obtain ⟨K, bound, free, taken⟩ := R.tab.first (by rw [hashes_len]; omega) (txHash P w k)
  have small : K < 100000 := by
    have : 10 * SetTable.turns t.mask ≤ 1420 := by
      unfold SetTable.turns
      have := R.tab.mok
      rcases this with e | e | e <;> omega
    omega
  unfold setSearch
  refine tx_search R tx hu bound free taken yes (fun new => no K new free taken) 100000 0 none rfl (Nat.zero_le _) (by omega) fun i p li e => ?_
  have hi : (hashes P w L)[i]? = some (txHash P w k) := by
    unfold hashes
    rw [List.getElem?_map, li, ← e]
    rfl
  have lt : i < t.place.toList.length := by
    have := (List.getElem?_eq_some_iff.mp li).1
    rw [Array.length_toList, R.placed]
    exact this
  obtain ⟨c, l1, l2⟩ := R.tab.before free hi (List.getElem?_eq_getElem lt)
  exact ⟨c, Nat.zero_le _, l1, by rw [List.getElem?_eq_getElem lt, l2]⟩
/-- one more tuple -/
theorem tx_add (R : Held P w s.heap a L es ep t) {x : Addr} {k : List Str} (tx : Tx P w s.heap k x) (hu : A.units < cLine) (more : L.length + 1 < 64) {Q : Bool → Shared → Prop}
    (q : ∀ b h' L' es' ep' t', Heap.SameBut a s.heap h' → Held P w h' a L' es' ep' t' → (k ∈ L.map (·.2) → L' = L) → (k ∉ L.map (·.2) → L'.Perm ((x, k) :: L)) → Q b { s with heap := h' }) :
    wpAny (model P w) A (setAddHashed a (.ref x) (txHash P w k)) Q E s := by
  obtain ⟨o, obj, exact_, dat⟩ := R.obj
  have len := R.size
  have room := R.room
  unfold setAddHashed
  apply wpAny_holding
  rw [show (100000 : Nat) = 99999 + 1 from rfl, setAddHashedIn_succ]
  apply wpAny_bind
  apply wpAny_setState_of obj dat R.fits
  dsimp only
  apply wp_if_neg (by simp [byScan, Value.scannable])
  try refine wpAny_bind (wpAny_pure ?_)
  refine wpAny_bind (tx_find R tx hu (fun there => ?_) fun K new free taken => ?_)
  · dsimp only
    exact wpAny_pure (q false s.heap L es ep t (Heap.SameBut.refl a s.heap) R (fun _ => rfl) fun z => absurd there z)
  dsimp only
  apply wpAny_bind
  apply wpAny_setState_of obj dat R.fits
  dsimp only
  obtain ⟨q1, q2, q3, q4, q5, q6, q7, q8, q9⟩ := R.tab.put free taken
  generalize t.put (way t.mask (txHash P w k) K) = pt at q1 q3 q4 q5 q6 q7 q8 q9 ⊢
  obtain ⟨t1, n⟩ := pt
  dsimp only at q1 q3 q4 q5 q6 q7 q8 q9 ⊢
  subst q1
  have shut : TabOk t1 ((hashes P w L).take (SetTable.below t.place (way t.mask (txHash P w k) K)) ++ txHash P w k :: (hashes P w L).drop (SetTable.below t.place (way t.mask (txHash P w k) K))) := q3
  generalize SetTable.below t.place (way t.mask (txHash P w k) K) = n at shut ⊢
  have perm := put_in_perm L n (x, k)
  have ent1 : (SetTable.insertAt es n (txHash P w k, Value.ref x)).toList = entries P w (L.take n ++ (x, k) :: L.drop n) := by
    rw [SetTable.toList_insertAt, R.ent]
    unfold entries
    rw [List.map_append, List.map_cons, List.map_take, List.map_drop]
  have hash1 : (hashes P w L).take n ++ txHash P w k :: (hashes P w L).drop n = hashes P w (L.take n ++ (x, k) :: L.drop n) := by
    unfold hashes
    rw [List.map_append, List.map_cons, List.map_take, List.map_drop]
  rw [hash1] at shut
  generalize SetTable.insertAt es n (txHash P w k, Value.ref x) = es1 at ent1 ⊢
  generalize L.take n ++ (x, k) :: L.drop n = L1 at perm ent1 shut
  have len1 := entries_len es1 L1 ent1
  have plen : L1.length = L.length + 1 := perm.length_eq
  have once1 : (L1.map (·.2)).Nodup := by
    refine (perm.map (·.2)).nodup_iff.mpr ?_
    rw [List.map_cons]
    exact List.nodup_cons.mpr ⟨new, R.once⟩
  rw [hashes_len] at q9
  have fin : ∀ t2 : SetTable, TabOk t2 (hashes P w L1) → t2.mask = t.mask → t2.led = t.led → t2.fill = L.length + 1 → wpAny (model P w) A (do
      storeSet a es1 t2
      if (!false && t2.tooFull) = true then do
        setRelay a (SetTable.grown (es.size + 1))
        pure true
      else pure true) Q E s := by
    intro t2 tab2 mask2 led2 fill2
    refine wpAny_bind (wpAny_storeSet_of obj dat ?_ (by rw [len1, plen, sizeLine_eq]; omega))
    have same : Heap.SameBut a s.heap (s.heap.update a (Obj.putSet es1 t2)) := Heap.SameBut.update ..
    have obj1 := store_at (es' := es1) (t' := t2) obj dat
    generalize s.heap.update a (Obj.putSet es1 t2) = h1 at same obj1 ⊢
    have txt1 : ∀ p ∈ L1, Tx P w h1 p.2 p.1 := fun p hp => by
      rcases List.mem_cons.mp (perm.mem_iff.mp hp) with rfl | hp
      · exact tx.but obj dat same
      · exact (R.txt p hp).but obj dat same
    have led3 : w.params.followText "set-order" = true ∨ t2.led = true := by rw [led2]; exact R.led
    have full_iff : t2.tooFull = decide (t2.fill * 5 ≥ t2.mask * 3) := rfl
    by_cases full : t2.tooFull = true
    · apply wp_if_pos (by simp [full])
      rw [full_iff, decide_eq_true_eq, fill2, mask2] at full
      rw [len]
      have which : (t.mask = 7 ∧ L.length = 4) ∨ (t.mask = 31 ∧ L.length = 18) := by
        have := R.tab.mok
        rcases this with e | e | e <;> rw [e] at room full
        · exact .inl ⟨e, by omega⟩
        · exact .inr ⟨e, by omega⟩
        · omega
      have go : ∀ M, SetTable.sizeAbove (SetTable.grown (L.length + 1)) - 1 = M → MaskOk M → SetTable.sizeAbove (SetTable.grown (L.length + 1)) ≤ 128 → (L.length + 1) * 5 < M * 3 →
          wpAny (model P w) A (setRelay a (SetTable.grown (L.length + 1))) (fun _ s' => wpAny (model P w) A (pure true) Q E s') E { s with heap := h1 } := fun M z1 z2 z3 z4 => by
        refine tx_relay (s := { s with heap := h1 }) obj1 ⟨exact_.1, exact_.2.1, exact_.2.2⟩ rfl ent1 tab2 (by rw [plen, mask2]; omega) once1 txt1 led3 (by rw [plen]; exact more) z1 z2 z3 (by rw [plen]; exact z4) ?_
        intro h2 L2 es2 ep2 t3 same2 R2 perm2
        exact wpAny_pure (q true h2 L2 es2 ep2 t3 (same.trans same2) R2 (fun z => absurd z new) fun _ => perm2.trans perm)
      refine wpAny_bind ?_
      rcases which with ⟨_, e⟩ | ⟨_, e⟩
      · exact go 31 (by rw [e, size_20]) (.inr (.inl rfl)) (by rw [e, size_20]; decide) (by omega)
      · exact go 127 (by rw [e, size_76]) (.inr (.inr rfl)) (by rw [e, size_76]; decide) (by omega)
    · apply wp_if_neg (by simp [full])
      rw [full_iff, decide_eq_true_eq, fill2] at full
      exact wpAny_pure (q true h1 L1 es1 (ep + 1) t2 same ⟨⟨_, obj1, ⟨exact_.1, exact_.2.1, exact_.2.2⟩, rfl⟩, ent1, tab2, once1, txt1, led3, by rw [plen]; omega, by rw [plen]; exact more⟩ (fun z => absurd z new) fun _ => perm)
  by_cases pl : t1.plain = true
  · refine wp_if_pos pl (wpAny_bind (tx_byvalue tx fun c => ?_))
    cases c with
    | true => exact fin t1 shut q4 q5 q9
    | false => exact fin { t1 with plain := false } ⟨shut.ris, shut.dm, shut.sz, shut.mok, shut.bd, shut.reach⟩ q4 q5 q9
  · exact wp_if_neg pl (wpAny_bind (wpAny_pure (fin t1 shut q4 q5 q9)))
end
end Dl

/-! sets of tuples of texts: set(xs) of a list or a tuple of them -/
namespace Dl
open PySem PySem.Spec PyProof.Rows L2
/-- what the set has of the first i -/
structure Met (ks : Keyed) (i : Nat) (L : Keyed) : Prop where
  sub : ∀ p ∈ L, p ∈ ks.take i
  all : ∀ p ∈ ks.take i, p.2 ∈ L.map (·.2)
  len : L.length ≤ i
theorem take_plus {α : Type} {l : List α} {i : Nat} {x : α} (h : l[i]? = some x) : l.take (i + 1) = l.take i ++ [x] := by
  rw [List.take_succ, h]
  rfl
theorem Met.next {ks L L2 : Keyed} {i : Nat} {p : Addr × List Str} (m : Met ks i L) (at_ : ks[i]? = some p) (old : p.2 ∈ L.map (·.2) → L2 = L) (new : p.2 ∉ L.map (·.2) → L2.Perm (p :: L)) : Met ks (i + 1) L2 := by
  have t := take_plus at_
  by_cases c : p.2 ∈ L.map (·.2)
  · rw [old c]
    refine ⟨fun q hq => by rw [t]; exact List.mem_append_left _ (m.sub q hq), fun q hq => ?_, Nat.le_succ_of_le m.len⟩
    rw [t] at hq
    rcases List.mem_append.mp hq with h | h
    · exact m.all q h
    · obtain rfl := List.mem_singleton.mp h
      exact c
  · have perm := new c
    refine ⟨fun q hq => ?_, fun q hq => ?_, ?_⟩
    · rw [t]
      rcases List.mem_cons.mp (perm.mem_iff.mp hq) with rfl | h
      · exact List.mem_append_right _ (List.mem_singleton_self _)
      · exact List.mem_append_left _ (m.sub q h)
    · rw [(perm.map (·.2)).mem_iff, List.map_cons]
      rw [t] at hq
      rcases List.mem_append.mp hq with h | h
      · exact List.mem_cons_of_mem _ (m.all q h)
      · obtain rfl := List.mem_singleton.mp h
        exact List.mem_cons_self ..
    · rw [perm.length_eq]
      exact Nat.succ_le_succ m.len
section
variable {P : Program} {w : World} {A : Around} {E : Value → Shared → Prop} {s : Shared}
theorem Tx.kept {h h' : Heap} {k : List Str} {b : Addr} (tx : Tx P w h k b) (keep : ∀ c o, h.get? c = some o → h'.get? c = some o) : Tx P w h' k b := by
  obtain ⟨o, items, n, at_, rest⟩ := tx
  exact ⟨o, items, n, keep b o at_, rest⟩
theorem Held.moved {h h' : Heap} {a : Addr} {L : Keyed} {es : Array (Int × Value)} {ep : Nat} {t : SetTable} (R : Held P w h a L es ep t) (here : ∀ o, h.get? a = some o → h'.get? a = some o) (txt : ∀ p ∈ L, Tx P w h' p.2 p.1) : Held P w h' a L es ep t := by
  obtain ⟨o, at_, rest⟩ := R.obj
  exact ⟨⟨o, here o at_, rest⟩, R.ent, R.tab, R.once, txt, R.led, R.room, R.few⟩
/-- the object of a new set -/
abbrev newSet (w : World) : Obj := { cls := .type "set", dict := none, data := .set #[] 0 (.fresh 0 0 (!w.params.followText "set-order")) }
theorem held_new {h : Heap} {a : Addr} (obj : h.get? a = some (newSet w)) : Held P w h a [] #[] 0 (.fresh 0 0 (!w.params.followText "set-order")) := by
  refine ⟨⟨_, obj, ⟨rfl, rfl, rfl⟩, rfl⟩, rfl, ⟨List.Pairwise.nil, rfl, rfl, .inl rfl, fun x hx => (nomatch hx), fun i h j hi => ?_⟩, List.nodup_nil, fun p hp => (nomatch hp), ?_, (by show 0 * 5 < 7 * 3; decide), (by show 0 < 64; decide)⟩
  · simp [hashes] at hi
  · show _ ∨ (!w.params.followText "set-order") = true
    cases w.params.followText "set-order"
    · exact .inr rfl
    · exact .inl rfl
/-- the loop of set.update -/
theorem tx_loop {I S : Addr} {fp wr : List Addr} {G : Array GenState → Array GenState → Prop} {n : Nat} {Pv : Nat → Value → Prop} {St : Nat → Shared → Prop} {R : Result → Shared → Prop} (W : WalksS P w A.in1 I fp wr G n Pv St) (apart : S ∉ fp) (ks : Keyed) (size : n = ks.length) (few : ks.length < 64)
    (given : ∀ i v, Pv i v → ∃ p, ks[i]? = some p ∧ v = .ref p.1) (h0 : Heap) (txt : ∀ p ∈ ks, Tx P w h0 p.2 p.1) (newS : h0.get? S = none) (neww : ∀ b ∈ wr, h0.get? b = none) (hu : A.in1.units < cLine) (left : Nat) :
    ∀ (i : Nat) (s : Shared), n - i = left → i ≤ n → St i s → (∀ b o, h0.get? b = some o → s.heap.get? b = some o) → (∃ L es ep t, Held P w s.heap S L es ep t ∧ Met ks i L) →
      (∀ s' L es ep t, Moved (S :: wr) G s s' → Held P w s'.heap S L es ep t → Met ks n L → (∀ b o, h0.get? b = some o → s'.heap.get? b = some o) → R (.ok (.ret .none)) s') →
      codeAny (model P w) A (.builtin "set.update.loop" ⟨[.ref S, .ref I], []⟩) R s := by
  have apart2 : S ∉ wr := fun h => apart (W.sub _ h)
  have wider : ∀ b ∈ wr, b ∈ S :: wr := fun b hb => List.mem_cons_of_mem _ hb
  have over : ∀ {s1 s2 : Shared}, Moved wr G s1 s2 → (∀ b o, h0.get? b = some o → s1.heap.get? b = some o) → ∀ b o, h0.get? b = some o → s2.heap.get? b = some o := fun mv keep b o e =>
    mv.heap b o (fun hb => by rw [neww b hb] at e; cases e) (keep b o e)
  have inks : ∀ {i : Nat} {L : Keyed}, Met ks i L → ∀ p ∈ L, p ∈ ks := fun m p hp => List.mem_of_mem_take (m.sub p hp)
  induction left with
  | zero =>
    rintro i s left le st keep ⟨L, es, ep, t, held, met⟩ fin
    obtain rfl : i = n := by omega
    apply codeAny_builtin F.entry_set_update_loop
    rw [Around.under_plainId F.plain_set_update_loop _]
    change wpAny _ A.in1 (pyNext (.ref I) >>= _) _ _ s
    apply wpAny_bind
    refine W.done s _ _ st fun s2 mv => ?_
    change wpAny _ A.in1 (ret Value.none) _ _ s2
    have keep2 := over mv keep
    exact wpAny_pure (fin s2 L es ep t (mv.mono wider) (held.moved (fun o e => mv.heap S o apart2 e) fun p hp => (txt p (inks met p hp)).kept keep2) met keep2)
  | succ left ih =>
    rintro i s more le st keep ⟨L, es, ep, t, held, met⟩ fin
    have lt : i < n := by omega
    apply codeAny_builtin F.entry_set_update_loop
    rw [Around.under_plainId F.plain_set_update_loop _]
    change wpAny _ A.in1 (pyNext (.ref I) >>= _) _ _ s
    apply wpAny_bind
    refine W.item i s _ _ lt st fun v s2 hv st2 mv => ?_
    obtain ⟨p, at_, rfl⟩ := given i v hv
    have keep2 := over mv keep
    have held2 : Held P w s2.heap S L es ep t := held.moved (fun o e => mv.heap S o apart2 e) fun q hq => (txt q (inks met q hq)).kept keep2
    have tx : Tx P w s2.heap p.2 p.1 := (txt p (List.mem_of_getElem? at_)).kept keep2
    change wpAny _ A.in1 (holding [Value.ref p.1] (setAdd S (.ref p.1)) >>= _) _ _ s2
    apply wpAny_bind
    apply wpAny_holding
    unfold setAdd
    apply wpAny_holding
    apply wpAny_bind
    apply wpAny_pyHash_tuple hu tx
    refine tx_add (s := { s2 with toks := s2.toks + (p.2.length + 1) }) held2 tx hu (by have := met.len; omega) fun b h3 L3 es3 ep3 t3 same held3 old new => ?_
    have keep3 : ∀ b o, h0.get? b = some o → h3.get? b = some o := fun b o e => (same.2 b (fun z => by rw [z, newS] at e; cases e)).trans (keep2 b o e)
    refine wpAny_pure ⟨plainId_quiet F.plain_set_update_loop _, ih (i + 1) _ (by omega) lt (W.frame _ s2 _ _ st2 (Nat.le_add_right _ _) fun b hb o e => ?_) keep3 ⟨L3, es3, ep3, t3, held3, met.next at_ old new⟩ fun s4 L4 es4 ep4 t4 mv4 held4 met4 keep4 => ?_⟩
    · rw [same.2 b (fun h : b = S => apart (by rw [← h]; exact hb))]
      exact e
    · refine fin s4 L4 es4 ep4 t4 (Moved.trans W.gtrans ((mv.mono wider).then_heap (Nat.le_add_right _ _) fun b o hb e => ?_) mv4) held4 met4 keep4
      rw [same.2 b (fun h : b = S => hb (by rw [h]; exact List.mem_cons_self ..))]
      exact e
set_option maxRecDepth 100000 in
set_option maxHeartbeats 3200000 in
/-- set(xs), xs a list -/
theorem call_set_txlist {l : Addr} {items : Array Value} (ks : Keyed) {Q : Value → Shared → Prop} (calm : A.handled = none) (seq : s.heap.IsList l items) (its : items.toList = ks.map fun p => Value.ref p.1) (txt : ∀ p ∈ ks, Tx P w s.heap p.2 p.1) (few : ks.length < 64) (hu : A.units + 3 < cLine)
    (fin : ∀ (h' : Heap) (tk : Nat) L es ep t, Held P w h' s.heap.objs.size L es ep t → Met ks ks.length L → (∀ b o, s.heap.get? b = some o → h'.get? b = some o) → Q (.ref s.heap.objs.size) { s with heap := h', toks := tk }) :
    wpAny (model P w) A (call (.type "set") [.ref l]) Q E s := by
  have count : items.size = ks.length := by
    rw [← Array.length_toList, its]
    exact List.length_map _
  obtain ⟨c, tl, mro⟩ := F.called_set.mro
  have made_ := F.called_set.made
  have sub_ := F.called_set.sub
  apply wpAny_call
  apply codeAny_of_tree
  change wpAny _ _ (callAny (.type "set") _) _ _ _
  refine wpAny_pure ⟨Code.quiet_builtin _ (by decide +kernel), ?_⟩
  apply codeAny_builtin F.entry_type_call
  rw [Around.under_plain (weight_type_call_type "set" [.ref l] []) rfl]
  have k1 := F.called_set.notType
  have k2 := F.called_set.canCreate
  have k3 := F.typeCall_set_1 (.ref l)
  repeat any_goals first | assumption | wp_step
  refine codeAny_mono (code_set_led1 (.ref l) (E := E) (Q₁ := fun obj s1 => obj = .ref s.heap.objs.size ∧ s1 = { s with heap := s.heap.push (newSet w) }) ⟨rfl, rfl⟩) ?_
  intro r s1 hr
  match r, hr with
  | .error e, hr => exact hr
  | .ok (.ret obj), hr =>
    obtain ⟨rfl, rfl⟩ := hr
    have there : (s.heap.push (newSet w)).get? s.heap.objs.size = some (newSet w) := Heap.get?_push_size _ rfl
    have typ : Shared.TypeIs { s with heap := s.heap.push (newSet w) } (.ref s.heap.objs.size) "set" := ⟨_, there, rfl⟩
    have k4 := F.called_set.init.lookup
    have k5 := F.called_set.init.bind (.ref s.heap.objs.size)
    repeat any_goals first | assumption | wp_step
    refine codeAny_mono (codeAny_call_builtin (R := wants (fun r s2 => r = .none ∧ ∃ h' tk L es ep t, s2 = { s with heap := h', toks := tk } ∧ Held P w h' s.heap.objs.size L es ep t ∧ Met ks ks.length L ∧ ∀ b o, s.heap.get? b = some o → h'.get? b = some o) E) F.called_set.init.plain F.entry_set_init (check_set_init_1 typ ?_)) ?_
    · obtain ⟨⟨ocls, odict, odata, oslots⟩, at_, cls, nl, dat⟩ := seq
      simp only at cls dat
      subst cls
      subst dat
      have at2 : (s.heap.push (newSet w)).get? l = some { cls := .type "list", dict := odict, data := .seq items nl, slots := oslots } := Heap.get?_push_of_some _ at_
      have k6 := F.sub_list_set
      have k7 := F.sub_list_frozenset
      have k8 : (Value.type "list" == Value.type "dict") = false := by decide
      have seq2 : (s.heap.push (newSet w)).IsList l items := ⟨_, at2, rfl, nl, rfl⟩
      unfold Builtin.«set.__init__» noKeywords Builtin.Frozenset.updateFrom
      generalize hit : pyIter = it
      wp_walk
      subst hit
      apply wpAny_pyIter_list seq2
      apply wpAny_bind
      apply wpAny_runValue
      have old : l < s.heap.objs.size := Heap.lt_size at_
      have calm3 : A.in1.in1.in1.handled = none := by simp [calm]
      have size1 : (s.heap.push (newSet w)).objs.size = s.heap.objs.size + 1 := Heap.size_push ..
      have apart : s.heap.objs.size ∉ [(s.heap.push (newSet w)).objs.size, l] := by
        intro m
        rcases List.mem_cons.mp m with e | m
        · rw [size1] at e
          exact absurd e (Nat.ne_of_lt (Nat.lt_succ_self _))
        · rw [← List.mem_singleton.mp m] at old
          exact absurd old (Nat.lt_irrefl _)
      have given : ∀ (i : Nat) (v : Value), items[i]? = some v → ∃ p, ks[i]? = some p ∧ v = .ref p.1 := fun i v hv => by
        rw [← Array.getElem?_toList, its] at hv
        rw [List.getElem?_map] at hv
        cases q : ks[i]? with
        | none => rw [q] at hv; cases hv
        | some p => rw [q] at hv; exact ⟨p, rfl, (Option.some.inj hv).symm⟩
      have beyond : ∀ b, s.heap.objs.size ≤ b → s.heap.get? b = none := fun b hb => by
        cases q : s.heap.get? b with
        | none => rfl
        | some o => exact absurd (Heap.lt_size q) (Nat.not_lt.mpr hb)
      refine tx_loop ((Walks.list calm3 _ l (by rw [size1]; exact Nat.ne_of_lt (Nat.lt_succ_of_lt old)) items).toS) apart ks count few given s.heap txt (beyond _ (Nat.le_refl _)) (fun b hb => beyond b (by rw [List.mem_singleton.mp hb, size1]; exact Nat.le_succ _)) hu (items.size - 0) 0 _ rfl (Nat.zero_le _)
        ⟨⟨_, Heap.get?_push_size _ rfl, rfl, rfl⟩, seq2.push _⟩ (fun b o e => Heap.get?_push_of_some _ (Heap.get?_push_of_some _ e)) ⟨[], #[], 0, _, held_new (Heap.get?_push_of_some _ there), ⟨fun p hp => (nomatch hp), fun p hp => (by simp at hp), Nat.le_refl _⟩⟩ ?_
      intro s2 L es ep t mv held met keep
      obtain ⟨h2, g2, d2, tk2, os2⟩ := s2
      have e1 : g2 = s.gens := mv.gens
      have e2 : d2 = s.drawn := mv.drawn
      have e3 : os2 = s.os := mv.os
      subst e1 e2 e3
      rw [count] at met
      exact wpAny_pure (wpAny_pure ⟨rfl, h2, tk2, L, es, ep, t, rfl, held, met, keep⟩)
    · intro r2 s2 hr2
      match r2, hr2 with
      | .error e, hr2 => exact hr2
      | .ok (.ret r), hr2 =>
        obtain ⟨rfl, h2, tk2, L, es, ep, t, rfl, held, met, keep⟩ := hr2
        repeat any_goals first | assumption | wp_step
        exact fin _ _ _ _ _ _ held met keep
set_option maxRecDepth 100000 in
set_option maxHeartbeats 3200000 in
/-- set(xs), xs a tuple -/
theorem call_set_txtuple {l : Addr} {items : Array Value} (ks : Keyed) {Q : Value → Shared → Prop} (calm : A.handled = none) (seq : s.heap.IsTuple l items) (its : items.toList = ks.map fun p => Value.ref p.1) (txt : ∀ p ∈ ks, Tx P w s.heap p.2 p.1) (few : ks.length < 64) (hu : A.units + 3 < cLine)
    (fin : ∀ (h' : Heap) (tk : Nat) L es ep t, Held P w h' s.heap.objs.size L es ep t → Met ks ks.length L → (∀ b o, s.heap.get? b = some o → h'.get? b = some o) → Q (.ref s.heap.objs.size) { s with heap := h', toks := tk }) :
    wpAny (model P w) A (call (.type "set") [.ref l]) Q E s := by
  have count : items.size = ks.length := by
    rw [← Array.length_toList, its]
    exact List.length_map _
  obtain ⟨c, tl, mro⟩ := F.called_set.mro
  have made_ := F.called_set.made
  have sub_ := F.called_set.sub
  apply wpAny_call
  apply codeAny_of_tree
  change wpAny _ _ (callAny (.type "set") _) _ _ _
  refine wpAny_pure ⟨Code.quiet_builtin _ (by decide +kernel), ?_⟩
  apply codeAny_builtin F.entry_type_call
  rw [Around.under_plain (weight_type_call_type "set" [.ref l] []) rfl]
  have k1 := F.called_set.notType
  have k2 := F.called_set.canCreate
  have k3 := F.typeCall_set_1 (.ref l)
  repeat any_goals first | assumption | wp_step
  refine codeAny_mono (code_set_led1 (.ref l) (E := E) (Q₁ := fun obj s1 => obj = .ref s.heap.objs.size ∧ s1 = { s with heap := s.heap.push (newSet w) }) ⟨rfl, rfl⟩) ?_
  intro r s1 hr
  match r, hr with
  | .error e, hr => exact hr
  | .ok (.ret obj), hr =>
    obtain ⟨rfl, rfl⟩ := hr
    have there : (s.heap.push (newSet w)).get? s.heap.objs.size = some (newSet w) := Heap.get?_push_size _ rfl
    have typ : Shared.TypeIs { s with heap := s.heap.push (newSet w) } (.ref s.heap.objs.size) "set" := ⟨_, there, rfl⟩
    have k4 := F.called_set.init.lookup
    have k5 := F.called_set.init.bind (.ref s.heap.objs.size)
    repeat any_goals first | assumption | wp_step
    refine codeAny_mono (codeAny_call_builtin (R := wants (fun r s2 => r = .none ∧ ∃ h' tk L es ep t, s2 = { s with heap := h', toks := tk } ∧ Held P w h' s.heap.objs.size L es ep t ∧ Met ks ks.length L ∧ ∀ b o, s.heap.get? b = some o → h'.get? b = some o) E) F.called_set.init.plain F.entry_set_init (check_set_init_1 typ ?_)) ?_
    · obtain ⟨⟨ocls, odict, odata, oslots⟩, at_, cls, nl, dat⟩ := seq
      simp only at cls dat
      subst cls
      subst dat
      have at2 : (s.heap.push (newSet w)).get? l = some { cls := .type "tuple", dict := odict, data := .seq items nl, slots := oslots } := Heap.get?_push_of_some _ at_
      have k6 := F.sub_tuple_set
      have k7 := F.sub_tuple_frozenset
      have k8 : (Value.type "tuple" == Value.type "dict") = false := by decide
      have seq2 : (s.heap.push (newSet w)).IsTuple l items := ⟨_, at2, rfl, nl, rfl⟩
      unfold Builtin.«set.__init__» noKeywords Builtin.Frozenset.updateFrom
      generalize hit : pyIter = it
      wp_walk
      subst hit
      apply wpAny_pyIter_tuple seq2
      apply wpAny_bind
      apply wpAny_runValue
      have old : l < s.heap.objs.size := Heap.lt_size at_
      have calm3 : A.in1.in1.in1.handled = none := by simp [calm]
      have size1 : (s.heap.push (newSet w)).objs.size = s.heap.objs.size + 1 := Heap.size_push ..
      have apart : s.heap.objs.size ∉ [(s.heap.push (newSet w)).objs.size, l] := by
        intro m
        rcases List.mem_cons.mp m with e | m
        · rw [size1] at e
          exact absurd e (Nat.ne_of_lt (Nat.lt_succ_self _))
        · rw [← List.mem_singleton.mp m] at old
          exact absurd old (Nat.lt_irrefl _)
      have given : ∀ (i : Nat) (v : Value), items[i]? = some v → ∃ p, ks[i]? = some p ∧ v = .ref p.1 := fun i v hv => by
        rw [← Array.getElem?_toList, its] at hv
        rw [List.getElem?_map] at hv
        cases q : ks[i]? with
        | none => rw [q] at hv; cases hv
        | some p => rw [q] at hv; exact ⟨p, rfl, (Option.some.inj hv).symm⟩
      have beyond : ∀ b, s.heap.objs.size ≤ b → s.heap.get? b = none := fun b hb => by
        cases q : s.heap.get? b with
        | none => rfl
        | some o => exact absurd (Heap.lt_size q) (Nat.not_lt.mpr hb)
      refine tx_loop ((Walks.tuple calm3 _ l (by rw [size1]; exact Nat.ne_of_lt (Nat.lt_succ_of_lt old)) items).toS) apart ks count few given s.heap txt (beyond _ (Nat.le_refl _)) (fun b hb => beyond b (by rw [List.mem_singleton.mp hb, size1]; exact Nat.le_succ _)) hu (items.size - 0) 0 _ rfl (Nat.zero_le _)
        ⟨⟨_, Heap.get?_push_size _ rfl, rfl, rfl⟩, seq2.push _⟩ (fun b o e => Heap.get?_push_of_some _ (Heap.get?_push_of_some _ e)) ⟨[], #[], 0, _, held_new (Heap.get?_push_of_some _ there), ⟨fun p hp => (nomatch hp), fun p hp => (by simp at hp), Nat.le_refl _⟩⟩ ?_
      intro s2 L es ep t mv held met keep
      obtain ⟨h2, g2, d2, tk2, os2⟩ := s2
      have e1 : g2 = s.gens := mv.gens
      have e2 : d2 = s.drawn := mv.drawn
      have e3 : os2 = s.os := mv.os
      subst e1 e2 e3
      rw [count] at met
      exact wpAny_pure (wpAny_pure ⟨rfl, h2, tk2, L, es, ep, t, rfl, held, met, keep⟩)
    · intro r2 s2 hr2
      match r2, hr2 with
      | .error e, hr2 => exact hr2
      | .ok (.ret r), hr2 =>
        obtain ⟨rfl, h2, tk2, L, es, ep, t, rfl, held, met, keep⟩ := hr2
        repeat any_goals first | assumption | wp_step
        exact fin _ _ _ _ _ _ held met keep
end
end Dl

/-! sets of tuples of texts: sorted(set) -/
namespace Dl
open PySem PySem.Spec PyProof.Rows L2
/-- a tuple of texts as data -/
def txData (k : List Str) : PyData := .tuple (k.map PyData.str)
/-- Python's order of them -/
def txLe : List Str → List Str → Bool := PySem.W.dataLe false txData
/-- the one sorted list -/
def sortK (ks : List (List Str)) : List (List Str) := ks.mergeSort txLe
theorem toks_inj : ∀ {k l : List Str}, PySem.W.keyToksAll (k.map PyData.str) = PySem.W.keyToksAll (l.map PyData.str) → k = l
  | [], [], _ => rfl
  | [], y :: l, h => by
    rw [List.map_nil, List.map_cons, PySem.W.toks_all_cons] at h
    simp [PySem.W.keyToksAll] at h
  | x :: k, [], h => by
    rw [List.map_nil, List.map_cons, PySem.W.toks_all_cons] at h
    simp [PySem.W.keyToksAll] at h
  | x :: k, y :: l, h => by
    rw [List.map_cons, List.map_cons, PySem.W.toks_all_cons, PySem.W.toks_all_cons] at h
    simp only [PySem.W.keyToks, List.cons_append, List.nil_append, List.cons.injEq, true_and, Sum.inr.injEq] at h
    rw [Str.ext' (Array.toList_inj.mp h.1), toks_inj h.2]
theorem txLe_anti {k l : List Str} (h1 : txLe k l = true) (h2 : txLe l k = true) : k = l := by
  have e : ∀ a b : List Str, txLe a b = !PyProof.Rows.lexLt PyProof.Rows.itemOrd (PySem.W.keyToksAll (b.map PyData.str)) (PySem.W.keyToksAll (a.map PyData.str)) := fun a b => by
    show (!PyProof.Rows.lexLt PyProof.Rows.itemOrd (PySem.W.keyToks (txData b)) (PySem.W.keyToks (txData a))) = _
    simp only [txData, PySem.W.keyToks]
  rw [e, Bool.not_eq_true'] at h1 h2
  exact toks_inj (PyProof.Rows.lex_total _ _ h2 h1)
theorem txLe_trans (a b c : List Str) (h1 : txLe a b = true) (h2 : txLe b c = true) : txLe a c = true := (PySem.W.sortLe_total (PyProof.Rows.listOrd PyProof.Rows.itemOrd) false fun k => PySem.W.keyToks (txData k)).trans a b c h1 h2
theorem txLe_total (a b : List Str) : (txLe a b || txLe b a) = true := by
  rw [Bool.or_eq_true]
  exact (PySem.W.sortLe_total (PyProof.Rows.listOrd PyProof.Rows.itemOrd) false fun k => PySem.W.keyToks (txData k)).total a b
theorem sortK_perm {ks ls : List (List Str)} (h : ks.Perm ls) : sortK ks = sortK ls :=
  List.Perm.eq_of_pairwise (le := fun a b => txLe a b = true) (fun a b _ _ => txLe_anti) (List.pairwise_mergeSort txLe_trans txLe_total _) (List.pairwise_mergeSort txLe_trans txLe_total _) (((List.mergeSort_perm _ _).trans h).trans (List.mergeSort_perm _ _).symm)
/-- a permutation of a mapped list is a mapped permutation -/
theorem perm_back {α β : Type} {f : α → β} {vs ys : List β} (h : vs.Perm ys) : ∀ {L : List α}, ys = L.map f → ∃ L1 : List α, L1.Perm L ∧ vs = L1.map f := by
  induction h with
  | nil => exact fun {L} e => ⟨[], by rw [List.map_eq_nil_iff.mp e.symm], rfl⟩
  | cons x _ ih =>
    intro L e
    cases L with
    | nil => cases e
    | cons p L =>
      rw [List.map_cons] at e
      injection e with e1 e2
      obtain ⟨L1, q1, q2⟩ := ih e2
      exact ⟨p :: L1, q1.cons p, by rw [List.map_cons, e1, q2]⟩
  | swap x y l =>
    intro L e
    match L, e with
    | p :: q :: L, e =>
      rw [List.map_cons, List.map_cons] at e
      injection e with e1 e2
      injection e2 with e2 e3
      exact ⟨q :: p :: L, List.Perm.swap p q L, by rw [List.map_cons, List.map_cons, e1, e2, e3]⟩
    | [p], e => simp at e
    | [], e => cases e
  | trans _ _ ih1 ih2 =>
    intro L e
    obtain ⟨L2, q1, q2⟩ := ih2 e
    obtain ⟨L1, q3, q4⟩ := ih1 q2
    exact ⟨L1, q3.trans q1, q4⟩
theorem alike_texts : ∀ k l : List Str, PySem.W.alikeAll (k.map PyData.str) (l.map PyData.str) = true
  | [], _ => by simp [PySem.W.alikeAll]
  | _ :: _, [] => by simp [PySem.W.alikeAll]
  | x :: k, y :: l => by
    rw [List.map_cons, List.map_cons, PySem.W.alikeAll, alike_texts k l]
    simp [PySem.W.alike]
section
variable {P : Program} {w : World} {A : Around} {E : Value → Shared → Prop} {s : Shared}
theorem texts_read {h : Heap} : ∀ {k : List Str} {vs : List Value}, ItemsAre (strKind P w) k vs → ReadsAll h vs (k.map PyData.str) []
  | [], _, .nil => .nil
  | z :: k, _, .cons one rest => by
    obtain ⟨t, rfl⟩ := Value.isStrOf_shape one
    exact .cons (as := []) (bs := []) (.str z t) (texts_read rest)
theorem Tx.reads {h : Heap} {k : List Str} {b : Addr} (tx : Tx P w h k b) : Reads h (.ref b) (txData k) [] := by
  obtain ⟨o, items, n, at_, cls, dat, its⟩ := tx
  exact .tuple at_ cls dat (texts_read its)
/-- sorted(set) -/
theorem sorted_tx {a : Addr} {L : Keyed} {es : Array (Int × Value)} {ep : Nat} {t : SetTable} {Q : Value → Shared → Prop} (R : Held P w s.heap a L es ep t) (calm : A.handled = none) (hu : A.units + 10 < cLine) (full : ∀ p ∈ L, p.2 ≠ [])
    (fin : ∀ s' p (out : Array Value) (c : Nat) (L' : Keyed), (∀ b o, s.heap.get? b = some o → s'.heap.get? b = some o) → s'.gens = s.gens → s'.os = s.os → s.heap.objs.size ≤ p → s'.heap.get? p = some (seqObj "list" out c) → out.toList = L'.map (fun q => Value.ref q.1) → L'.Perm L → L'.map (·.2) = sortK (L.map (·.2)) → Q (.ref p) s') :
    wpAny (model P w) A (call (.builtin "sorted") [.ref a]) Q E s := by
  obtain ⟨o, obj, exact_, dat⟩ := R.obj
  have size := R.size
  have few := R.few
  apply Calls.call_function_entry kind_sorted plain_sorted entry_sorted (args_sorted1 _)
  unfold Builtin.«sorted»
  apply wpAny_bind (m := checkCount "sorted" 1 1 _)
  apply wpAny_pure
  apply wpAny_bind
  refine collect_set (A := A.in1) calm ⟨o, obj, exact_.1, dat⟩ R.fits (by unfold scanBound; omega) R.tab.ris R.led fun s1 vs keep grow gens1 os1 perm => ?_
  have vals : es.toList.map (·.2) = L.map fun q => Value.ref q.1 := by
    rw [R.ent]
    unfold entries
    rw [List.map_map]
    rfl
  rw [vals] at perm
  obtain ⟨L1, perm1, rfl⟩ := perm_back perm rfl
  have len1 : L1.length = L.length := perm1.length_eq
  apply wpAny_bind
  apply wpAny_newList _ (by rw [List.length_map, sizeLine_eq]; omega)
  have newL : (s1.heap.push (seqObj "list" (L1.map fun q => Value.ref q.1).toArray 0)).get? s1.heap.objs.size = some (seqObj "list" (L1.map fun q => Value.ref q.1).toArray 0) := Heap.get?_push_size _ rfl
  have reads : ∀ q ∈ L1, Reads (s1.heap.push (seqObj "list" (L1.map fun q => Value.ref q.1).toArray 0)) (.ref q.1) (txData q.2) [] := fun q hq => ((R.txt q (perm1.mem_iff.mp hq)).kept fun b u e => Heap.get?_push_of_some _ (keep b u e)).reads (P := P) (w := w)
  have each : ∀ {R1 : Value → Addr × List Str → Prop} {M : Keyed}, (∀ q ∈ M, R1 (.ref q.1) q) → PySem.W.EachIs R1 (M.map fun q => Value.ref q.1) M := by
    intro R1 M
    induction M with
    | nil => exact fun _ => .nil
    | cons q M ih => exact fun all => .cons (all q (List.mem_cons_self ..)) (ih fun r hr => all r (List.mem_cons_of_mem _ hr))
  have alikes : PySem.W.AllAlike (L1.map fun q : Addr × List Str => txData q.2) := PySem.W.AllAlike.of (enc := fun q : Addr × List Str => txData q.2) fun q r => by
    unfold txData
    rw [PySem.W.alike]
    exact alike_texts _ _
  have sortable : PySem.W.Sortable (L1.map fun q : Addr × List Str => txData q.2) := .inl fun d hd => by
    obtain ⟨q, hq, rfl⟩ := List.mem_map.mp hd
    have ne := full q (perm1.mem_iff.mp hq)
    cases e : q.2 with
    | nil => exact absurd e ne
    | cons z r => exact ⟨PyData.str z, r.map PyData.str, rfl⟩
  have flat : ∀ q : Addr × List Str, (txData q.2).depth = 1 := fun q => by
    have z : ∀ k : List Str, PyData.depthAll (k.map PyData.str) = 0 := by
      intro k
      induction k with
      | nil => simp [PyData.depthAll]
      | cons x k ih => rw [List.map_cons, PyData.depthAll, ih]; simp [PyData.depth]
    unfold txData
    rw [PyData.depth, z]
  apply wpAny_bind
  apply wpAny_holding
  refine PySem.W.list_sort_data (s := { s1 with heap := s1.heap.push (seqObj "list" (L1.map fun q => Value.ref q.1).toArray 0) }) (R := fun v (q : Addr × List Str) => v = .ref q.1) (enc := fun q => txData q.2) (bs := L1) newL (each fun q _ => rfl) (each fun q hq => ⟨[], reads q hq, by simp⟩) alikes sortable (by rw [sizeLine_eq]; omega) (fun q _ => by rw [flat]; show A.units + 1 + 1 + 1 < cLine; omega) fun out len outs => ?_
  obtain ⟨c, at_⟩ := sortedHeap_at (vs := L1.map fun q => Value.ref q.1) (out := out.toArray) newL
  have same : ∀ {us : List Value} {M : Keyed}, PySem.W.EachIs (fun v (q : Addr × List Str) => v = .ref q.1) us M → us = M.map fun q => Value.ref q.1 := by
    intro us M h
    induction h with
    | nil => rfl
    | cons e _ ih => rw [List.map_cons, e, ih]
  have sorted_ := same outs
  have keys : (L1.mergeSort (PySem.W.dataLe false fun q : Addr × List Str => txData q.2)).map (·.2) = sortK (L.map (·.2)) := by
    rw [← sortK_perm (perm1.map (·.2))]
    exact List.map_mergeSort fun _ _ _ _ => rfl
  refine wpAny_pure ⟨_, rfl, fin _ s1.heap.objs.size out.toArray c _ (fun b u e => ?_) gens1 os1 grow at_ (by simpa using sorted_) ((List.mergeSort_perm _ _).trans perm1) keys⟩
  have q := keep b u e
  have lt := Heap.lt_size q
  change (sortedHeap (s1.heap.push (seqObj "list" (L1.map fun q => Value.ref q.1).toArray 0)) s1.heap.objs.size (L1.map fun q => Value.ref q.1) out.toArray).get? b = some u
  rw [sortedHeap_old (Nat.ne_of_lt lt) (by rw [size_push']; exact Nat.lt_succ_of_lt lt)]
  exact Heap.get?_push_of_some _ q
end
end Dl

/-! sets of tuples of texts: the rules of the layer -/
namespace Dl
open PySem PySem.Spec PyProof.Rows L2
/-- the set at a, without its tuples -/
def Held0 (P : Program) (w : World) (h : Heap) (a : Addr) (L : Keyed) : Prop := ∃ (es : Array (Int × Value)) (ep : Nat) (t : SetTable), (∃ o, h.get? a = some o ∧ o.ExactSet ∧ o.data = .set es ep t) ∧ es.toList = entries P w L ∧ TabOk t (hashes P w L) ∧ (L.map (·.2)).Nodup ∧
  (w.params.followText "set-order" = true ∨ t.led = true) ∧ L.length * 5 < t.mask * 3 ∧ L.length < 64
def SetTx (P : Program) (w : World) (a : Addr) (L : Keyed) : HO := .ext fun h => Held0 P w h a L
theorem Held.bare {P : Program} {w : World} {h : Heap} {a : Addr} {L : Keyed} {es : Array (Int × Value)} {ep : Nat} {t : SetTable} (R : Held P w h a L es ep t) : Held0 P w h a L := ⟨es, ep, t, R.obj, R.ent, R.tab, R.once, R.led, R.room, R.few⟩
theorem setTx_new {P : Program} {w : World} {H : Hp} {h : Heap} {a : Addr} {L : Keyed} (R : Held0 P w h a L) : ObjOk P w H h a (SetTx P w a L) := by
  have ⟨es, ep, t, ⟨o, at_, more⟩, rest⟩ := R
  refine ⟨R, ⟨o, at_⟩, fun h1 h2 R1 keep => ?_⟩
  have ⟨es1, ep1, t1, ⟨o1, at1, more1⟩, rest1⟩ := (R1 : Held0 P w h1 a L)
  exact ⟨es1, ep1, t1, ⟨o1, keep o1 at1, more1⟩, rest1⟩
theorem items_tx {P : Program} {w : World} : ∀ {k : List Str} {us : List Value}, Vals (k.map V.str) us → ItemsAre (strKind P w) k us
  | [], _, .nil => .nil
  | z :: k, _, .cons r t => by
    obtain ⟨tk, rfl⟩ := r
    refine .cons ?_ (items_tx t)
    show Value.isStrOf z (.str z tk) = true
    simp [Value.isStrOf]
theorem refs_tx : ∀ {ks : Keyed} {us : List Value}, Vals (ks.map fun p => V.ref p.1) us → us = ks.map fun p => Value.ref p.1
  | [], _, .nil => rfl
  | p :: ks, _, .cons r t => by
    cases r
    rw [refs_tx t]
    rfl
theorem vals_tx : ∀ ks : Keyed, Vals (ks.map fun p => V.ref p.1) (ks.map fun p => Value.ref p.1)
  | [] => .nil
  | _ :: ks => .cons rfl (vals_tx ks)
section
variable {X : Cx}
theorem tx_of {pins : List (Addr × Obj)} {σ : L2.St} {H : Hp} {s : Shared} {b : Addr} {k : List Str} (I : Inv X pins σ H s) (h : SqT X.K H b (k.map V.str)) : Tx X.prog X.w s.heap k b := by
  obtain ⟨its, r, ⟨o, at_, cls, n, dat⟩, _⟩ := I.tuple h
  exact ⟨o, its.toArray, n, at_, cls, dat, by simpa using items_tx r⟩
/-- set(xs), xs a list or a tuple of tuples of texts -/
def rSetTx (K : PySem.W.Frag) (P : Program) (w : World) : List V → Hp → VK → Prop := fun xs H Q => ∃ (l : Addr) (ks : Keyed), xs = [V.ref l] ∧ (SqL K H l (ks.map fun p => V.ref p.1) ∨ SqT K H l (ks.map fun p => V.ref p.1)) ∧ (∀ p ∈ ks, SqT K H p.1 (p.2.map V.str)) ∧ ks.length < 64 ∧
  ∀ a (L : Keyed), H a = none → (∀ p ∈ L, p ∈ ks) → (∀ p ∈ ks, p.2 ∈ L.map (·.2)) → (L.map (·.2)).Nodup → Q (.ref a) (upd H a (SetTx P w a L))
theorem cr_setTx (calm : X.calm = true) (hu : X.A.units + 64 < cLine) : CallR X (.type "set") (rSetTx X.K X.prog X.w) := by
  intro pins s σ H xs us Q I r h
  obtain ⟨l, ks, rfl, seq, txt, few, q⟩ := h
  rw [Vals.ref1 r]
  have new : H s.heap.objs.size = none := I.hok.fresh (Nat.le_refl _)
  have all := fun p (hp : p ∈ ks) => tx_of I (txt p hp)
  have fin : ∀ (h' : Heap) (tk : Nat) L es ep t, Held X.prog X.w h' s.heap.objs.size L es ep t → Met ks ks.length L → (∀ b o, s.heap.get? b = some o → h'.get? b = some o) → EP X pins σ Q (.ref s.heap.objs.size) { s with heap := h', toks := tk } := fun h' tk L es ep t R met keep =>
    ⟨.ref s.heap.objs.size, upd H s.heap.objs.size (SetTx X.prog X.w s.heap.objs.size L), I.laid (t' := tk) keep (Nat.le_refl _) (setTx_new R.bare), rfl, q _ L new (fun p hp => List.mem_of_mem_take (met.sub p hp)) (fun p hp => met.all p (by rw [List.take_length]; exact hp)) R.once⟩
  rcases seq with seq | seq
  · obtain ⟨its, rv, pl, hz⟩ := I.list seq
    exact call_set_txlist (P := X.prog) (w := X.w) ks (I.ok.hd calm) pl.isList (by simpa using refs_tx rv) all few (by omega) fin
  · obtain ⟨its, rv, pl, hz⟩ := I.tuple seq
    exact call_set_txtuple (P := X.prog) (w := X.w) ks (I.ok.hd calm) pl (by simpa using refs_tx rv) all few (by omega) fin
/-- sorted(set) -/
def rSortTx (K : PySem.W.Frag) (P : Program) (w : World) : List V → Hp → VK → Prop := fun vs H Q => ∃ (a : Addr) (L : Keyed), vs = [V.ref a] ∧ H a = some (SetTx P w a L) ∧ (∀ p ∈ L, SqT K H p.1 (p.2.map V.str)) ∧ (∀ p ∈ L, p.2 ≠ []) ∧
  ∀ (L' : Keyed) (p : Addr), L'.Perm L → L'.map (·.2) = sortK (L.map (·.2)) → L'.length < 64 → H p = none → Q (.ref p) (upd H p (.lst (L'.map fun q => V.ref q.1)))
theorem cr_sortTx (calm : X.calm = true) (hu : X.A.units + 64 < cLine) : CallR X (.builtin "sorted") (rSortTx X.K X.prog X.w) := by
  intro pins s σ H vs us Q I r h
  obtain ⟨a, L, rfl, here, txt, full, q⟩ := h
  obtain ⟨es, ep, t, h1, h2, h3, h4, h5, h6, h7⟩ := ((I.hok a _ here).1 : Held0 X.prog X.w s.heap a L)
  have R : Held X.prog X.w s.heap a L es ep t := ⟨h1, h2, h3, h4, fun p hp => tx_of I (txt p hp), h5, h6, h7⟩
  rw [Vals.ref1 r]
  refine sorted_tx R (I.ok.hd calm) (by omega) full fun s' p out c L' keep gens_ os_ up at_ outs perm keys => ?_
  have few : L'.length < 64 := by rw [perm.length_eq]; exact h7
  have new : H p = none := I.hok.fresh up
  have J : Inv X pins σ (upd H p (.lst (L'.map fun q => V.ref q.1))) { s with heap := s'.heap, gens := s'.gens, drawn := s'.drawn, toks := s'.toks } :=
    I.call (ch := []) (Un.laid keep up new) (I.hok.laid keep up ⟨by rw [List.length_map, sizeLine_eq]; omega, out.toList, c, by rw [outs]; exact vals_tx L', at_⟩) (by rw [gens_]; exact I.bare) (fun _ z => nomatch z)
  have whole : s' = { s with heap := s'.heap, gens := s'.gens, drawn := s'.drawn, toks := s'.toks } := by
    cases s'
    cases s
    cases os_
    rfl
  rw [whole]
  exact ⟨.ref p, _, J, rfl, q L' p perm keys few new⟩
end
/-- each once -/
def onceK : List (List Str) → List (List Str)
  | [] => []
  | k :: r => if k ∈ r then onceK r else k :: onceK r
theorem mem_once {k : List Str} : ∀ {ks : List (List Str)}, k ∈ onceK ks ↔ k ∈ ks
  | [] => Iff.rfl
  | l :: r => by
    unfold onceK
    by_cases h : l ∈ r
    · rw [if_pos h, mem_once, List.mem_cons]
      exact ⟨.inr, fun q => q.elim (fun e => e ▸ h) id⟩
    · rw [if_neg h, List.mem_cons, List.mem_cons, mem_once]
theorem nodup_once : ∀ {ks : List (List Str)}, (onceK ks).Nodup
  | [] => List.nodup_nil
  | l :: r => by
    unfold onceK
    by_cases h : l ∈ r
    · rw [if_pos h]
      exact nodup_once
    · rw [if_neg h]
      exact List.nodup_cons.mpr ⟨fun q => h (mem_once.mp q), nodup_once⟩
/-- what sorted(set(..)) gives, by the keys alone -/
def normK (ks : List (List Str)) : List (List Str) := sortK (onceK ks)
theorem norm_of {ks L : List (List Str)} (once : L.Nodup) (sub : ∀ k ∈ L, k ∈ ks) (all : ∀ k ∈ ks, k ∈ L) : sortK L = normK ks := by
  refine sortK_perm ((List.perm_ext_iff_of_nodup once nodup_once).mpr fun k => ?_)
  rw [mem_once]
  exact ⟨sub k, all k⟩
theorem norm_same {ks ls : List (List Str)} (h : ∀ k, k ∈ ks ↔ k ∈ ls) : normK ks = normK ls :=
  norm_of nodup_once (fun k hk => (h k).mp (mem_once.mp hk)) fun k hk => mem_once.mpr ((h k).mpr hk)
theorem mem_norm {k : List Str} {ks : List (List Str)} : k ∈ normK ks ↔ k ∈ ks := by
  unfold normK sortK
  rw [List.mem_mergeSort, mem_once]
theorem nodup_norm {ks : List (List Str)} : (normK ks).Nodup := (List.mergeSort_perm _ _).nodup_iff.mpr nodup_once
end Dl

/-! sets of tuples of texts: == and != -/
namespace Dl
open PySem PySem.Spec PyProof.Rows L2
section
variable {P : Program} {w : World} {A : Around} {E : Value → Shared → Prop} {s : Shared} {a : Addr} {L : Keyed} {es : Array (Int × Value)} {ep : Nat} {t : SetTable}
theorem tx_search0 (R : Held P w s.heap a L es ep t) {x : Addr} {k : List Str} (tx : Tx P w s.heap k x) (hu : A.units < cLine) {K : Nat} (bound : K < 10 * SetTable.turns t.mask)
    (free : way t.mask (txHash P w k) K ∉ t.place.toList) (taken : ∀ c, c < K → way t.mask (txHash P w k) c ∈ t.place.toList) {Q : SetFound → Shared → Prop}
    (yes : k ∈ L.map (·.2) → ∀ i, Q (.there (some i)) s) (no : k ∉ L.map (·.2) → Q (.free (way t.mask (txHash P w k) K) false) s) (f : Nat) :
    ∀ (c : Nat) (stand : Option SetTable.Probe), stand.getD (t.probeStart (txHash P w k)) = nth t.mask (begin_ t.mask (txHash P w k)) c → c ≤ K → K - c < f →
      (∀ (i : Nat) p, L[i]? = some p → p.2 = k → ∃ c2, c ≤ c2 ∧ c2 < K ∧ t.place.toList[i]? = some (way t.mask (txHash P w k) c2)) →
      wpAny (model P w) A (setSearchFrom a (.ref x) (txHash P w k) false f stand) Q E s := by
  induction f with
  | zero => exact fun c stand _ _ less => absurd less (Nat.not_lt_zero _)
  | succ f ih =>
    intro c stand from_ le less ahead
    obtain ⟨o, obj, exact_, dat⟩ := R.obj
    have go : ∀ q, nth t.mask (nth t.mask (begin_ t.mask (txHash P w k)) c) q = nth t.mask (begin_ t.mask (txHash P w k)) (c + q) := fun q => (nth_add t.mask c _ q).symm
    have spot : ∀ q, (nth t.mask (nth t.mask (begin_ t.mask (txHash P w k)) c) q).j = way t.mask (txHash P w k) (c + q) := fun q => congrArg (fun z => SetTable.Probe.j z) (go q)
    have last : way t.mask (txHash P w k) (c + (K - c)) = way t.mask (txHash P w k) K := by rw [show c + (K - c) = K by omega]
    have stored : ∀ (i : Nat) p, L[i]? = some p → (es[i]?.map (·.1)).getD 0 = txHash P w p.2 := fun i p e => by rw [R.at_ e]; rfl
    have told := go_spec t R.tab.ris R.tab.dm (fun i => (es[i]?.map (·.1)).getD 0) (txHash P w k) (10 * SetTable.turns t.mask) (K - c) (nth t.mask (begin_ t.mask (txHash P w k)) c) (no_dummy _ _ _ rfl) (by omega)
      (fun q lq => by rw [spot]; exact taken _ (by omega)) (by rw [spot, last]; exact free)
    rw [setSearchFrom_succ]
    apply wpAny_bind
    apply wpAny_setState_of obj dat R.fits
    dsimp only
    apply wp_if_neg (by rw [R.stays]; decide)
    try apply wpAny_bind (wpAny_pure _)
    rw [from_]
    rcases told with ⟨q, i, lq, at_i, same, before, met⟩ | ⟨none_, met⟩
    case inr =>
      rw [spot, last] at met
      have met2 : t.probe (fun i => (es[i]?.map (·.1)).getD 0) (txHash P w k) (nth t.mask (begin_ t.mask (txHash P w k)) c) = some (.empty (way t.mask (txHash P w k) K) none) := met
      rw [met2]
      dsimp only
      refine wpAny_pure (no fun hm => ?_)
      obtain ⟨p, hp, e⟩ := List.mem_map.mp hm
      obtain ⟨i, hi, ei⟩ := List.getElem_of_mem hp
      have li : L[i]? = some p := by rw [List.getElem?_eq_getElem hi, ei]
      obtain ⟨c2, l1, l2, l3⟩ := ahead i p li e
      refine none_ (c2 - c) i (by omega) (by rw [spot, show c + (c2 - c) = c2 by omega]; exact l3) ?_
      rw [stored i p li, e]
    rw [spot, go] at met
    rw [spot] at at_i
    have met2 : t.probe (fun i => (es[i]?.map (·.1)).getD 0) (txHash P w k) (nth t.mask (begin_ t.mask (txHash P w k)) c) = some (.candidate (way t.mask (txHash P w k) (c + q)) i (nth t.mask (begin_ t.mask (txHash P w k)) (c + (q + 1)))) := met
    rw [met2]
    dsimp only
    have il : i < L.length := by
      have z := (List.getElem?_eq_some_iff.mp at_i).1
      rw [Array.length_toList, R.placed] at z
      exact z
    obtain ⟨p, li⟩ : ∃ p, L[i]? = some p := ⟨_, List.getElem?_eq_getElem il⟩
    have pm := List.mem_of_getElem? li
    have live : t.slot (way t.mask (txHash P w k) (c + q)) = .live i := slot_live R.tab.ris at_i
    have rest : wpAny (model P w) A (searchRest a (.ref x) (txHash P w k) false f es t (way t.mask (txHash P w k) (c + q)) i (nth t.mask (begin_ t.mask (txHash P w k)) (c + (q + 1)))) Q E s := by
      unfold searchRest
      rw [R.at_ li]
      dsimp only
      apply wpAny_bind
      apply wpAny_holding
      apply wpAny_eqBool_tuple hu (R.txt p pm) tx
      apply wpAny_bind
      apply wpAny_setState_of obj dat R.fits
      dsimp only
      apply wp_if_neg (by simp)
      try apply wpAny_bind (wpAny_pure _)
      rw [sameMem]
      dsimp only
      simp only [if_true, live, R.at_ li]
      apply wpAny_bind
      apply wpAny_isSame_ref_self
      apply wpAny_bind
      apply wpAny_pure
      simp only [if_true]
      by_cases eq_ : p.2 = k
      · exact wp_if_pos (by simp [eq_]) (wpAny_pure (yes (List.mem_map.mpr ⟨p, pm, eq_⟩) i))
      apply wp_if_neg (by simp [eq_])
      refine ih (c + (q + 1)) _ rfl (by omega) (by omega) fun i2 p2 li2 e2 => ?_
      obtain ⟨c2, l1, l2, l3⟩ := ahead i2 p2 li2 e2
      refine ⟨c2, ?_, l2, l3⟩
      rcases Nat.lt_trichotomy c2 (c + q) with z | z | z
      · exact absurd ((stored i2 p2 li2).trans (by rw [e2])) (before (c2 - c) i2 (by omega) (by rw [spot, show c + (c2 - c) = c2 by omega]; exact l3))
      · rw [z] at l3
        have twice := slot_live R.tab.ris l3
        rw [live] at twice
        cases twice
        rw [li] at li2
        cases li2
        exact absurd e2 eq_
      · omega
    by_cases ld : t.led = true
    · apply wp_if_neg (by simp [ld])
      try apply wpAny_bind (wpAny_pure _)
      exact rest
    · apply wp_if_pos (by simp [ld])
      apply wpAny_bind
      refine tx_unseen tx (fun y hy => ?_) ?_
      · obtain ⟨e, he, rfl⟩ := List.mem_map.mp hy
        have he : e ∈ es := by simp at he; exact he.1
        have he : e ∈ es.toList := by simpa using he
        rw [R.ent] at he
        obtain ⟨p2, hp2, rfl⟩ := List.mem_map.mp he
        exact ⟨p2.2, p2.1, rfl, R.txt p2 hp2⟩
      · apply wp_if_neg (by decide)
        try apply wpAny_bind (wpAny_pure _)
        exact rest
theorem tx_find0 (R : Held P w s.heap a L es ep t) {x : Addr} {k : List Str} (tx : Tx P w s.heap k x) (hu : A.units < cLine) {Q : SetFound → Shared → Prop} (yes : k ∈ L.map (·.2) → ∀ i, Q (.there (some i)) s)
    (no : ∀ K, k ∉ L.map (·.2) → way t.mask (txHash P w k) K ∉ t.place.toList → (∀ c, c < K → way t.mask (txHash P w k) c ∈ t.place.toList) → Q (.free (way t.mask (txHash P w k) K) false) s) :
    wpAny (model P w) A (setSearch a (.ref x) (txHash P w k)) Q E s := by
  have len := R.size
  have room := R.room
  obtain ⟨K, bound, free, taken⟩ := R.tab.first (by rw [hashes_len]; omega) (txHash P w k)
  have small : K < 100000 := by
    have : 10 * SetTable.turns t.mask ≤ 1420 := by
      unfold SetTable.turns
      have := R.tab.mok
      rcases this with e | e | e <;> omega
    omega
  unfold setSearch
  refine tx_search0 R tx hu bound free taken yes (fun new => no K new free taken) 100000 0 none rfl (Nat.zero_le _) (by omega) fun i p li e => ?_
  have hi : (hashes P w L)[i]? = some (txHash P w k) := by
    unfold hashes
    rw [List.getElem?_map, li, ← e]
    rfl
  have lt : i < t.place.toList.length := by
    have := (List.getElem?_eq_some_iff.mp li).1
    rw [Array.length_toList, R.placed]
    exact this
  obtain ⟨c, l1, l2⟩ := R.tab.before free hi (List.getElem?_eq_getElem lt)
  exact ⟨c, Nat.zero_le _, l1, by rw [List.getElem?_eq_getElem lt, l2]⟩
theorem tx_look (R : Held P w s.heap a L es ep t) {x : Addr} {k : List Str} (tx : Tx P w s.heap k x) (hu : A.units < cLine) {Q : Option Nat → Shared → Prop} (yes : k ∈ L.map (·.2) → ∀ i, Q (some i) s) (no : k ∉ L.map (·.2) → Q none s) :
    wpAny (model P w) A (setFind a (.ref x) (txHash P w k)) Q E s := by
  obtain ⟨o, obj, exact_, dat⟩ := R.obj
  unfold setFind setFindIn
  apply wpAny_bind
  apply wpAny_setState_of obj dat R.fits
  dsimp only
  apply wp_if_neg (by simp [byScan, Value.scannable])
  try refine wpAny_bind (wpAny_pure ?_)
  refine wpAny_bind (tx_find0 R tx hu (fun there i => ?_) fun K new free taken => ?_)
  · exact wpAny_pure (yes there i)
  · exact wpAny_pure (no new)
theorem sub_set_sets : isSubtype (.type "set") (.type "set") = pure true := by rw [isSubtype_type]; kernel_rfl
theorem entry_set_eq_ : entryFor table "set.__eq__" = some Builtin.«frozenset.__eq__» := entryFor_alias (id' := "frozenset.__eq__") (by kernel_rfl) rfl (by decide +kernel) (by kernel_rfl)
theorem entry_set_ne_ : entryFor table "set.__ne__" = some Builtin.«frozenset.__ne__» := entryFor_alias (id' := "frozenset.__ne__") (by kernel_rfl) rfl (by decide +kernel) (by kernel_rfl)
/-- the walk: some order -/
theorem tx_walk1 (R : Held P w s.heap a L es ep t) {Q : List (Int × Value) → Shared → Prop} (q : ∀ (L1 : Keyed) d, L1.Perm L → Q (entries P w L1) { s with drawn := d }) : wpAny (model P w) A (Builtin.Frozenset.walk a) Q E s := by
  obtain ⟨o, obj, exact_, dat⟩ := R.obj
  have back : ∀ {l : List (Int × Value)}, l.Perm es.toList → ∃ L1 : Keyed, L1.Perm L ∧ l = entries P w L1 := fun h => by
    rw [R.ent] at h
    exact perm_back h rfl
  unfold Builtin.Frozenset.walk setWalk
  apply wpAny_bind
  apply wpAny_bind
  apply wpAny_setState_of obj dat R.fits
  dsimp only
  apply wpAny_bind
  apply wpAny_byText
  by_cases bt : w.params.followText "set-order" = true
  · obtain ⟨L1, perm, e⟩ := back (pick_perm (w.params.setOrder a ep) es)
    refine wp_if_pos bt (wpAny_bind (wpAny_askSetting (wpAny_pure (wpAny_pure ?_))))
    show Q (pickOrder (w.params.setOrder a ep) es).toList s
    rw [e]
    exact q L1 s.drawn perm
  · apply wp_if_neg bt
    try apply wpAny_bind (wpAny_pure _)
    by_cases dr : (!t.plain && decide (es.size > 1)) = true
    · refine wp_if_pos (by exact dr) ?_
      apply wpAny_bind
      refine drawOrder_at _ _ _ _ (by rw [Array.length_toList]; exact Nat.le_refl _) fun ys d hp => ?_
      obtain ⟨L1, perm, e⟩ := back hp
      subst e
      refine wpAny_pure (wpAny_pure ?_)
      exact q L1 d perm
    · refine wp_if_neg (by exact dr) ?_
      try apply wpAny_bind (wpAny_pure _)
      have led : t.led = true := R.led.resolve_left bt
      refine wpAny_bind (wpAny_of_eq (a := ()) ?_ ?_)
      · show (if (!t.led && decide (es.size > 1)) = true then unsupported "set:maker-not-led" else pure ()) = pure ()
        rw [led] <;> rfl
      · obtain ⟨L1, perm, e⟩ := back (List.Perm.refl _)
        refine wpAny_pure (wpAny_pure ?_)
        rw [e]
        exact q L1 s.drawn perm
theorem tx_loud {k : List Str} {b : Addr} {Q : Bool → Shared → Prop} (tx : Tx P w s.heap k b) (q : Q false s) : wpAny (model P w) A (Builtin.Frozenset.quietEq (.ref b)) Q E s := by
  obtain ⟨o, items, n, obj, cls, dat, its⟩ := tx
  have hT : s.TypeIs (.ref b) "tuple" := ⟨o, obj, cls⟩
  unfold Builtin.Frozenset.quietEq
  refine wpAny_bind (wpAny_specialOf hT F.slot_tuple_eq.lookup (wpAny_pure ?_))
  have e : ((some (Value.builtin "tuple.__eq__") : Option Value) == some (.builtin "object.__eq__")) = false := by decide +kernel
  rw [e]
  exact q
variable {b : Addr} {M : Keyed} {es2 : Array (Int × Value)} {ep2 : Nat} {t2 : SetTable}
theorem tx_walk (R : Held P w s.heap a L es ep t) (R2 : Held P w s.heap b M es2 ep2 t2) {Q : List (Int × Value) → Shared → Prop} (q : ∀ (L1 : Keyed) d, L1.Perm L → Q (entries P w L1) { s with drawn := d }) :
    wpAny (model P w) A (Builtin.Frozenset.walkUnseen a b) Q E s := by
  obtain ⟨o, obj, exact_, dat⟩ := R.obj
  obtain ⟨o2, obj2, exact2, dat2⟩ := R2.obj
  unfold Builtin.Frozenset.walkUnseen
  refine wpAny_bind (wpAny_setEntries_of obj dat R.fits ?_)
  refine wpAny_bind (wpAny_setEntries_of obj2 dat2 R2.fits ?_)
  have all : ∀ z ∈ es.toList ++ es2.toList, ∃ k c, z.2 = Value.ref c ∧ Tx P w s.heap k c := fun z hz => by
    rcases List.mem_append.mp hz with h | h
    · rw [R.ent] at h
      obtain ⟨p, hp, rfl⟩ := List.mem_map.mp h
      exact ⟨p.2, p.1, rfl, R.txt p hp⟩
    · rw [R2.ent] at h
      obtain ⟨p, hp, rfl⟩ := List.mem_map.mp h
      exact ⟨p.2, p.1, rfl, R2.txt p hp⟩
  refine wpAny_bind ?_
  generalize hl : es.toList ++ es2.toList = l at all
  cases l with
  | nil =>
    rw [List.forIn_nil]
    refine wpAny_pure ?_
    dsimp only
    refine wpAny_pure ?_
    rw [R.ent]
    exact q L s.drawn (List.Perm.refl _)
  | cons z r =>
    obtain ⟨h, x⟩ := z
    obtain ⟨k, c, e, tx⟩ := all _ (List.mem_cons_self ..)
    have e : x = Value.ref c := e
    subst e
    rw [List.forIn_cons]
    refine wpAny_bind ?_
    refine wpAny_bind (tx_loud tx ?_)
    refine wp_if_pos (by decide) ?_
    refine wpAny_bind (tx_walk1 R fun L1 d perm => ?_)
    refine wpAny_pure ?_
    dsimp only
    refine wpAny_pure ?_
    dsimp only
    refine wpAny_pure ?_
    exact q L1 d perm
theorem tx_sub (R : Held P w s.heap a L es ep t) (R2 : Held P w s.heap b M es2 ep2 t2) (hu : A.units < cLine) (le : L.length ≤ M.length) (id : String) {Q : Bool → Shared → Prop}
    (q : ∀ d r, (r = true ↔ ∀ k ∈ L.map (·.2), k ∈ M.map (·.2)) → Q r { s with drawn := d }) : wpAny (model P w) A (Builtin.Frozenset.subsetOf id a b) Q E s := by
  obtain ⟨o, obj, exact_, dat⟩ := R.obj
  obtain ⟨o2, obj2, exact2, dat2⟩ := R2.obj
  have z1 := R.size
  have z2 := R2.size
  unfold Builtin.Frozenset.subsetOf
  refine wpAny_bind (wpAny_bind (wpAny_setEntries_of obj dat R.fits (wpAny_pure ?_)))
  refine wpAny_bind (wpAny_bind (wpAny_setEntries_of obj2 dat2 R2.fits (wpAny_pure ?_)))
  refine wp_if_neg (by omega) ?_
  try refine wpAny_bind (wpAny_pure ?_)
  refine wpAny_bind (wpAny_bind (wpAny_setState_of obj dat R.fits (wpAny_pure ?_)))
  refine wpAny_bind (tx_walk R R2 fun L1 d perm => ?_)
  have R2' : Held P w ({ s with drawn := d } : Shared).heap b M es2 ep2 t2 := R2
  apply wpAny_bind
  apply wpAny_forIn_list _ (fun left r s1 => r.1 = none ∧ s1 = { s with drawn := d } ∧ ∃ L2 : Keyed, left = entries P w L2 ∧ (∀ p ∈ L2, p ∈ L) ∧ ((∀ k ∈ L.map (·.2), k ∈ M.map (·.2)) ↔ ∀ k ∈ L2.map (·.2), k ∈ M.map (·.2)))
    (fun r s1 => wpAny (model P w) A _ Q E s1) _ _ _ _ ⟨rfl, rfl, L1, rfl, fun p hp => perm.mem_iff.mp hp, by
      constructor <;> intro h k hk
      · exact h k ((perm.map (·.2)).mem_iff.mp hk)
      · exact h k ((perm.map (·.2)).mem_iff.mpr hk)⟩
  · rintro ⟨h, x⟩ left r s1 ⟨r0, rfl, L2, e, sub, same⟩
    cases L2 with
    | nil => cases e
    | cons p L3 =>
      have e1 : (h, x) = (txHash P w p.2, Value.ref p.1) := (List.cons.inj e).1
      have e2 : left = entries P w L3 := (List.cons.inj e).2
      cases e1
      have tx : Tx P w s.heap p.2 p.1 := R.txt p (sub p (List.mem_cons_self ..))
      apply wpAny_bind
      apply wpAny_holding
      refine tx_look (s := { s with drawn := d }) R2 tx hu (fun there i => ?_) fun gone => ?_
      · refine wp_if_neg (by simp) ?_
        unfold Builtin.Frozenset.unchanged setEpoch
        refine wpAny_bind (wpAny_bind (wpAny_bind (wpAny_setState_of obj dat R.fits (wpAny_pure ?_))))
        refine wp_if_neg (by simp) ?_
        refine wpAny_pure (wpAny_pure ⟨rfl, rfl, L3, e2, fun z hz => sub z (List.mem_cons_of_mem _ hz), same.trans ?_⟩)
        constructor
        · exact fun h k hk => h k (by rw [List.map_cons]; exact List.mem_cons_of_mem _ hk)
        · intro h k hk
          rw [List.map_cons] at hk
          rcases List.mem_cons.mp hk with rfl | hk
          · exact there
          · exact h k hk
      · refine wp_if_pos (by decide) ?_
        refine wpAny_pure ?_
        refine wpAny_pure (q d false ⟨fun z => absurd z (by decide), fun z => absurd (same.mp z p.2 (by rw [List.map_cons]; exact List.mem_cons_self ..)) gone⟩)
  · rintro r s1 ⟨r0, rfl, L2, e, sub, same⟩
    cases L2 with
    | nil =>
      obtain ⟨r1, r2⟩ := r
      cases r0
      exact wpAny_pure (q d true ⟨fun _ => same.mpr (fun k hk => absurd hk (by simp)), fun _ => rfl⟩)
    | cons p L3 => cases e
theorem back_in {α : Type} [DecidableEq α] : ∀ (xs ys : List α), xs.Nodup → (∀ x ∈ xs, x ∈ ys) → ys.length ≤ xs.length → ∀ y ∈ ys, y ∈ xs
  | [], ys, _, _, le, y, hy => absurd (List.length_pos_of_mem hy) (by simp at le; simp [le])
  | x :: xs, ys, nd, sub, le, y, hy => by
    have nd := List.nodup_cons.mp nd
    have hx := sub x (List.mem_cons_self ..)
    by_cases e : y = x
    · rw [e]; exact List.mem_cons_self ..
    · refine List.mem_cons_of_mem _ (back_in xs (ys.erase x) nd.2 (fun z hz => (List.mem_erase_of_ne (fun q : z = x => nd.1 (by rw [← q]; exact hz))).mpr (sub z (List.mem_cons_of_mem _ hz))) ?_ y ((List.mem_erase_of_ne e).mpr hy))
      rw [List.length_erase_of_mem hx]
      rw [List.length_cons] at le
      omega
theorem same_keys (n1 : (L.map (·.2)).Nodup) (len : L.length = M.length) : (∀ k ∈ L.map (·.2), k ∈ M.map (·.2)) ↔ ∀ k, k ∈ L.map (·.2) ↔ k ∈ M.map (·.2) :=
  ⟨fun sub k => ⟨sub k, back_in _ _ n1 sub (by rw [List.length_map, List.length_map, len]; exact Nat.le_refl _) k⟩, fun h k hk => (h k).mp hk⟩
theorem len_keys (n1 : (L.map (·.2)).Nodup) (n2 : (M.map (·.2)).Nodup) (h : ∀ k, k ∈ L.map (·.2) ↔ k ∈ M.map (·.2)) : L.length = M.length := by
  have p : (L.map (·.2)).Perm (M.map (·.2)) := (List.perm_ext_iff_of_nodup n1 n2).mpr h
  have := p.length_eq
  rwa [List.length_map, List.length_map] at this
theorem tx_equal (R : Held P w s.heap a L es ep t) (R2 : Held P w s.heap b M es2 ep2 t2) (hu : A.units < cLine) {Q : Value → Shared → Prop} (q : ∀ d r, (r = true ↔ ∀ k, k ∈ L.map (·.2) ↔ k ∈ M.map (·.2)) → Q (.bool r) { s with drawn := d }) :
    wpAny (model P w) A (Builtin.«frozenset.__eq__» ⟨[.ref a, .ref b], []⟩) (fun fin s' => ∃ r, fin = .done (.ret r) ∧ Q r s') E s := by
  obtain ⟨o, obj, exact_, dat⟩ := R.obj
  obtain ⟨o2, obj2, exact2, dat2⟩ := R2.obj
  have T2 : s.TypeIs (.ref b) "set" := ⟨o2, obj2, exact2.1⟩
  have T1 : s.TypeIs (.ref a) "set" := ⟨o, obj, exact_.1⟩
  have z1 := R.size
  have z2 := R2.size
  unfold Builtin.«frozenset.__eq__»
  refine wpAny_bind (m := Builtin.Frozenset.slot1 "__eq__" _) ?_
  unfold Builtin.Frozenset.slot1
  refine wpAny_bind (m := slotArgs "__eq__" 1 _) (wpAny_pure ?_)
  dsimp only
  refine wpAny_pure ?_
  dsimp only
  refine wpAny_bind (m := Builtin.Frozenset.isAnySet (.ref b)) ?_
  unfold Builtin.Frozenset.isAnySet
  refine wpAny_bind (wpAny_isInstance T2 sub_set_sets ?_)
  refine wpAny_pure ?_
  refine wp_if_neg (by decide) ?_
  refine wpAny_bind (wpAny_pure ?_)
  refine wpAny_bind (wpAny_pure ?_)
  refine wpAny_bind (wpAny_bind (wpAny_setEntries_of obj dat R.fits (wpAny_pure ?_)))
  refine wpAny_bind (wpAny_bind (wpAny_setEntries_of obj2 dat2 R2.fits (wpAny_pure ?_)))
  refine wpAny_bind ?_
  by_cases len : L.length = M.length
  · refine wp_if_neg (by rw [z1, z2, len]; simp) ?_
    try refine wpAny_bind (wpAny_pure ?_)
    refine wpAny_bind (wpAny_bind (wpAny_isInstance T1 F.sub_set_frozenset ?_))
    refine wpAny_pure ?_
    refine wp_if_neg (by decide) ?_
    try refine wpAny_bind (wpAny_pure ?_)
    refine tx_sub R R2 hu (by omega) _ fun d r hr => ?_
    exact wpAny_pure ⟨_, rfl, q d r (hr.trans (same_keys R.once len))⟩
  · refine wp_if_pos (by rw [z1, z2]; simpa using len) ?_
    refine wpAny_pure ?_
    exact wpAny_pure ⟨_, rfl, q s.drawn false ⟨fun z => absurd z (by decide), fun z => absurd (len_keys R.once R2.once z) len⟩⟩
theorem tx_differ (R : Held P w s.heap a L es ep t) (R2 : Held P w s.heap b M es2 ep2 t2) (hu : A.units < cLine) {Q : Value → Shared → Prop} (q : ∀ d r, (r = true ↔ ∀ k, k ∈ L.map (·.2) ↔ k ∈ M.map (·.2)) → Q (.bool (!r)) { s with drawn := d }) :
    wpAny (model P w) A (Builtin.«frozenset.__ne__» ⟨[.ref a, .ref b], []⟩) (fun fin s' => ∃ r, fin = .done (.ret r) ∧ Q r s') E s := by
  obtain ⟨o, obj, exact_, dat⟩ := R.obj
  obtain ⟨o2, obj2, exact2, dat2⟩ := R2.obj
  have T2 : s.TypeIs (.ref b) "set" := ⟨o2, obj2, exact2.1⟩
  have T1 : s.TypeIs (.ref a) "set" := ⟨o, obj, exact_.1⟩
  have z1 := R.size
  have z2 := R2.size
  unfold Builtin.«frozenset.__ne__»
  refine wpAny_bind (m := Builtin.Frozenset.slot1 "__ne__" _) ?_
  unfold Builtin.Frozenset.slot1
  refine wpAny_bind (m := slotArgs "__ne__" 1 _) (wpAny_pure ?_)
  dsimp only
  refine wpAny_pure ?_
  dsimp only
  refine wpAny_bind (m := Builtin.Frozenset.isAnySet (.ref b)) ?_
  unfold Builtin.Frozenset.isAnySet
  refine wpAny_bind (wpAny_isInstance T2 sub_set_sets ?_)
  refine wpAny_pure ?_
  refine wp_if_neg (by decide) ?_
  refine wpAny_bind (wpAny_pure ?_)
  refine wpAny_bind (wpAny_pure ?_)
  refine wpAny_bind (wpAny_bind (wpAny_setEntries_of obj dat R.fits (wpAny_pure ?_)))
  refine wpAny_bind (wpAny_bind (wpAny_setEntries_of obj2 dat2 R2.fits (wpAny_pure ?_)))
  refine wpAny_bind ?_
  by_cases len : L.length = M.length
  · refine wp_if_neg (by rw [z1, z2, len]; simp) ?_
    try refine wpAny_bind (wpAny_pure ?_)
    refine wpAny_bind (wpAny_bind (wpAny_isInstance T1 F.sub_set_frozenset ?_))
    refine wpAny_pure ?_
    refine wp_if_neg (by decide) ?_
    try refine wpAny_bind (wpAny_pure ?_)
    refine tx_sub R R2 hu (by omega) _ fun d r hr => ?_
    exact wpAny_pure ⟨_, rfl, q d r (hr.trans (same_keys R.once len))⟩
  · refine wp_if_pos (by rw [z1, z2]; simpa using len) ?_
    refine wpAny_pure ?_
    exact wpAny_pure ⟨_, rfl, q s.drawn false ⟨fun z => absurd z (by decide), fun z => absurd (len_keys R.once R2.once z) len⟩⟩
theorem cmp_txsets (R : Held P w s.heap a L es ep t) (R2 : Held P w s.heap b M es2 ep2 t2) (hu : A.units + 2 < cLine) {Q : Value → Shared → Prop} :
    ((∀ d r, (r = true ↔ ∀ k, k ∈ L.map (·.2) ↔ k ∈ M.map (·.2)) → Q (.bool r) { s with drawn := d }) → wpAny (model P w) A (richCompare .Eq (.ref a) (.ref b)) Q E s) ∧
    ((∀ d r, (r = true ↔ ∀ k, k ∈ L.map (·.2) ↔ k ∈ M.map (·.2)) → Q (.bool (!r)) { s with drawn := d }) → wpAny (model P w) A (richCompare .NotEq (.ref a) (.ref b)) Q E s) := by
  obtain ⟨o, obj, exact_, dat⟩ := R.obj
  obtain ⟨o2, obj2, exact2, dat2⟩ := R2.obj
  have T2 : s.TypeIs (.ref b) "set" := ⟨o2, obj2, exact2.1⟩
  have T1 : s.TypeIs (.ref a) "set" := ⟨o, obj, exact_.1⟩
  constructor
  · intro q
    refine wpAny_richCompare_same_room T1 T2 F.slot_set_eq (wpAny_call_entry F.slot_set_eq T1 entry_set_eq_ ?_ (F.args_set_eq_2 _ _)) (by omega)
    exact tx_equal R R2 (by simp; omega) fun d r h => ⟨(fun z => nomatch z), q d r h⟩
  · intro q
    refine wpAny_richCompare_same_room T1 T2 F.slot_set_ne (wpAny_call_entry F.slot_set_ne T1 entry_set_ne_ ?_ (F.args_set_ne_2 _ _)) (by omega)
    exact tx_differ R R2 (by simp; omega) fun d r h => ⟨(fun z => nomatch z), q d r h⟩
end
section
variable {X : Cx}
theorem Inv.drew {pins : List (Addr × Obj)} {σ : L2.St} {H : Hp} {s : Shared} (I : Inv X pins σ H s) (d) : Inv X pins σ H { s with drawn := d } := ⟨I.ok, I.os, I.bare, I.base, I.loc, I.cell, I.free, I.freeC, I.pin, I.hok, I.len⟩
def rEqTx (K : PySem.W.Frag) (P : Program) (w : World) (neg : Bool) : R2 := fun x y H Q => ∃ (a b : Addr) (L M : Keyed), x = .ref a ∧ y = .ref b ∧ H a = some (SetTx P w a L) ∧ H b = some (SetTx P w b M) ∧ (∀ p ∈ L, SqT K H p.1 (p.2.map V.str)) ∧ (∀ p ∈ M, SqT K H p.1 (p.2.map V.str)) ∧
  ∀ r : Bool, (r = true ↔ ∀ k, k ∈ L.map (·.2) ↔ k ∈ M.map (·.2)) → Q (.bl (if neg = true then !r else r)) H
theorem held_of {pins : List (Addr × Obj)} {σ : L2.St} {H : Hp} {s : Shared} {a : Addr} {L : Keyed} (I : Inv X pins σ H s) (here : H a = some (SetTx X.prog X.w a L)) (txt : ∀ p ∈ L, SqT X.K H p.1 (p.2.map V.str)) : ∃ es ep t, Held X.prog X.w s.heap a L es ep t := by
  obtain ⟨es, ep, t, h1, h2, h3, h4, h5, h6, h7⟩ := ((I.hok a _ here).1 : Held0 X.prog X.w s.heap a L)
  exact ⟨es, ep, t, h1, h2, h3, h4, fun p hp => tx_of I (txt p hp), h5, h6, h7⟩
theorem op_eqTx (hu : X.A.units + 64 < cLine) : OpR X (compareOp .Eq) (rEqTx X.K X.prog X.w false) := by
  intro pins s σ H x y v u Q I rx ry h
  obtain ⟨a, b, L, M, rfl, rfl, h1, h2, t1, t2, q⟩ := h
  cases rx
  cases ry
  obtain ⟨_, _, _, R⟩ := held_of I h1 t1
  obtain ⟨_, _, _, R2⟩ := held_of I h2 t2
  exact (cmp_txsets R R2 (by omega)).1 fun d r hr => ⟨.bl r, H, Inv.drew I d, rfl, q r hr⟩
theorem op_neTx (hu : X.A.units + 64 < cLine) : OpR X (compareOp .NotEq) (rEqTx X.K X.prog X.w true) := by
  intro pins s σ H x y v u Q I rx ry h
  obtain ⟨a, b, L, M, rfl, rfl, h1, h2, t1, t2, q⟩ := h
  cases rx
  cases ry
  obtain ⟨_, _, _, R⟩ := held_of I h1 t1
  obtain ⟨_, _, _, R2⟩ := held_of I h2 t2
  exact (cmp_txsets R R2 (by omega)).2 fun d r hr => ⟨.bl (!r), H, Inv.drew I d, rfl, q r hr⟩
end
end Dl

/-! The bag of draws: _law_bag, _law_take. -/
namespace Dl
open PySem L2

/-! ### the mathematics of the bag -/
structure BagOk (L : List Int) : Prop where
  ex : ∃ (s d : Int) (r : List Int), L = s :: d :: r ∧ 0 ≤ s ∧ s < 2147483647 ∧ 0 ≤ d ∧ ∀ x ∈ r, 0 ≤ x
theorem BagOk.put0 {d : Int} {r : List Int} (x : Int) (hd : 0 ≤ d) (hr : ∀ x ∈ r, 0 ≤ x) : BagOk (x % 2147483647 :: d :: r) :=
  ⟨_, _, _, rfl, Int.emod_nonneg _ (by decide), Int.emod_lt_of_pos _ (by decide), hd, hr⟩

/-- the names that the two defs read -/
structure TxtB (mg : Str → Option Value) : Prop where
  len : mg "len" = none
  int : mg "int" = none
  abs : mg "abs" = none

def spTake : Sp := fun vs H Q _ => ∃ (b : Addr) (L : List Int) (n : Int), vs = [.ref b, .int n] ∧ H b = some (.lst (L.map V.int)) ∧ BagOk L ∧ 1 ≤ n ∧ n < 1000000 ∧
  ∀ (L' : List Int) (r : Int), BagOk L' → 0 ≤ r → r < n → Q (.int r) (upd H b (.lst (L'.map V.int)))
section
variable {P : Program} {w : World} {K : PySem.W.Frag} {mg : Str → Option Value} {base : Heap}
theorem scTake : FnScope ["_law_bag_here", "_law_size", "_law_cell", "_law_digit"] ["_law_bag_here", "_law_size"] (defScope sTake) := ⟨rfl, rfl, rfl, by decide +kernel, rfl, by decide +kernel, by decide +kernel⟩
theorem upd_upd {H : Hp} {a : Addr} {o u : HO} : upd (upd H a o) a u = upd H a u := by
  funext b
  by_cases h : b = a
  · subst h; rw [upd_same, upd_same]
  · rw [upd_ne h, upd_ne h, upd_ne h]
theorem upd_id {H : Hp} {a : Addr} {o : HO} (h : H a = some o) : upd H a o = H := by
  funext b
  by_cases e : b = a
  · subst e; rw [upd_same, h]
  · rw [upd_ne e]
theorem ix_at {n j : Nat} (h : j < n) : ixN n (j : Int) = some j := by
  unfold ixN
  rw [if_pos (by omega), if_pos (by omega)]; simp
theorem ok_take {f : Addr} {fd : FuncData} (F : Fun K "_law_take" "_law_take" sTake f fd) (T : TxtB mg) : FnOk P w K mg base CX0 1 f fd ["_law_bag_here", "_law_size"] spTake := by
  refine F.ok scTake (fun vs H Q E h => ?_) (fun cdv A outer s H vs Q E hr h => ?_)
  · obtain ⟨b, L, n, rfl, _⟩ := h
    rfl
  · obtain ⟨b, L, n, rfl, hb, ⟨z, d, r, rfl, hz0, hz1, hd0, hr0⟩, hn1, hn2, k⟩ := h
    refine ⟨_, pss_cons (ps_if (PW.pt (pw_and (pt_cmpR op_eq (pe_ix ix_list (pv 0) pe_int (fun _ _ => rfl)) pe_int (nomark _)) (pw_and1 (pt_cmpR op_gt (pe_callB call_len_seq (by rfl) T.len PySem.boot_len (pa_cons (pv 0) pa_nil)) pe_int (nomark _)))))
        (pss_cons (ps_set (i := 2) scTake.nd rfl (Or.inl rfl) (pe_bm PySem.F.plainAttrs_list PySem.F.slot_list_pop PySem.F.type_list_pop mt_popAt (pv 0) (pa_cons pe_int pa_nil)))
        (pss_one (ps_if (pt_cmpR op_ge (pv 2) (pe_op op_pow pe_int pe_int) (nomark _))
          (pss_one (ps_asg (pv 2) (pg_sub (pv 0) pe_int set_list)))
          (pss_cons (ps_asg (pe_op op_mod (pe_callTy call_int1 (by rfl) T.int (by decide +kernel) (pa_cons (pe_op op_add (pe_op op_add (pe_op op_mul (pe_ix ix_list (pv 0) pe_int (fun _ _ => rfl)) pe_int) (pe_op op_mul (pv 2) pe_int)) pe_int) pa_nil)) pe_int) (pg_sub (pv 0) pe_int set_list))
          (pss_one (ps_ret (pe_op op_mod (pe_callTy call_int1 (by rfl) T.int (by decide +kernel) (pa_cons (pe_op op_fdiv (pe_op op_add (pe_op op_mul (pe_ix ix_list (pv 0) pe_int (fun _ _ => rfl)) pe_int) pe_int) pe_int) pa_nil)) (pv 1))))))))
        pss_nil)
      (pss_cons (ps_if (pt_cmpR op_gt (pe_ix ix_list (pv 0) pe_int (fun _ _ => rfl)) pe_int (nomark _))
        (pss_cons (ps_set (i := 3) scTake.nd rfl (Or.inl rfl) (pe_op op_mod (pe_callTy call_int1 (by rfl) T.int (by decide +kernel) (pa_cons (pe_ix ix_list (pv 0) pe_int (fun _ _ => rfl)) pa_nil)) (pv 1)))
        (pss_cons (ps_asg (pe_op op_fdivW (pe_ix ix_list (pv 0) pe_int (fun _ _ => rfl)) (pv 1)) (pg_sub (pv 0) pe_int set_list))
        (pss_one (ps_ret (pv 3)))))
        pss_nil)
      (pss_cons (ps_asg (pe_op op_mod (pe_callTy call_int1 (by rfl) T.int (by decide +kernel) (pa_cons (pe_op op_mul (pe_ix ix_list (pv 0) pe_int (fun _ _ => rfl)) pe_int) pa_nil)) pe_int) (pg_sub (pv 0) pe_int set_list))
      (pss_one (ps_ret (pe_op op_mod (pe_callTy call_int1 (by rfl) T.int (by decide +kernel) (pa_cons (pe_op op_fdiv (pe_ix ix_list (pv 0) pe_int (fun _ _ => rfl)) pe_int) pa_nil)) (pv 1)))))), ?_⟩
    -- bag[1] == 0 and len(bag) > 2
    refine ⟨_, rfl, b, _, _, _, rfl, rfl, SqL.of hb, (atI_nat (j := 1) rfl), rfl, _, rfl, ?_⟩
    refine ite2 (fun e => ?_) (fun e => ?_)
    · refine ⟨_, rfl, b, _, rfl, .inl (SqL.of hb), _, _, rfl, rfl, _, rfl, ?_⟩
      refine ite2 (fun e2 => ?_) (fun e2 => ?_)
      · -- cell = bag.pop(2)
        have hl : 2 < (z :: d :: r).length := by
          have q := of_decide_eq_true e2
          have q2 : ((2 : Int) < (((z :: d :: r).map V.int).length : Nat)) := q
          rw [List.length_map] at q2
          omega
        match r, hr0, hb, k, hl with
        | [], _, _, _, hl => exact absurd hl (by simp)
        | c :: r, hr0, hb, k, _ =>
        have hc0 : 0 ≤ c := hr0 c (List.mem_cons_self ..)
        have hr1 : ∀ x ∈ r, 0 ≤ x := fun x hx => hr0 x (List.mem_cons_of_mem _ hx)
        have hsq : seqIndex? (2 : Int) ((z :: d :: c :: r).map V.int).length = some 2 := by
          have q : ((z :: d :: c :: r).map V.int).length = r.length + 3 := by simp
          rw [q]
          unfold seqIndex?
          simp
          omega
        refine ⟨_, rfl, .inl ⟨rfl, _, SqL.of hb⟩, b, _, 2, 2, _, rfl, rfl, hb, by decide, by decide, hsq, rfl, ?_⟩
        refine ⟨_, rfl, _, _, rfl, rfl, ⟨by decide, by decide, by decide⟩, _, _, rfl, rfl, _, rfl, ?_⟩
        refine ite2 (fun e4 => ?_) (fun e4 => ?_)
        · refine ⟨_, rfl, _, rfl, b, _, _, 1, rfl, rfl, upd_same, ix_at (j := 1) (by simp), ?_⟩
          have hd1 : 0 ≤ c := hc0
          have hz1' := hz0
          have hz1'' := hz1
          have k1 : ∀ (L' : List Int) (x : Int), BagOk L' → 0 ≤ x → x < n → Q (.int x) (upd (upd (upd H b (HO.lst ((z :: d :: r).map V.int))) b (HO.lst ((z :: c :: r).map V.int))) b (.lst (L'.map V.int))) := fun L' x h1 h2 h3 => by
            rw [upd_upd, upd_upd]
            exact k L' x h1 h2 h3
          have hb1 : (upd (upd H b (HO.lst ((z :: d :: r).map V.int))) b (HO.lst ((z :: c :: r).map V.int))) b = some (.lst ((z :: c :: r).map V.int)) := upd_same
          refine ⟨_, rfl, b, _, _, _, rfl, rfl, SqL.of hb1, (atI_nat (j := 1) rfl), _, _, rfl, rfl, _, rfl, ?_⟩
          refine ite2 (fun e3 => ?_) (fun e3 => ?_)
          · refine ⟨_, rfl, b, _, _, _, rfl, rfl, SqL.of hb1, (atI_nat (j := 1) rfl), .inl ⟨_, rfl, ?_⟩⟩
            refine ⟨_, rfl, _, _, rfl, rfl, (by show (0 : Int) < n; omega), ?_⟩
            refine ⟨_, rfl, b, _, _, _, rfl, rfl, SqL.of hb1, (atI_nat (j := 1) rfl), _, rfl, _, _, rfl, rfl, wide_div (b := 20) (by show (0 : Int) < n; omega) (by show n.natAbs < 2 ^ 20; omega) (by decide) (by decide), ?_⟩
            refine ⟨_, rfl, b, _, _, 1, rfl, rfl, hb1, ix_at (j := 1) (by simp), ?_⟩
            refine ⟨_, rfl, ?_⟩
            exact k1 (z :: (c / n) :: r) _ ⟨_, _, _, rfl, hz1', hz1'', Int.ediv_nonneg hd1 (by omega), hr1⟩ (Int.emod_nonneg _ (by omega)) (Int.emod_lt_of_pos _ (by omega))
          · refine ⟨_, rfl, b, _, _, _, rfl, rfl, SqL.of hb1, (atI_nat (j := 0) rfl), _, _, rfl, rfl, .inl ⟨by show -(2 ^ 64) < z; omega, by show z < 2 ^ 64; omega⟩, .inl ⟨_, rfl, ?_⟩⟩
            refine ⟨_, _, rfl, rfl, (by show (0 : Int) < 2147483647; decide), ?_⟩
            refine ⟨_, rfl, b, _, _, 0, rfl, rfl, hb1, ix_at (j := 0) (by simp), ?_⟩
            refine ⟨_, rfl, b, _, _, _, rfl, rfl, SqL.of upd_same, (atI_nat (j := 0) rfl), _, _, rfl, rfl, ⟨by decide, by decide⟩, .inl ⟨_, rfl, ?_⟩⟩
            refine ⟨_, rfl, _, _, rfl, rfl, (by show (0 : Int) < n; omega), ?_⟩
            exact k1 (z * 48271 % 2147483647 :: c :: r) _ (BagOk.put0 _ hd1 hr1) (Int.emod_nonneg _ (by omega)) (Int.emod_lt_of_pos _ (by omega))
        · have hc1 : c < 10 ^ 18 := by
            have q := of_decide_eq_false (p := ((10 : Int) ^ (18 : Int).toNat ≤ c)) (by simpa using e4)
            have q2 : (10 : Int) ^ (18 : Int).toNat = 1000000000000000000 := by decide
            omega
          refine ⟨_, rfl, b, _, _, _, rfl, rfl, SqL.of upd_same, (atI_nat (j := 0) rfl), _, _, rfl, rfl, .inl ⟨by show -(2 ^ 64) < z; omega, by show z < 2 ^ 64; omega⟩, ?_⟩
          refine ⟨_, rfl, _, _, rfl, rfl, .inl ⟨by show -(2 ^ 64) < c; omega, by show c < 2 ^ 64; omega⟩, _, _, rfl, rfl, _, _, rfl, rfl, .inl ⟨_, rfl, ?_⟩⟩
          refine ⟨_, _, rfl, rfl, (by show (0 : Int) < 2147483647; decide), ?_⟩
          refine ⟨_, rfl, b, _, _, 0, rfl, rfl, upd_same, ix_at (j := 0) (by simp), ?_⟩
          refine ⟨_, rfl, b, _, _, _, rfl, rfl, SqL.of upd_same, (atI_nat (j := 0) rfl), _, _, rfl, rfl, .inl ⟨?_, ?_⟩, _, _, rfl, rfl, _, _, rfl, rfl, ⟨by decide, by decide⟩, .inl ⟨_, rfl, ?_⟩⟩
          · have q := Int.emod_nonneg (z * 48271 + c * 69621 + 11) (show (2147483647 : Int) ≠ 0 by decide)
            show -(2 ^ 64) < (z * 48271 + c * 69621 + 11) % 2147483647
            omega
          · have q := Int.emod_lt_of_pos (z * 48271 + c * 69621 + 11) (show (0 : Int) < 2147483647 by decide)
            show (z * 48271 + c * 69621 + 11) % 2147483647 < 2 ^ 64
            omega
          refine ⟨_, rfl, _, _, rfl, rfl, (by show (0 : Int) < n; omega), ?_⟩
          have q := k ((z * 48271 + c * 69621 + 11) % 2147483647 :: d :: r) _ (BagOk.put0 _ hd0 hr1) (Int.emod_nonneg (((z * 48271 + c * 69621 + 11) % 2147483647 * 16807 + 7919) / 16) (show n ≠ 0 by omega)) (Int.emod_lt_of_pos _ (by omega))
          rw [← upd_upd] at q
          exact q
      · have hb1 := hb
        have k1 := k
        have hz1' := hz0
        have hz1'' := hz1
        have hd1 := hd0
        have hr1 := hr0
        refine ⟨_, rfl, b, _, _, _, rfl, rfl, SqL.of hb1, (atI_nat (j := 1) rfl), _, _, rfl, rfl, _, rfl, ?_⟩
        refine ite2 (fun e3 => ?_) (fun e3 => ?_)
        · refine ⟨_, rfl, b, _, _, _, rfl, rfl, SqL.of hb1, (atI_nat (j := 1) rfl), .inl ⟨_, rfl, ?_⟩⟩
          refine ⟨_, rfl, _, _, rfl, rfl, (by show (0 : Int) < n; omega), ?_⟩
          refine ⟨_, rfl, b, _, _, _, rfl, rfl, SqL.of hb1, (atI_nat (j := 1) rfl), _, rfl, _, _, rfl, rfl, wide_div (b := 20) (by show (0 : Int) < n; omega) (by show n.natAbs < 2 ^ 20; omega) (by decide) (by decide), ?_⟩
          refine ⟨_, rfl, b, _, _, 1, rfl, rfl, hb1, ix_at (j := 1) (by simp), ?_⟩
          refine ⟨_, rfl, ?_⟩
          exact k1 (z :: (d / n) :: r) _ ⟨_, _, _, rfl, hz1', hz1'', Int.ediv_nonneg hd1 (by omega), hr1⟩ (Int.emod_nonneg _ (by omega)) (Int.emod_lt_of_pos _ (by omega))
        · refine ⟨_, rfl, b, _, _, _, rfl, rfl, SqL.of hb1, (atI_nat (j := 0) rfl), _, _, rfl, rfl, .inl ⟨by show -(2 ^ 64) < z; omega, by show z < 2 ^ 64; omega⟩, .inl ⟨_, rfl, ?_⟩⟩
          refine ⟨_, _, rfl, rfl, (by show (0 : Int) < 2147483647; decide), ?_⟩
          refine ⟨_, rfl, b, _, _, 0, rfl, rfl, hb1, ix_at (j := 0) (by simp), ?_⟩
          refine ⟨_, rfl, b, _, _, _, rfl, rfl, SqL.of upd_same, (atI_nat (j := 0) rfl), _, _, rfl, rfl, ⟨by decide, by decide⟩, .inl ⟨_, rfl, ?_⟩⟩
          refine ⟨_, rfl, _, _, rfl, rfl, (by show (0 : Int) < n; omega), ?_⟩
          exact k1 (z * 48271 % 2147483647 :: d :: r) _ (BagOk.put0 _ hd1 hr1) (Int.emod_nonneg _ (by omega)) (Int.emod_lt_of_pos _ (by omega))
    · have hb1 := hb
      have k1 := k
      have hz1' := hz0
      have hz1'' := hz1
      have hd1 := hd0
      have hr1 := hr0
      refine ⟨_, rfl, b, _, _, _, rfl, rfl, SqL.of hb1, (atI_nat (j := 1) rfl), _, _, rfl, rfl, _, rfl, ?_⟩
      refine ite2 (fun e3 => ?_) (fun e3 => ?_)
      · refine ⟨_, rfl, b, _, _, _, rfl, rfl, SqL.of hb1, (atI_nat (j := 1) rfl), .inl ⟨_, rfl, ?_⟩⟩
        refine ⟨_, rfl, _, _, rfl, rfl, (by show (0 : Int) < n; omega), ?_⟩
        refine ⟨_, rfl, b, _, _, _, rfl, rfl, SqL.of hb1, (atI_nat (j := 1) rfl), _, rfl, _, _, rfl, rfl, wide_div (b := 20) (by show (0 : Int) < n; omega) (by show n.natAbs < 2 ^ 20; omega) (by decide) (by decide), ?_⟩
        refine ⟨_, rfl, b, _, _, 1, rfl, rfl, hb1, ix_at (j := 1) (by simp), ?_⟩
        refine ⟨_, rfl, ?_⟩
        exact k1 (z :: (d / n) :: r) _ ⟨_, _, _, rfl, hz1', hz1'', Int.ediv_nonneg hd1 (by omega), hr1⟩ (Int.emod_nonneg _ (by omega)) (Int.emod_lt_of_pos _ (by omega))
      · refine ⟨_, rfl, b, _, _, _, rfl, rfl, SqL.of hb1, (atI_nat (j := 0) rfl), _, _, rfl, rfl, .inl ⟨by show -(2 ^ 64) < z; omega, by show z < 2 ^ 64; omega⟩, .inl ⟨_, rfl, ?_⟩⟩
        refine ⟨_, _, rfl, rfl, (by show (0 : Int) < 2147483647; decide), ?_⟩
        refine ⟨_, rfl, b, _, _, 0, rfl, rfl, hb1, ix_at (j := 0) (by simp), ?_⟩
        refine ⟨_, rfl, b, _, _, _, rfl, rfl, SqL.of upd_same, (atI_nat (j := 0) rfl), _, _, rfl, rfl, ⟨by decide, by decide⟩, .inl ⟨_, rfl, ?_⟩⟩
        refine ⟨_, rfl, _, _, rfl, rfl, (by show (0 : Int) < n; omega), ?_⟩
        exact k1 (z * 48271 % 2147483647 :: d :: r) _ (BagOk.put0 _ hd1 hr1) (Int.emod_nonneg _ (by omega)) (Int.emod_lt_of_pos _ (by omega))
end
end Dl

namespace Dl
open PySem L2
theorem Same.upd_new {H : Hp} {a : Addr} {o : HO} (h : H a = none) : Same H (upd H a o) := fun b u e => by
  rw [upd_ne (ne_of_none e h)]; exact e
def spBag (K : PySem.W.Frag) : Sp := fun vs H Q _ => ∃ (a : Addr) (ns : List Int), vs = [.ref a] ∧ SqL K H a (ns.map V.int) ∧ ns.length ≤ 63 ∧
  ∀ (H' : Hp) (p : Addr) (L : List Int), Same H H' → H p = none → H' p = some (.lst (L.map V.int)) → BagOk L → Q (.ref p) H'
section
variable {P : Program} {w : World} {K : PySem.W.Frag} {mg : Str → Option Value} {base : Heap}
theorem scBag : FnScope ["_law_script", "_law_cell"] ["_law_script"] (defScope sBag) := ⟨rfl, rfl, rfl, by decide +kernel, rfl, by decide +kernel, by decide +kernel⟩
theorem ok_bag {f : Addr} {fd : FuncData} (F : Fun K "_law_bag" "_law_bag" sBag f fd) (T : TxtB mg) : FnOk P w K mg base CX0 1 f fd ["_law_script"] (spBag K) := by
  refine F.ok scBag (fun vs H Q E h => ?_) (fun cdv A outer s H vs Q E hr h => ?_)
  · obtain ⟨b, L, rfl, _⟩ := h
    rfl
  · obtain ⟨a, ns, rfl, hS, hlen, k⟩ := h
    refine ⟨_, pss_one (ps_ret (pe_op op_cat (pe_lst (pa_cons pe_int (pa_cons pe_int pa_nil)))
      (pe_lc (own := [("_law_cell", 1)]) (g := gName 1) (tt := tYes) rfl scBag.nd (pi_list (pe_slice sl_list (pv 0) po_none (po_some pe_int))) (blkOk_by (N := ["_law_script", "_law_cell"]) (sc := defScope sBag) (by decide +kernel))
        (fun _ _ _ _ _ => pg_name (i := 1) scBag.nd rfl (Or.inl rfl)) (fun _ _ _ _ _ => pts_nil) (fun _ _ _ _ _ => pe_callB call_abs (by rfl) T.abs (by decide +kernel) (pa_cons (pv 1) pa_nil))))), ?_⟩
    refine ⟨by show 2 ≤ sizeLine; decide, fun l hl => ?_⟩
    refine ⟨_, rfl, 63, rfl, a, _, rfl, Same.seq (Same.upd_new hl) hS, fun q hq => ?_⟩
    have hcut : ∃ ms : List Int, cutV (ns.map V.int) none (some 63) = ms.map V.int ∧ ms.length ≤ 63 := by
      refine ⟨(ns.drop (HT.sIx (ns.map V.int).length 0 none)).take (HT.sIx (ns.map V.int).length (ns.map V.int).length (some 63) - HT.sIx (ns.map V.int).length 0 none), ?_, ?_⟩
      · unfold cutV
        rw [← List.map_drop, ← List.map_take]
      · rw [List.length_take, List.length_drop]
        omega
    obtain ⟨ms, em, hm⟩ := hcut
    rw [em]
    refine ⟨q, rfl, ⟨_, SqL.of upd_same⟩, fun D hD => lc_list (xs := ms.map V.int) (fun i H' => ∃ M : List Int, H' = upd (upd (upd H l (.lst [.int 0, .int 0])) q (.lst (ms.map V.int))) D (.lst (M.map V.int)) ∧ M.length = i ∧ ∀ x ∈ M, 0 ≤ x)
      ⟨[], rfl, rfl, fun x hx => absurd hx (by simp)⟩ ?_ ?_ ?_⟩
    · rintro i H' _ ⟨M, rfl, _, _⟩
      have nqD : q ≠ D := ne_of_none (H := upd (upd H l (.lst [.int 0, .int 0])) q (.lst (ms.map V.int))) upd_same hD
      exact SqL.of (by rw [upd_ne nqD]; exact upd_same)
    · rintro i x H' hi ⟨M, rfl, hM, hx⟩
      rw [List.getElem?_map] at hi
      cases e : ms[i]? with
      | none => rw [e] at hi; cases hi
      | some u =>
      rw [e] at hi
      obtain rfl : V.int u = x := Option.some.inj hi
      refine ⟨rfl, _, rfl, u, rfl, _, upd_same, ?_, M ++ [if u < 0 then -u else u], ?_, ?_, ?_⟩
      · rw [List.length_map, hM]
        have := (List.getElem?_eq_some_iff.mp e).1
        exact small1000 (by omega)
      · rw [upd_upd, List.map_append]
        rfl
      · rw [List.length_append, hM]
        rfl
      · intro y hy
        rcases List.mem_append.mp hy with h | h
        · exact hx y h
        · obtain rfl := List.mem_singleton.mp h
          split <;> omega
    · rintro H' ⟨M, rfl, hM, hx⟩
      have nlq : l ≠ q := fun e => by rw [e, upd_same] at hq; cases hq
      have nlD : l ≠ D := fun e => by rw [← e, upd_ne nlq, upd_same] at hD; cases hD
      rw [List.length_map] at hM
      refine ⟨l, D, _, _, rfl, rfl, by rw [upd_ne nlD, upd_ne nlq, upd_same], upd_same, ?_, fun p hp => ?_⟩
      · rw [List.length_map]
        exact Nat.le_of_lt (small1000 (by simp; omega))
      · have hp0 : H p = none := by
          have npD : p ≠ D := fun e => by rw [e, upd_same] at hp; cases hp
          have npq : p ≠ q := fun e => by rw [upd_ne npD, e, upd_same] at hp; cases hp
          have npl : p ≠ l := fun e => by rw [upd_ne npD, upd_ne npq, e, upd_same] at hp; cases hp
          rw [upd_ne npD, upd_ne npq, upd_ne npl] at hp
          exact hp
        have s1 : Same H (upd H l (.lst [.int 0, .int 0])) := Same.upd_new hl
        refine k _ p (0 :: 0 :: M) ((s1.trans (Same.upd_new hq)).trans ((Same.upd_new hD).trans (Same.upd_new hp))) hp0 (by rw [upd_same]; rfl) ⟨0, 0, M, rfl, by decide, by decide, by decide, hx⟩
end
end Dl

namespace Dl
open PySem L2
/-! ### names -/
def SG : Str := "abcdefghijklmnopqrstuvwxyz0123456789"
def validN (z : Str) : Bool := decide (1 ≤ z.length) && (decide (z.length ≤ 12) && z.cps.toList.all fun c => decide (c ∈ SG.cps.toList))
def isNm : V → Bool
  | .str z => validN z
  | _ => false
/-- what may be passed as a name: a text, an int, None, a list -/
def NmOk (H : Hp) : V → Prop
  | .str z => z.length ≤ sizeLine
  | .int _ => True
  | .non => True
  | .ref p => ∃ xs, H p = some (.lst xs)
  | _ => False
structure TxtN (mg : Str → Option Value) : Prop where
  isi : mg "isinstance" = none
  str : mg "str" = none
  len : mg "len" = none
  all : mg "all" = none
  longest : ∃ t, mg "LONGEST" = some (.int 12 t)
  signs : ∃ t, mg "SIGNS" = some (.str SG t)
theorem nm_type (K : PySem.W.Frag) {H : Hp} {v : V} (hv : NmOk H v) : ∃ (ty : String) (b : Bool), TyX K H v (.type ty) ∧ PySem.W.kitOne K (.type ty) (.type "str") = some b ∧ ((b = false ∧ isNm v = false ∧ ∀ z, v ≠ .str z) ∨ (b = true ∧ ∃ z, v = .str z ∧ z.length ≤ sizeLine)) := by
  cases v with
  | int i => exact ⟨"int", false, .base (.int i), kit_ty (by decide +kernel), .inl ⟨rfl, rfl, fun z h => by cases h⟩⟩
  | non => exact ⟨"NoneType", false, .base .non, kit_ty (by decide +kernel), .inl ⟨rfl, rfl, fun z h => by cases h⟩⟩
  | ref p => obtain ⟨xs, hp⟩ := hv; exact ⟨"list", false, .base (.lst hp), kit_ty (by decide +kernel), .inl ⟨rfl, rfl, fun z h => by cases h⟩⟩
  | str z => exact ⟨"str", true, .base (.str z), kit_ty (by decide +kernel), .inr ⟨rfl, z, rfl, hv⟩⟩
  | bl _ => exact hv.elim
  | byt _ => exact hv.elim
  | flt _ => exact hv.elim
  | ty _ => exact hv.elim
def spIsName (K : PySem.W.Frag) : Sp := fun vs H Q _ => ∃ v : V, vs = [v] ∧ NmOk H v ∧ ∀ H', Same H H' → Q (.bl (isNm v)) H'
theorem int_le_nat {a b : Nat} : decide ((a : Int) ≤ (b : Int)) = decide (a ≤ b) := by simp
section
variable {P : Program} {w : World} {K : PySem.W.Frag} {mg : Str → Option Value} {base : Heap}
theorem scIsName : FnScope ["value", "sign"] ["value"] (defScope sIsName) := ⟨rfl, rfl, rfl, by decide +kernel, rfl, by decide +kernel, by decide +kernel⟩
theorem ok_isname {f : Addr} {fd : FuncData} (F : Fun K "is_name" "is_name" sIsName f fd) (T : TxtN mg) : FnOk P w K mg base CX0 1 f fd ["value"] (spIsName K) := by
  refine F.ok scIsName (fun vs H Q E h => ?_) (fun cdv A outer s H vs Q E hr h => ?_)
  · obtain ⟨b, rfl, _⟩ := h
    rfl
  · obtain ⟨v, rfl, hv, k⟩ := h
    obtain ⟨t1, hL⟩ := T.longest
    obtain ⟨t2, hG⟩ := T.signs
    refine ⟨_, pss_cons (ps_if (PW.pt (pw_or (pt_not (pt_val (pe_callB call_isi (by rfl) T.isi (by decide +kernel) (pa_cons (pv 0) (pa_cons (pe_bltn (v := .ty "str") (by rfl) T.str (by decide +kernel) rfl) pa_nil)))))
        (pw_or1 (pt_not (pt_chain op_le op_le pe_int (pe_callB call_len_str (by rfl) T.len PySem.boot_len (pa_cons (pv 0) pa_nil)) (pe_glob (v := .int 12) (by rfl) hL ⟨_, rfl⟩))))))
        (pss_one (ps_ret pe_bl)) pss_nil)
      (pss_one (ps_ret (pe_callB (cr_all rfl) (by rfl) T.all (by decide +kernel) (pa_cons
        (pe_lc (own := [("sign", 1)]) (g := gName 1) (tt := tYes) rfl scIsName.nd (pi_str (pv 0)) (blkOk_by (N := ["value", "sign"]) (sc := defScope sIsName) (by decide +kernel))
          (fun _ _ _ _ _ => pg_name (i := 1) scIsName.nd rfl (Or.inl rfl)) (fun _ _ _ _ _ => pts_nil) (fun _ _ _ _ _ => pe_cmpR op_in_sign (pv 1) (pe_glob (v := .str SG) (by rfl) hG ⟨_, rfl⟩) (by rfl)))
        pa_nil)))), ?_⟩
    obtain ⟨ty, b, h1, h2, h3⟩ := nm_type K hv
    refine ⟨_, rfl, v, _, _, _, b, rfl, ClsV.ty "str", h1, h2, b, rfl, ?_⟩
    rcases h3 with ⟨rfl, h3, _⟩ | ⟨rfl, z, rfl, hz⟩
    · refine iteT (?_)
      show Q (.bl false) H
      rw [← h3]
      exact k H (Same.refl H)
    · refine iteF (?_)
      refine ⟨_, rfl, z, rfl, hz, _, _, rfl, rfl, _, rfl, ?_⟩
      refine ite2 (fun e1 => ?_) (fun e1 => ?_)
      · have e1' : (1 : Nat) ≤ z.length := by
          have q : (1 : Int) ≤ (z.length : Nat) := of_decide_eq_true e1
          omega
        refine ⟨_, _, rfl, rfl, _, rfl, ?_⟩
        by_cases e2 : z.length ≤ 12
        · have e2' : decide (((z.length : Nat) : Int) ≤ (12 : Int)) = true := decide_eq_true (by omega)
          rw [e2']
          refine iteF (?_)
          refine ⟨_, rfl, z, rfl, fun D hD => lc_it (w := walk_str) (fun i H' => H' = upd H D (.lst (((z.cps.toList.take i).map fun c => decide (c ∈ SG.cps.toList)).map V.bl)) ∧ True) ⟨rfl, trivial⟩ (fun _ _ _ _ => trivial) ?_ ?_⟩
          · rintro i x H' H2 hi ⟨rfl, _⟩ ⟨rfl, c, hc, rfl⟩
            refine ⟨rfl, _, rfl, c, SG, rfl, rfl, _, upd_same, ?_, ?_, trivial⟩
            · rw [List.length_map, List.length_map, List.length_take]
              have ez : z.cps.size = z.length := rfl
              exact small1000 (by omega)
            · have hc2 : z.cps.toList[i]? = some c := by rw [Array.getElem?_toList]; exact hc
              rw [upd_upd, List.take_succ, hc2]
              simp
          · rintro H' ⟨rfl, _⟩
            refine ⟨D, _, rfl, SqL.of upd_same, ?_⟩
            have q := k _ (Same.upd_new hD (o := .lst (((z.cps.toList.take z.cps.size).map fun c => decide (c ∈ SG.cps.toList)).map V.bl)))
            have e : isNm (.str z) = ((z.cps.toList.take z.cps.size).map fun c => decide (c ∈ SG.cps.toList)).all id := by
              show validN z = _
              unfold validN
              rw [decide_eq_true e1', decide_eq_true e2, List.take_of_length_le (by simp)]
              simp [List.all_map]
            rw [e] at q
            exact q
        · have e2' : decide (((z.length : Nat) : Int) ≤ (12 : Int)) = false := decide_eq_false (by omega)
          rw [e2']
          refine iteT (?_)
          have q := k H (Same.refl H)
          have e : isNm (.str z) = false := by
            show validN z = _
            unfold validN
            rw [decide_eq_false e2]
            simp
          rw [e] at q
          exact q
      · have q := k H (Same.refl H)
        have e1' : ¬ (1 : Nat) ≤ z.length := fun x => e1 (decide_eq_true (by
          show (1 : Int) ≤ (z.length : Nat)
          omega))
        have e : isNm (.str z) = false := by
          show validN z = _
          unfold validN
          rw [decide_eq_false e1']
          rfl
        rw [e] at q
        exact ⟨_, rfl, iteT q⟩
end
end Dl

namespace Dl
open PySem L2
/-! ### the own errors: class C, its __init__ at fI, its one field f -/
structure ErrC (K : PySem.W.Frag) (mg : Str → Option Value) (x f : Str) (C fI : Addr) : Prop where
  oex : OexC K C
  gC : mg x = some (.ref C)
  iC : PySem.W.findIn K (.ref C) "__init__" = some (some (.ref fI))
  tI : PySem.W.typeIn K (.ref fI) = some (.type "function")
  no : PySem.W.findIn K (.ref C) f = some none
/-- self.f = v -/
def spEI (K : PySem.W.Frag) (C : Addr) (f : Str) : Sp := fun vs H Q _ => ∃ (a : Addr) (v : V), vs = [.ref a, v] ∧ H a = some (exo a C none) ∧ ∀ dx, H dx = none → dx ≠ a → Q .non (upd (upd H dx (exd dx [(f, v)])) a (exo a C (some dx)))
section
variable {P : Program} {w : World} {K : PySem.W.Frag} {mg : Str → Option Value} {base : Heap}
theorem scInv : FnScope ["self", "name"] ["self", "name"] (defScope sInv) := ⟨rfl, rfl, rfl, by decide +kernel, rfl, by decide +kernel, by decide +kernel⟩
theorem ok_einv {C fI : Addr} {fd : FuncData} {x : Str} (F : Fun K "__init__" "InvalidName.__init__" sInv fI fd) (T : ErrC K mg x "name" C fI) : FnOk P w K mg base CX0 1 fI fd ["self", "name"] (spEI K C "name") := by
  refine F.ok scInv (fun vs H Q E h => ?_) (fun cdv A outer s H vs Q E hr h => ?_)
  · obtain ⟨b, n, rfl, _⟩ := h
    rfl
  · obtain ⟨a, v, rfl, ha, k⟩ := h
    exact ⟨_, pss_one (ps_ost (pv 0) (pv 1)), _, rfl, _, rfl, a, C, rfl, T.oex, T.no, .inl ⟨ha, fun dx h1 h2 => k dx h1 h2⟩⟩
end
/-- the way out of raise C(v): what is to be shown for the error's reading, from what the def's promise says -/
theorem raise_end {C : Addr} {f : Str} {K : PySem.W.Frag} {H : Hp} {v : V} {Q : XK} (q : ∀ d H', Same H H' → H d = none → H' d = some (.xd [(f, v)]) → Q (.ref C) (some d) H') :
    ([v] : List V).length ≤ 1000 ∧ ∀ a, H a = none → spEI K C f (.ref a :: ([v] ++ [])) (upd H a (exo a C none))
      (fun u H2 => u = .non ∧ ∃ (d : Addr) (fs : List (Str × V)), H2 a = some (exo a C (some d)) ∧ H2 d = some (exd d fs) ∧ H d = none ∧ Q (.ref C) (some d) (upd (del H2 a) d (.xd fs))) (fun _ _ _ => False) := by
  refine ⟨by simp, fun a ha => ⟨a, v, rfl, upd_same, fun dx hx ne => ⟨rfl, dx, [(f, v)], upd_same, ?_, ?_, ?_⟩⟩⟩
  · rw [upd_ne ne, upd_same]
  · rw [upd_ne ne] at hx
    exact hx
  · rw [upd_ne ne] at hx
    refine q dx _ (fun b o e => ?_) hx upd_same
    have nb : b ≠ dx := ne_of_none e hx
    have na : b ≠ a := ne_of_none e ha
    rw [upd_ne nb, del_ne na, upd_ne na, upd_ne nb, upd_ne na]
    exact e
/-! ### InvalidNote: two fields -/
structure ErrN (K : PySem.W.Frag) (mg : Str → Option Value) (C fI : Addr) : Prop where
  oex : OexC K C
  gC : mg "InvalidNote" = some (.ref C)
  iC : PySem.W.findIn K (.ref C) "__init__" = some (some (.ref fI))
  tI : PySem.W.typeIn K (.ref fI) = some (.type "function")
  noB : PySem.W.findIn K (.ref C) "before" = some none
  noA : PySem.W.findIn K (.ref C) "after" = some none
def spEN (K : PySem.W.Frag) (C : Addr) : Sp := fun vs H Q _ => ∃ (a : Addr) (b v : V), vs = [.ref a, b, v] ∧ H a = some (exo a C none) ∧
  ∀ dx H', H dx = none → dx ≠ a → H' a = some (exo a C (some dx)) → H' dx = some (exd dx [("after", v), ("before", b)]) → (∀ c o, c ≠ a → H c = some o → H' c = some o) → Q .non H'
def NoteX (P : Program) (w : World) (K : PySem.W.Frag) (mg : Str → Option Value) (base : Heap) (C : Addr) : Prop :=
  ∃ fI fd, ErrN K mg C fI ∧ Binds K fd ["self", "before", "after"] [] ∧ FnOk P w K mg base CX0 1 fI fd ["self", "before", "after"] (spEN K C)
theorem scNote : FnScope ["self", "before", "after"] ["self", "before", "after"] (defScope sInvalidNoteInit) := ⟨rfl, rfl, rfl, by decide +kernel, rfl, by decide +kernel, by decide +kernel⟩
section
variable {P : Program} {w : World} {K : PySem.W.Frag} {mg : Str → Option Value} {base : Heap}
theorem ok_enote {C fI : Addr} {fd : FuncData} (F : Fun K "__init__" "InvalidNote.__init__" sInvalidNoteInit fI fd) (T : ErrN K mg C fI) : FnOk P w K mg base CX0 1 fI fd ["self", "before", "after"] (spEN K C) := by
  refine F.ok scNote (fun vs H Q E h => ?_) (fun cdv A outer s H vs Q E hr h => ?_)
  · obtain ⟨b, n, v, rfl, _⟩ := h
    rfl
  · obtain ⟨a, b, v, rfl, ha, k⟩ := h
    refine ⟨_, pss_cons (ps_ost (pv 0) (pv 1)) (pss_one (ps_ost (pv 0) (pv 2))), ?_⟩
    refine ⟨_, rfl, _, rfl, a, C, rfl, T.oex, T.noB, .inl ⟨ha, fun dx h1 h2 => ?_⟩⟩
    refine ⟨_, rfl, _, rfl, a, C, rfl, T.oex, T.noA, .inr ⟨dx, [("before", b)], upd_same, by rw [upd_ne h2, upd_same], by simp, ?_⟩⟩
    refine k dx _ h1 h2 ?_ upd_same fun c o n e => ?_
    · rw [upd_ne (fun q => h2 q.symm), upd_same]
    · rw [upd_ne (ne_of_none e h1), upd_ne n, upd_ne (ne_of_none e h1)]
      exact e
end
/-- the way out of raise InvalidNote(b, v) -/
theorem raise_endN {C : Addr} {K : PySem.W.Frag} {H : Hp} {b v : V} {Q : XK} (q : ∀ d H', Same H H' → H d = none → H' d = some (.xd [("after", v), ("before", b)]) → Q (.ref C) (some d) H') :
    ([b, v] : List V).length ≤ 1000 ∧ ∀ a, H a = none → spEN K C (.ref a :: ([b, v] ++ [])) (upd H a (exo a C none))
      (fun u H2 => u = .non ∧ ∃ (d : Addr) (fs : List (Str × V)), H2 a = some (exo a C (some d)) ∧ H2 d = some (exd d fs) ∧ H d = none ∧ Q (.ref C) (some d) (upd (del H2 a) d (.xd fs))) (fun _ _ _ => False) := by
  refine ⟨by simp, fun a ha => ⟨a, b, v, rfl, upd_same, fun dx H' hx ne e1 e2 keep => ?_⟩⟩
  rw [upd_ne ne] at hx
  refine ⟨rfl, dx, _, e1, e2, hx, q dx _ (fun c o e => ?_) hx upd_same⟩
  have nb : c ≠ dx := ne_of_none e hx
  have na : c ≠ a := ne_of_none e ha
  rw [upd_ne nb, del_ne na]
  exact keep c o na (by rw [upd_ne na]; exact e)
end Dl

namespace Dl
open PySem L2
/-- a def that stands at a global name and keeps its promise -/
def Dfn (P : Program) (w : World) (K : PySem.W.Frag) (mg : Str → Option Value) (base : Heap) (CX : CXT) (k : Nat) (x : Str) (ps : List Str) (sp : Sp) : Prop :=
  ∃ f fd, mg x = some (.ref f) ∧ PySem.W.keepIn K (.ref f) = true ∧ Binds K fd ps [] ∧ FnOk P w K mg base CX k f fd ps sp
/-- an own error with its __init__ -/
def Ex (P : Program) (w : World) (K : PySem.W.Frag) (mg : Str → Option Value) (base : Heap) (x f : Str) (C : Addr) : Prop :=
  ∃ fI fd, ErrC K mg x f C fI ∧ Binds K fd ["self", f] [] ∧ FnOk P w K mg base CX0 1 fI fd ["self", f] (spEI K C f)
/-- an error with one field leaves: what the caller wants of it -/
def Out1 (C : Addr) (f : Str) (v : V) (H : Hp) (E : XK) : Prop := ∀ d H', Same H H' → H d = none → H' d = some (.xd [(f, v)]) → E (.ref C) (some d) H'
theorem Out1.of {C : Addr} {f : Str} {v : V} {H H1 : Hp} {E : XK} (s : Same H H1) (h : Out1 C f v H E) : Out1 C f v H1 E := fun d H' s' n e => h d H' (s.trans s') (s.free n) e
theorem Out1.imp {C : Addr} {f : Str} {v : V} {H : Hp} {E E' : XK} (i : ∀ c d H', E c d H' → E' c d H') (h : Out1 C f v H E) : Out1 C f v H E' := fun d H' s' n e => i _ _ _ (h d H' s' n e)
/-- InvalidNote leaves -/
def OutN (C : Addr) (b v : V) (H : Hp) (E : XK) : Prop := ∀ d H', Same H H' → H d = none → H' d = some (.xd [("after", v), ("before", b)]) → E (.ref C) (some d) H'
theorem OutN.of {C : Addr} {b v : V} {H H1 : Hp} {E : XK} (s : Same H H1) (h : OutN C b v H E) : OutN C b v H1 E := fun d H' s' n e => h d H' (s.trans s') (s.free n) e
theorem OutN.imp {C : Addr} {b v : V} {H : Hp} {E E' : XK} (i : ∀ c d H', E c d H' → E' c d H') (h : OutN C b v H E) : OutN C b v H E' := fun d H' s' n e => i _ _ _ (h d H' s' n e)
theorem isNm_str {v : V} (h : isNm v = true) : ∃ z, v = .str z ∧ validN z = true := by
  cases v with
  | str z => exact ⟨z, rfl, h⟩
  | _ => cases h
/-- check_name(name): nothing happens if it is a valid name, else InvalidName -/
def spCheckName (CI : Addr) : Sp := fun vs H Q E => ∃ v : V, vs = [v] ∧ NmOk H v ∧ (∀ H', Same H H' → isNm v = true → Q .non H') ∧ (isNm v = false → Out1 CI "name" v H E)
section
variable {P : Program} {w : World} {K : PySem.W.Frag} {mg : Str → Option Value} {base : Heap} {CI : Addr}
theorem scCheckName : FnScope ["name"] ["name"] (defScope sCheckName) := ⟨rfl, rfl, rfl, by decide +kernel, rfl, by decide +kernel, by decide +kernel⟩
theorem ok_checkname {f : Addr} {fd : FuncData} (F : Fun K "check_name" "check_name" sCheckName f fd) (gN : Dfn P w K mg base CX0 1 "is_name" ["value"] (spIsName K)) (xI : Ex P w K mg base "InvalidName" "name" CI) :
    FnOk P w K mg base (L2.CX P w) 3 f fd ["name"] (spCheckName CI) := by
  obtain ⟨fN, dN, mN, kN, bN, GN⟩ := gN
  obtain ⟨fI, dI, TI, bI, GI⟩ := xI
  refine F.okX scCheckName (fun vs H Q E h => ?_) (fun cdv A outer s H vs Q E hr h => ?_)
  · obtain ⟨b, rfl, _⟩ := h
    rfl
  · obtain ⟨v, rfl, hv, k, kx⟩ := h
    have hr1 : Room 1 _ := hr.mono (by decide)
    have hr2 : Room 2 _ := hr.mono (by decide)
    refine ⟨_, pss_one (ps_if (pt_not (pt_val (pe_call GN hr1 (by rfl) mN kN bN .nil pass0 (pa_cons (pv 0) pa_nil))))
        (pss_one (ps_raise rfl (takes_of rfl rfl rfl rfl) (pmk_oex TI.oex TI.iC TI.tI GI hr2 bI .nil pass0 (by rfl) TI.gC (pa_cons (pv 0) pa_nil)))) pss_nil), ?_⟩
    refine ⟨_, rfl, v, rfl, hv, fun H1 s1 => ⟨_, rfl, ?_⟩⟩
    by_cases hn : isNm v = true
    · rw [hn]
      exact iteF (k H1 s1 hn)
    · have hn' : isNm v = false := by simpa using hn
      rw [hn']
      exact iteT ⟨_, rfl, raise_end (Out1.of s1 (kx hn'))⟩
end
theorem NmOk.of {H H' : Hp} {v : V} (s : Same H H') (h : NmOk H v) : NmOk H' v := by
  cases v with
  | ref p => obtain ⟨xs, e⟩ := h; exact ⟨xs, s _ _ e⟩
  | str z => exact h
  | int i => exact h
  | non => exact h
  | bl _ => exact h
  | byt _ => exact h
  | flt _ => exact h
  | ty _ => exact h
theorem Same.tup {K : PySem.W.Frag} {H H' : Hp} {a : Addr} {xs : List V} (e : Same H H') (h : SqT K H a xs) : SqT K H' a xs := by
  rcases h with (h | ⟨o, h⟩) | h
  · exact .inl (.inl (e _ _ h))
  · exact .inl (.inr ⟨o, e _ _ h⟩)
  · exact .inr h
def knows (v : V) (es : List Str) : Bool :=
  match v with
  | .str z => decide (z ∈ es)
  | _ => false
def strOf : V → Str
  | .str z => z
  | _ => ""
theorem Same.either {K : PySem.W.Frag} {H H' : Hp} {a : Addr} {xs : List V} (e : Same H H') (h : SqL K H a xs ∨ SqT K H a xs) : SqL K H' a xs ∨ SqT K H' a xs := h.imp (Same.seq e) (Same.tup e)
theorem inV_str {z : Str} {es : List Str} : inV (.str z) (es.map V.str) = decide (z ∈ es) := by
  unfold inV
  rw [List.any_map]
  induction es with
  | nil => simp
  | cons a r ih =>
    rw [List.any_cons, ih]
    have e : ((fun y => eqV y (V.str z)) ∘ V.str) a = decide (a = z) := by
      show eqV (V.str a) (V.str z) = decide (a = z)
      unfold eqV
      first | rfl | simp
    rw [e]
    by_cases h : a = z
    · subst h; simp
    · have h2 : ¬ z = a := fun q => h q.symm
      simp [h, h2]
theorem flat_strs (es : List Str) : (es.map V.str).all flatV = true := by
  rw [List.all_map]
  induction es with
  | nil => rfl
  | cons a r ih => rw [List.all_cons, ih]; rfl
end Dl

/-! C(e, ..) in a try's body: what the class's __init__ lets out is wished for at the caller's slots; lists of texts as data -/
namespace Dl
open PySem PySem.Spec PyProof.Rows L2
def tMakeS (C : Addr) (sp : Sp) (E : L2.St → XK) (t : TA) : TE := fun σ H Q => t σ H fun vs H1 =>
  ∀ x dx, H1 x = none → H1 dx = none → dx ≠ x → sp (.ref x :: vs) (upd (upd H1 dx (.own x)) x (.ins C dx [])) (fun v H2 => v = .non ∧ Q (.ref x) H2) (E σ)
theorem make_slots {X : Cx} {CX : CXT} {k : Nat} {f C : Addr} {fd : FuncData} {ps : List Str} {sp : Sp} {E : XK} {σ : L2.St} {pins : List (Addr × Obj)} {H : Hp} {s : Shared} {Q : VK} {us : List Value} {vs : List V}
    (M : Mk X.K C f) (F : FnOk X.prog X.w X.K X.mg X.base CX k f fd ps sp) (hr : Room (k + 1) X.A) (hb : Binds X.K fd ps []) (hx : PassesAt CX X σ E) (I : Inv X pins σ H s) (r : Vals vs us)
    (h : ∀ x dx, H x = none → H dx = none → dx ≠ x → sp (.ref x :: vs) (upd (upd H dx (.own x)) x (.ins C dx [])) (fun v H2 => v = .non ∧ Q (.ref x) H2) E) :
    wpAny (model X.prog X.w) X.A (call (.ref C) us) (EP X pins σ Q) X.xe s := by
  have at0 : H s.heap.objs.size = none := I.hok.fresh (Nat.le_refl _)
  have at1 : H (s.heap.objs.size + 1) = none := I.hok.fresh (Nat.le_succ _)
  have want := h _ _ at1 at0 (Nat.ne_of_lt (Nat.lt_succ_self _))
  have J := Inv.made (C := C) I
  have rv : Vals (V.ref (s.heap.objs.size + 1) :: vs) (Value.ref (s.heap.objs.size + 1) :: us) := .cons rfl r
  have len : (Value.ref (s.heap.objs.size + 1) :: us).length = ps.length := by rw [← rv.length]; exact F.len _ _ _ _ want
  have bind := hb _ (Value.ref (s.heap.objs.size + 1) :: us) J.kIn (by rw [List.append_nil]; exact len)
  rw [List.append_nil] at bind
  have body := F.run _ X.stack _ _ ⟨Value.ref (s.heap.objs.size + 1) :: us, []⟩ _ _ _ E (hr.make C us []) (J.env0.make C us []) bind rv want
  apply wpAny_call
  apply make_map (f := f) I.kIn M.makes M.init (beq_iff_eq.mp M.fn)
  apply codeAny_mono body
  intro out s2 hout
  match out, hout with
  | .error er, hout => exact hx pins _ _ er s2 J hout
  | .ok (.ret u), hout =>
    obtain ⟨v, H2, J2, rel, ev, q⟩ := J.after hout
    cases ev
    exact ⟨rel, V.ref (s.heap.objs.size + 1), H2, J2, rfl, q⟩
theorem pe_makeS {X : Cx} {CX : CXT} {k : Nat} {f C : Addr} {fd : FuncData} {ps : List Str} {sp : Sp} {E : L2.St → XK} {x : Str} {p pos : Pos} {e : Expr} {es : List Expr} {t : TA}
    (M : Mk X.K C f) (F : FnOk X.prog X.w X.K X.mg X.base CX k f fd ps sp) (hr : Room (k + 1) X.A) (hg : Gl X x) (hm : X.mg x = some (.ref C)) (hb : Binds X.K fd ps []) (hx : ∀ σ, PassesAt CX X σ (E σ)) (ha : PA X (e :: es) t)
    (hdb : (x == ("__debug__" : Str)) = false := by decide) (he : starEach (e :: es) X.env = (false, eval e X.env) :: starEach es X.env := by rfl) (hpl : (backTo pos (starEach es X.env)).any (·.1) = false := by rfl) :
    PE X (.Call (.Name x p) (e :: es) [] pos) (tMakeS C sp E t) := by
  constructor
  intro pins s σ H Q I h
  apply wpAny_Call_Name_kw
  apply ld_glob I hg hm _ hdb
  apply PySem.W.callWith_K (h₀ := X.base) I.ok.mod.kin M.kp _ he hpl
  apply thn (ha.run pos pins s σ H _ I h)
  rintro us s1 ⟨vs, H1, I1, r, q⟩
  exact ⟨I1.kIn, make_slots M F hr hb (hx σ) I1 r q⟩
/-! ### lists and tuples of texts as data -/
theorem canAll_strs : ∀ {zs : List Str}, (∀ z ∈ zs, PyData.canLay0 (.str z) = true) → PyData.canLayAll0 (zs.map PyData.str) = true
  | [], _ => by simp [PyData.canLayAll0]
  | z :: r, h => by
    rw [List.map_cons, PyData.canLayAll0, Bool.and_eq_true]
    exact ⟨h z (List.mem_cons_self ..), canAll_strs fun y hy => h y (List.mem_cons_of_mem _ hy)⟩
theorem depthAll_strs : ∀ zs : List Str, PyData.depthAll (zs.map PyData.str) = 0
  | [] => by simp [PyData.depthAll]
  | z :: r => by rw [List.map_cons, PyData.depthAll, depthAll_strs r]; simp [PyData.depth]
theorem shaped_strs {zs : List Str} (h : ∀ z ∈ zs, PyData.canLay0 (.str z) = true) : SeqAt.shaped (.list (zs.map PyData.str)) = true := by
  unfold SeqAt.shaped
  rw [Bool.and_eq_true, PyData.canLay0, PyData.depth, depthAll_strs]
  exact ⟨canAll_strs h, by decide⟩
theorem dpAll_strs {K : PySem.W.Frag} {H : Hp} : ∀ zs : List Str, DpAll K H (zs.map V.str) (zs.map PyData.str)
  | [] => .nil
  | z :: r => .cons (.str z) (dpAll_strs r)
theorem eqvAll_strs : ∀ zs ys : List Str, PyData.eqvAll (zs.map PyData.str) (ys.map PyData.str) = decide (zs = ys)
  | [], [] => by simp [PyData.eqvAll]
  | [], _ :: _ => by simp [PyData.eqvAll]
  | _ :: _, [] => by simp [PyData.eqvAll]
  | z :: r, y :: q => by
    rw [List.map_cons, List.map_cons, PyData.eqvAll, eqvAll_strs r q, PyData.eqv]
    by_cases h1 : z = y <;> by_cases h2 : r = q <;> simp [h1, h2]
end Dl

namespace Dl
open PySem PySem.Spec PyProof.Rows L2
/-! ### the drawn names: one to three letters, and the number of the names before where it was there -/
def LT : Str := "abcdefghijklmnopqrstuvwxyz"
def isLet (c : Nat) : Prop := 97 ≤ c ∧ c ≤ 122
def dg (n : Nat) : List Nat := (Str.ofString (toString (n : Int))).cps.toList
theorem lt_facts : ∀ c ∈ LT.cps.toList, 97 ≤ c ∧ c ≤ 122 := by decide +kernel
theorem lt_len : LT.cps.toList.length = 26 := by decide +kernel
theorem dg_facts : ∀ k, k < 25 → dg k ≠ [] ∧ (dg k).length ≤ 2 ∧ ∀ c ∈ dg k, ¬ (97 ≤ c ∧ c ≤ 122) ∧ c ∈ SG.cps.toList ∧ c < 1114112 := by decide +kernel
theorem dg_inj : ∀ j, j < 25 → ∀ k, k < 25 → dg j = dg k → j = k := by decide +kernel
theorem let_sg : ∀ c, c < 123 → 97 ≤ c → c ∈ SG.cps.toList ∧ c < 1114112 := by decide +kernel
theorem sg_small' : ∀ c ∈ SG.cps.toList, c < 1114112 := by decide +kernel
theorem nil_codes : ("" : Str).cps.toList = [] := by decide +kernel
/-- the name that was drawn as number i -/
structure NameAt (i : Nat) (z : Str) : Prop where
  ex : ∃ l : List Nat, l ≠ [] ∧ l.length ≤ 3 ∧ (∀ c ∈ l, isLet c) ∧ (z.cps.toList = l ∨ z.cps.toList = l ++ dg i)
structure NamesOk (zs : List Str) : Prop where
  at_ : ∀ i z, zs[i]? = some z → NameAt i z
  nd : zs.Nodup
  few : zs.length ≤ 24
theorem codes_ext {a b : Str} (h : a.cps.toList = b.cps.toList) : a = b := by
  cases a; cases b
  congr
  exact Array.ext' h
theorem let_dg {l l' : List Nat} {j k : Nat} (hj : j < 25) (hk : k < 25) (hl : ∀ c ∈ l, isLet c) (hl' : ∀ c ∈ l', isLet c) (h : l' ++ dg j = l ++ dg k) : j = k := by
  have tw : ∀ (m d : List Nat), (∀ c ∈ m, isLet c) → (∀ c ∈ d, ¬ isLet c) → (m ++ d).dropWhile (fun c => decide (97 ≤ c ∧ c ≤ 122)) = d := by
    intro m
    induction m with
    | nil =>
      intro d _ hd
      cases d with
      | nil => rfl
      | cons a r =>
        have q : ¬ (97 ≤ a ∧ a ≤ 122) := hd a (List.mem_cons_self ..)
        simp only [List.nil_append, List.dropWhile]
        rw [decide_eq_false q]
    | cons a r ih =>
      intro d hm hd
      have q : 97 ≤ a ∧ a ≤ 122 := hm a (List.mem_cons_self ..)
      rw [List.cons_append, List.dropWhile, decide_eq_true q]
      exact ih d (fun c hc => hm c (List.mem_cons_of_mem _ hc)) hd
  have e := congrArg (List.dropWhile fun c => decide (97 ≤ c ∧ c ≤ 122)) h
  rw [tw l' (dg j) hl' fun c hc => ((dg_facts j hj).2.2 c hc).1, tw l (dg k) hl fun c hc => ((dg_facts k hk).2.2 c hc).1] at e
  exact dg_inj j hj k hk e
theorem fresh_tail {zs : List Str} {l : List Nat} {z : Str} (ok : NamesOk zs) (h23 : zs.length ≤ 23) (hl : ∀ c ∈ l, isLet c) (hz : z.cps.toList = l ++ dg zs.length) : z ∉ zs := by
  intro hm
  obtain ⟨i, hi⟩ := List.getElem?_of_mem hm
  have hlt : i < zs.length := (List.getElem?_eq_some_iff.mp hi).1
  obtain ⟨l', _, _, hl', e⟩ := (ok.at_ i z hi).ex
  rcases e with e | e
  · rw [hz] at e
    have d := dg_facts zs.length (by omega)
    cases hd : dg zs.length with
    | nil => exact d.1 hd
    | cons c r =>
      have m1 : c ∈ l' := by rw [← e, hd]; simp
      have m2 : c ∈ dg zs.length := by rw [hd]; simp
      exact (d.2.2 c m2).1 (hl' c m1)
  · rw [hz] at e
    have := let_dg (by omega) (by omega) hl hl' e.symm
    omega
theorem NameAt.sg {i : Nat} {z : Str} (h : NameAt i z) (hi : i < 25) : (∀ c ∈ z.cps.toList, c ∈ SG.cps.toList) ∧ 1 ≤ z.length ∧ z.length ≤ 5 := by
  obtain ⟨l, h1, h2, h3, h4⟩ := h.ex
  have zl : z.length = z.cps.toList.length := by simp [Str.length]
  have l1 : 1 ≤ l.length := by cases l with | nil => exact absurd rfl h1 | cons _ _ => simp
  have d := dg_facts i hi
  rcases h4 with e | e
  · refine ⟨fun c hc => ?_, by rw [zl, e]; exact l1, by rw [zl, e]; omega⟩
    rw [e] at hc
    exact (let_sg c (by have := (h3 c hc).2; omega) (h3 c hc).1).1
  · refine ⟨fun c hc => ?_, by rw [zl, e, List.length_append]; omega, by rw [zl, e, List.length_append]; omega⟩
    rw [e] at hc
    rcases List.mem_append.mp hc with hc | hc
    · exact (let_sg c (by have := (h3 c hc).2; omega) (h3 c hc).1).1
    · exact (d.2.2 c hc).2.1
theorem NameAt.valid {i : Nat} {z : Str} (h : NameAt i z) (hi : i < 25) : validN z = true := by
  obtain ⟨h1, h2, h3⟩ := h.sg hi
  unfold validN
  rw [decide_eq_true h2, decide_eq_true (show z.length ≤ 12 by omega), List.all_eq_true.mpr fun c hc => decide_eq_true (h1 c hc)]
  rfl
theorem NamesOk.valid {zs : List Str} (ok : NamesOk zs) {z : Str} (hz : z ∈ zs) : validN z = true := by
  obtain ⟨i, hi⟩ := List.getElem?_of_mem hz
  have hlt : i < zs.length := (List.getElem?_eq_some_iff.mp hi).1
  exact (ok.at_ i z hi).valid (by have := ok.few; omega)
theorem valid_small {z : Str} (h : validN z = true) : z.length ≤ 12 ∧ (∀ c ∈ z.cps.toList, c < 1114112) := by
  unfold validN at h
  simp only [Bool.and_eq_true, decide_eq_true_eq] at h
  exact ⟨h.2.1, fun c hc => sg_small' c (of_decide_eq_true (List.all_eq_true.mp h.2.2 c hc))⟩
/-- everything but the bag at b stands -/
def SameB (b : Addr) (H H' : Hp) : Prop := ∀ c o, c ≠ b → H c = some o → H' c = some o
theorem SameB.refl (b : Addr) (H : Hp) : SameB b H H := fun _ _ _ h => h
theorem SameB.trans {b : Addr} {H H1 H2 : Hp} (s : SameB b H H1) (t : SameB b H1 H2) : SameB b H H2 := fun c o n h => t c o n (s c o n h)
theorem SameB.upd {b : Addr} {H : Hp} {o : HO} : SameB b H (upd H b o) := fun c u n h => by rw [upd_ne n]; exact h
theorem SameB.of {b : Addr} {H H' : Hp} (s : Same H H') : SameB b H H' := fun c o _ h => s c o h
theorem SameB.free {b : Addr} {H H' : Hp} (s : SameB b H H') {c : Addr} (n : c ≠ b) (h : H' c = none) : H c = none := by
  cases e : H c with
  | none => rfl
  | some o => rw [s c o n e] at h; cases h
theorem upd_none {H : Hp} {b c : Addr} {o : HO} (h : upd H b o c = none) : H c = none ∧ c ≠ b := by
  by_cases e : c = b
  · subst e; rw [upd_same] at h; cases h
  · rw [upd_ne e] at h; exact ⟨h, e⟩
structure TxtM (mg : Str → Option Value) : Prop where
  range : mg "range" = none
  len : mg "len" = none
  str : mg "str" = none
def spName : Sp := fun vs H Q _ => ∃ (b u : Addr) (L : List Int) (zs : List Str), vs = [.ref b, .ref u] ∧ H b = some (.lst (L.map V.int)) ∧ BagOk L ∧ u ≠ b ∧ H u = some (.lst (zs.map V.str)) ∧ NamesOk zs ∧ zs.length ≤ 23 ∧
  ∀ (L' : List Int) (z : Str), BagOk L' → NameAt zs.length z → z ∉ zs → Q (.str z) (upd H b (.lst (L'.map V.int)))
def spNames : Sp := fun vs H Q _ => ∃ (b : Addr) (L : List Int) (n : Int), vs = [.ref b, .int n] ∧ H b = some (.lst (L.map V.int)) ∧ BagOk L ∧ 0 ≤ n ∧ n ≤ 24 ∧
  ∀ (H' : Hp) (u : Addr) (L' : List Int) (zs : List Str), SameB b H H' → H u = none → H' u = some (.lst (zs.map V.str)) → H' b = some (.lst (L'.map V.int)) → BagOk L' → NamesOk zs → zs.length = n.toNat → Q (.ref u) H'
theorem cat_codes (a b : Str) : (a ++ b).cps.toList = a.cps.toList ++ b.cps.toList := by
  show (a.cps ++ b.cps).toList = _
  simp
theorem cat_len (a b : Str) : (a ++ b).length = a.length + b.length := by
  show (a.cps ++ b.cps).size = _
  rw [Array.size_append]
  rfl
section
variable {P : Program} {w : World} {K : PySem.W.Frag} {mg : Str → Option Value} {base : Heap}
theorem scName : FnScope ["_law_bag_here", "_law_used", "_law_letters", "_law_name_here", "_law_k"] ["_law_bag_here", "_law_used"] (defScope sLawName) := ⟨rfl, rfl, rfl, by decide +kernel, rfl, by decide +kernel, by decide +kernel⟩
theorem ok_name {f : Addr} {fd : FuncData} (F : Fun K "_law_name" "_law_name" sLawName f fd) (T : TxtM mg) (gT : Dfn P w K mg base CX0 1 "_law_take" ["_law_bag_here", "_law_size"] spTake) :
    FnOk P w K mg base CX0 2 f fd ["_law_bag_here", "_law_used"] spName := by
  obtain ⟨fT, dT, mT, kT, bT, GT⟩ := gT
  refine F.ok scName (fun vs H Q E h => ?_) (fun cdv A outer s H vs Q E hr h => ?_)
  · obtain ⟨a, u, L, zs, rfl, _⟩ := h
    rfl
  · obtain ⟨b, u, L, zs, rfl, hb, hok, hub, hu, ok, hlen, k⟩ := h
    have hr1 : Room 1 _ := hr
    refine ⟨_, (pss_cons (ps_set (i := 2) scName.nd rfl (Or.inl rfl) pe_str)
        (pss_cons (ps_set (i := 3) scName.nd rfl (Or.inl rfl) pe_str)
        (pss_cons (ps_for PassesOwn.never rfl (pi_range1 (by rfl) T.range (pa_cons (pe_op op_add pe_int (pe_call GT hr1 (by rfl) mT kT bT .nil pass0 (pa_cons (pv 0) (pa_cons pe_int pa_nil)))) pa_nil)) (pg_name (i := 4) scName.nd rfl (Or.inl rfl)) (pss_one (ps_set (i := 3) scName.nd rfl (Or.inl rfl) (pe_op op_add_str (pv 3) (pe_ix ix_str (pv 2) (pe_call GT hr1 (by rfl) mT kT bT .nil pass0 (pa_cons (pv 0) (pa_cons pe_int pa_nil))) (fun _ _ => rfl))))))
        (pss_cons (ps_if (pt_cmpR op_in_seq (pv 3) (pv 1) (by rfl)) (pss_one (ps_set (i := 3) scName.nd rfl (Or.inl rfl) (pe_op op_add_str (pv 3) (pe_callTy call_str_int (by rfl) T.str (by decide +kernel) (pa_cons (pe_callB call_len_seq (by rfl) T.len PySem.boot_len (pa_cons (pv 1) pa_nil)) pa_nil))))) pss_nil)
        (pss_one (ps_ret (pv 3))))))), ?_⟩
    refine ⟨_, rfl, b, L, 3, rfl, hb, hok, by decide, by decide, fun L1 r ok1 r0 r1 => ⟨_, _, rfl, rfl, _, rfl, by omega, by omega, for_range (n := (1 + r).toNat) (lo := 0)
      (fun i σ H' => ∃ (z : Str) (x : Option V) (L2 : List Int), σ = [some (.ref b), some (.ref u), some (.str LT), some (.str z), x] ∧ H' = upd H b (.lst (L2.map V.int)) ∧ BagOk L2 ∧ z.cps.toList.length = i ∧ ∀ c ∈ z.cps.toList, isLet c)
      ⟨_, none, L1, rfl, rfl, ok1, by decide +kernel, fun c hc => absurd hc (by rw [nil_codes]; exact List.not_mem_nil)⟩ ?_ ?_⟩⟩
    · rintro i σ H2 hi ⟨z, x, L2, rfl, rfl, ok2, hz, hzc⟩
      refine ⟨_, rfl, _, rfl, _, rfl, b, L2, 26, rfl, upd_same, ok2, by decide, by decide, fun L3 q ok3 q0 q1 => ?_⟩
      have hq3 : q.toNat < LT.cps.toList.length := by rw [lt_len]; omega
      refine ⟨LT, q, LT.cps.toList[q.toNat], rfl, rfl, by decide +kernel, ?_, ?_⟩
      · have e := atI_nat (xs := LT.cps.toList) (j := q.toNat) (List.getElem?_eq_getElem hq3)
        rw [Int.toNat_of_nonneg q0] at e
        exact e
      · have ez : z.length = i := hz
        refine ⟨z, _, rfl, rfl, ?_, ?_⟩
        · rw [ez]
          exact Nat.le_of_lt (small1000 (by show i + 1 ≤ 1000; omega))
        · refine ⟨_, _, L3, rfl, upd_upd, ok3, ?_, ?_⟩
          · rw [cat_codes, List.length_append, hz]
            rfl
          · intro c hc
            rw [cat_codes] at hc
            rcases List.mem_append.mp hc with h | h
            · exact hzc c h
            · obtain rfl : c = LT.cps.toList[q.toNat] := by simpa using h
              exact lt_facts _ (List.getElem_mem hq3)
    · rintro σ H2 ⟨z, x, L2, rfl, rfl, ok2, hz, hzc⟩
      have zl : z.length = (1 + r).toNat := hz
      have hne : z.cps.toList ≠ [] := by
        intro e
        rw [e] at hz
        simp at hz
        omega
      have at0 : NameAt zs.length z := ⟨z.cps.toList, hne, by omega, hzc, .inl rfl⟩
      refine ⟨_, rfl, _, rfl, u, _, rfl, .inl (SqL.of (by rw [upd_ne hub]; exact hu)), rfl, flat_strs zs, _, rfl, ?_⟩
      show if (inV (.str z) (zs.map V.str)) = true then _ else _
      rw [inV_str]
      by_cases hm : z ∈ zs
      · rw [decide_eq_true hm]
        refine iteT ⟨_, rfl, _, rfl, u, _, rfl, .inl (SqL.of (by rw [upd_ne hub]; exact hu)), _, rfl, ?_, z, _, rfl, rfl, ?_, _, rfl, ?_⟩
        · rw [List.length_map]
          have : ((zs.length : Nat) : Int).natAbs = zs.length := by simp
          rw [this]
          exact Nat.lt_of_le_of_lt (Nat.log2_le_self _) (by omega)
        · have d := (dg_facts zs.length (by omega)).2.1
          have e : (Str.ofString (toString ((((zs.map V.str).length : Nat) : Int)))).length = (dg zs.length).length := by
            rw [List.length_map]
            simp [dg, Str.length]
          show z.length + (Str.ofString (toString ((((zs.map V.str).length : Nat) : Int)))).length ≤ sizeLine
          rw [e, zl]
          exact Nat.le_of_lt (small1000 (by omega))
        · have ez : (z ++ (Str.ofString (toString ((((zs.map V.str).length : Nat) : Int))))).cps.toList = z.cps.toList ++ dg zs.length := by
            rw [cat_codes, List.length_map]
            rfl
          exact k L2 _ ok2 ⟨z.cps.toList, hne, by omega, hzc, .inr ez⟩ (fresh_tail ok hlen hzc ez)
      · rw [decide_eq_false hm]
        exact iteF ⟨_, rfl, k L2 z ok2 at0 hm⟩
theorem scNames : FnScope ["_law_bag_here", "_law_count", "_law_names_here", "_law_k"] ["_law_bag_here", "_law_count"] (defScope sLawNames) := ⟨rfl, rfl, rfl, by decide +kernel, rfl, by decide +kernel, by decide +kernel⟩
theorem ok_names {f : Addr} {fd : FuncData} (F : Fun K "_law_names" "_law_names" sLawNames f fd) (T : TxtM mg) (gN : Dfn P w K mg base CX0 2 "_law_name" ["_law_bag_here", "_law_used"] spName) :
    FnOk P w K mg base CX0 3 f fd ["_law_bag_here", "_law_count"] spNames := by
  obtain ⟨fNm, dNm, mNm, kNm, bNm, GNm⟩ := gN
  refine F.ok scNames (fun vs H Q E h => ?_) (fun cdv A outer s H vs Q E hr h => ?_)
  · obtain ⟨a, L, n, rfl, _⟩ := h
    rfl
  · obtain ⟨b, L, n, rfl, hb, hok, hn0, hn1, k⟩ := h
    have hr2 : Room 2 _ := hr
    refine ⟨_, (pss_cons (ps_set (i := 2) scNames.nd rfl (Or.inl rfl) (pe_lst pa_nil))
        (pss_cons (ps_for PassesOwn.never rfl (pi_range1 (by rfl) T.range (pa_cons (pv 1) pa_nil)) (pg_name (i := 3) scNames.nd rfl (Or.inl rfl)) (pss_one (ps_expr (pe_bm PySem.F.plainAttrs_list PySem.F.slot_list_append PySem.F.type_list_append mt_append (pv 2) (pa_cons (pe_call GNm hr2 (by rfl) mNm kNm bNm .nil pass0 (pa_cons (pv 0) (pa_cons (pv 2) pa_nil))) pa_nil)))))
        (pss_one (ps_ret (pv 2))))), ?_⟩
    refine ⟨Nat.zero_le _, fun u hu => ?_⟩
    have nub : u ≠ b := fun e => by rw [e, hb] at hu; cases hu
    refine ⟨_, rfl, _, rfl, by omega, by omega, for_range (n := n.toNat) (lo := 0)
      (fun i σ H' => ∃ (zs : List Str) (x : Option V) (L2 : List Int), σ = [some (.ref b), some (.int n), some (.ref u), x] ∧ SameB b H H' ∧ H' b = some (.lst (L2.map V.int)) ∧ BagOk L2 ∧ H' u = some (.lst (zs.map V.str)) ∧ NamesOk zs ∧ zs.length = i)
      ⟨[], none, L, rfl, SameB.of (Same.upd_new hu), by rw [upd_ne nub.symm]; exact hb, hok, upd_same, ⟨fun i z h => by simp at h, by simp, by simp⟩, rfl⟩ ?_ ?_⟩
    · rintro i σ H2 hi ⟨zs, x, L2, rfl, s2, hb2, ok2, hu2, okz, hz⟩
      refine ⟨_, rfl, .inl ⟨rfl, _, SqL.of hu2⟩, _, rfl, _, rfl, b, u, L2, zs, rfl, hb2, ok2, nub, hu2, okz, by omega, fun L3 z ok3 hat hnz => ?_⟩
      refine ⟨u, _, _, rfl, rfl, by rw [upd_ne nub]; exact hu2, ?_, ?_⟩
      · rw [List.length_map]
        exact small1000 (by omega)
      · refine ⟨zs ++ [z], _, L3, rfl, fun c o n h => ?_, ?_, ok3, ?_, ⟨fun j y h => ?_, ?_, ?_⟩, ?_⟩
        · have ncu : c ≠ u := ne_of_none h hu
          rw [upd_ne ncu, upd_ne n]
          exact s2 c o n h
        · rw [upd_ne nub.symm, upd_same]
        · rw [upd_same, List.map_append]
          rfl
        · by_cases hj : j < zs.length
          · rw [List.getElem?_append_left hj] at h
            exact okz.at_ j y h
          · rw [List.getElem?_append_right (by omega)] at h
            have hj0 : j - zs.length = 0 := by
              have := (List.getElem?_eq_some_iff.mp h).1
              simp at this
              omega
            rw [hj0] at h
            obtain rfl : z = y := by simpa using h
            have : j = zs.length := by omega
            rw [this]
            exact hat
        · rw [List.nodup_append]
          refine ⟨okz.nd, by simp, fun a ha c hc => ?_⟩
          obtain rfl := List.mem_singleton.mp hc
          exact fun e => hnz (e ▸ ha)
        · rw [List.length_append]
          simp
          omega
        · rw [List.length_append, hz]
          rfl
    · rintro σ H2 ⟨zs, x, L2, rfl, s2, hb2, ok2, hu2, okz, hz⟩
      exact ⟨_, rfl, k H2 u L2 zs s2 hu hu2 hb2 ok2 okz hz⟩
end
end Dl

namespace Dl
open PySem PySem.Spec PyProof.Rows L2
/-! ### texts: what is a valid name -/
theorem len_pos {z : Str} (h : ¬ z = ("" : Str)) : 1 ≤ z.length := by
  have e0 : ("" : Str) = ⟨#[]⟩ := by decide +kernel
  cases z with
  | mk cps =>
    by_cases q : cps.size = 0
    · exfalso
      apply h
      rw [e0, Array.eq_empty_of_size_eq_zero q]
    · show 1 ≤ cps.size
      omega
theorem valid_of {z : Str} (h1 : 1 ≤ z.length) (h : ∀ c ∈ z.cps.toList, c ∈ SG.cps.toList) : validN z = decide (z.length ≤ 12) := by
  unfold validN
  rw [decide_eq_true h1, List.all_eq_true.mpr fun c hc => decide_eq_true (h c hc)]
  simp
theorem invalid_of {z : Str} {c : Nat} (hc : c ∈ z.cps.toList) (h : c ∉ SG.cps.toList) : validN z = false := by
  unfold validN
  have q : (z.cps.toList.all fun c => decide (c ∈ SG.cps.toList)) = false := by
    rw [List.all_eq_false]
    exact ⟨c, hc, by simpa using h⟩
  rw [q]
  simp
end Dl

namespace Dl
open PySem PySem.Spec PyProof.Rows L2
/-! ### names and texts as data -/
def canS (z : Str) : Prop := PyData.canLay0 (.str z) = true
theorem can_of {z : Str} (h : ∀ c ∈ z.cps.toList, c < 1114112) : canS z := by
  unfold canS PyData.canLay0 PyData.strOk
  rw [Array.all_eq_true]
  intro i hi
  exact decide_eq_true (h _ (by simp))
/-- a value that is passed as a name, as data -/
def NmD (H : Hp) : V → Prop
  | .str z => canS z ∧ z.length ≤ 1000
  | .int _ => True
  | .non => True
  | .ref p => ∃ zs : List Str, H p = some (.lst (zs.map V.str)) ∧ ∀ z ∈ zs, canS z
  | _ => False
theorem NmD.ok {H : Hp} {v : V} (h : NmD H v) : NmOk H v := by
  cases v with
  | str z => exact Nat.le_of_lt (small1000 h.2)
  | int i => trivial
  | non => trivial
  | ref p => obtain ⟨zs, e, _⟩ := h; exact ⟨_, e⟩
  | bl _ => exact h.elim
  | byt _ => exact h.elim
  | flt _ => exact h.elim
  | ty _ => exact h.elim
theorem NmD.of {H H' : Hp} {v : V} (s : Same H H') (h : NmD H v) : NmD H' v := by
  cases v with
  | str z => exact h
  | int i => trivial
  | non => trivial
  | ref p => obtain ⟨zs, e, q⟩ := h; exact ⟨zs, s _ _ e, q⟩
  | bl _ => exact h.elim
  | byt _ => exact h.elim
  | flt _ => exact h.elim
  | ty _ => exact h.elim
theorem any_str (es : List Str) (y : Str) : (es.map PyData.str).any (fun z => PyData.eqv z (.str y)) = decide (y ∈ es) := by
  rw [List.any_map]
  induction es with
  | nil => simp
  | cons a r ih =>
    rw [List.any_cons, ih]
    show (PyData.eqv (.str a) (.str y) || decide (y ∈ r)) = _
    rw [PyData.eqv]
    by_cases h : a = y
    · subst h; simp
    · have h2 : ¬ y = a := fun q => h q.symm
      simp [h, h2]
theorem any_no (es : List Str) {d : PyData} (h : ∀ z : Str, PyData.eqv (.str z) d = false) : (es.map PyData.str).any (fun z => PyData.eqv z d) = false := by
  rw [List.any_map, List.any_eq_false]
  intro z _
  show ¬ PyData.eqv (.str z) d = true
  rw [h z]
  decide
/-- the data of a name -/
theorem NmD.dat (K : PySem.W.Frag) {H : Hp} {v : V} (h : NmD H v) : ∃ d, Dp K H v d ∧ PyData.canLay0 d = true ∧ d.depth ≤ 1 ∧ ∀ es : List Str, (es.map PyData.str).any (fun z => PyData.eqv z d) = knows v es := by
  cases v with
  | str z => exact ⟨.str z, .str z, h.1, by simp [PyData.depth], fun es => any_str es z⟩
  | int i => exact ⟨.int i, .int i, by simp [PyData.canLay0], by simp [PyData.depth], fun es => any_no es fun z => by rw [PyData.eqv]⟩
  | non => exact ⟨.none, .non, by simp [PyData.canLay0], by simp [PyData.depth], fun es => any_no es fun z => by rw [PyData.eqv]⟩
  | ref p =>
    obtain ⟨zs, e, q⟩ := h
    refine ⟨.list (zs.map PyData.str), .lst (SqL.of e) (dpAll_strs zs), ?_, ?_, fun es => any_no es fun z => by rw [PyData.eqv]⟩
    · rw [PyData.canLay0]; exact canAll_strs q
    · rw [PyData.depth, depthAll_strs]; decide
  | bl _ => exact h.elim
  | byt _ => exact h.elim
  | flt _ => exact h.elim
  | ty _ => exact h.elim
theorem shaped_of {d : PyData} (h : PyData.canLay0 d = true) (h2 : d.depth ≤ 1) : SeqAt.shaped d = true := by
  unfold SeqAt.shaped
  rw [h, Bool.true_and]
  exact decide_eq_true (by omega)
theorem room65 {k : Nat} {A : Around} (r : Room k A) : A.units + 65 < cLine := by
  have := r.un
  omega
theorem valid_can {z : Str} (h : validN z = true) : canS z := can_of (valid_small h).2
end Dl

namespace Dl
open PySem PySem.Spec PyProof.Rows L2
theorem int_nd {i j : Int} (h : i ≠ j) : decide (V.int i = V.int j) = false := decide_eq_false fun q => h (V.int.inj q)
theorem int_yd {i : Int} : decide (V.int i = V.int i) = true := decide_eq_true rfl
theorem iteY {c : Bool} {A B : Prop} (e : c = true) (h : A) : if c = true then A else B := by rw [if_pos e]; exact h
theorem iteZ {c : Bool} {A B : Prop} (e : c = false) (h : B) : if c = true then A else B := by rw [if_neg (by rw [e]; decide)]; exact h
end Dl

namespace Dl
open PySem PySem.Spec PyProof.Rows L2
/-! ### Notes(*pairs) -/
/-- a pair as it is passed -/
structure PairIn where
  t : Addr
  b : V
  a : V
structure PairOk (K : PySem.W.Frag) (H : Hp) (r : PairIn) : Prop where
  pair : SqT K H r.t [r.b, r.a]
  nb : NmOk H r.b
  na : NmOk H r.a
theorem PairOk.of {K : PySem.W.Frag} {H H' : Hp} {r : PairIn} (s : Same H H') (h : PairOk K H r) : PairOk K H' r := ⟨Same.tup s h.pair, h.nb.of s, h.na.of s⟩
inductive NErr where
  | inv (v : V)
  | note (b a : V)
def PairIn.dat (r : PairIn) : V × V := (r.b, r.a)
def pRefs (rs : List PairIn) : List V := rs.map fun r => V.ref r.t
def pKeys (ps : List (V × V)) : List (List Str) := ps.map fun p => [strOf p.1, strOf p.2]
/-- what the check in order finds -/
def chkPs : List (V × V) → Option NErr
  | [] => none
  | (b, a) :: r => if isNm b = false then some (.inv b) else if isNm a = false then some (.inv a) else if b = a then some (.note b a) else chkPs r
def OutF (CI CE : Addr) (H : Hp) (E : XK) : NErr → Prop
  | .inv v => Out1 CI "name" v H E
  | .note b a => OutN CE b a H E
theorem OutF.of {CI CE : Addr} {H H1 : Hp} {E : XK} {e : NErr} (s : Same H H1) (h : OutF CI CE H E e) : OutF CI CE H1 E e := by
  cases e with
  | inv v => exact Out1.of s h
  | note b a => exact OutN.of s h
/-- the object's parts: sorted, each once -/
structure NotesAt (K : PySem.W.Frag) (CN : Addr) (H : Hp) (p : Addr) (ks : List (List Str)) : Prop where
  ex : ∃ (dx tp : Addr) (L : Keyed), H p = some (.ins CN dx [("pairs", .ref tp)]) ∧ H tp = some (.tup (L.map fun q => V.ref q.1)) ∧ L.map (·.2) = ks ∧ ∀ q ∈ L, SqT K H q.1 (q.2.map V.str)
theorem NotesAt.of {K : PySem.W.Frag} {CN : Addr} {H H' : Hp} {p : Addr} {ks : List (List Str)} (s : Same H H') (h : NotesAt K CN H p ks) : NotesAt K CN H' p ks := by
  obtain ⟨dx, tp, L, h1, h2, h3, h4⟩ := h.ex
  exact ⟨dx, tp, L, s _ _ h1, s _ _ h2, h3, fun q hq => Same.tup s (h4 q hq)⟩
structure TxtNotes (K : PySem.W.Frag) (mg : Str → Option Value) (CN : Addr) : Prop where
  cl : Cls K CN
  nP : NoAttr K CN "pairs"
  tup : mg "tuple" = none
  sor : mg "sorted" = none
  set_ : mg "set" = none
def spNotes (K : PySem.W.Frag) (CN CI CE : Addr) : Sp := fun vs H Q E => ∃ (H0 : Hp) (p dx tp : Addr) (rs : List PairIn), vs = [.ref p, .ref tp] ∧ Same H0 H ∧ H0 p = none ∧ H p = some (.ins CN dx []) ∧ SqT K H tp (pRefs rs) ∧ tp ≠ p ∧ (∀ r ∈ rs, PairOk K H0 r) ∧ rs.length < 64 ∧
  (chkPs (rs.map PairIn.dat) = none → ∀ H', Same H0 H' → NotesAt K CN H' p (normK (pKeys (rs.map PairIn.dat))) → Q .non H') ∧ ∀ e, chkPs (rs.map PairIn.dat) = some e → OutF CI CE H0 E e
theorem chkPs_strs : ∀ {ps : List (V × V)}, chkPs ps = none → ∀ p ∈ ps, p.1 = .str (strOf p.1) ∧ p.2 = .str (strOf p.2)
  | [], _, _, h => absurd h (by simp)
  | (b, a) :: r, e, p, h => by
    unfold chkPs at e
    by_cases h1 : isNm b = false
    · rw [if_pos h1] at e; cases e
    rw [if_neg h1] at e
    by_cases h2 : isNm a = false
    · rw [if_pos h2] at e; cases e
    rw [if_neg h2] at e
    by_cases h3 : b = a
    · rw [if_pos h3] at e; cases e
    rw [if_neg h3] at e
    rcases List.mem_cons.mp h with rfl | h
    · obtain ⟨z, rfl, _⟩ := isNm_str (by simpa using h1 : isNm b = true)
      obtain ⟨y, rfl, _⟩ := isNm_str (by simpa using h2 : isNm a = true)
      exact ⟨rfl, rfl⟩
    · exact chkPs_strs e p h
theorem scNotes : FnScope ["self", "pairs", "before", "after"] ["self", "pairs"] (defScope sNotesInit) := ⟨rfl, rfl, rfl, by decide +kernel, rfl, by decide +kernel, by decide +kernel⟩
section
variable {P : Program} {w : World} {K : PySem.W.Frag} {mg : Str → Option Value} {base : Heap} {CN CI CE : Addr}
theorem ok_notes {f : Addr} {fd : FuncData} (F : Fun K "__init__" "Notes.__init__" sNotesInit f fd) (T : TxtNotes K mg CN) (gN : Dfn P w K mg base (L2.CX P w) 3 "check_name" ["name"] (spCheckName CI)) (xE : NoteX P w K mg base CE) :
    FnR P w K mg base (L2.CX P w) 6 f (fun vs H Q E => ∃ ws rest, vs = ws ++ rest ∧ ws.length = 1 ∧ rest.length ≤ sizeLine ∧ ∀ p, H p = Option.none → spNotes K CN CI CE (ws ++ [V.ref p]) (upd H p (.tup rest)) Q E) := by
  obtain ⟨oc, od, kV, doc, pm, an, cdv, ct, osl, rfl, lk, hcd⟩ := F.ex
  obtain ⟨fN, dN, mN, kN, bN, GN⟩ := gN
  obtain ⟨fI, dI, TI, bI, GI⟩ := xE
  refine StX.fn_star (k := 5) (ps := ["self"]) (pv := "pairs") lk hcd scNotes StX.cxUp (StX.bind_star1 (B := fun us => bindArgs _ ⟨us, []⟩) (fun _ => by rfl) (fun _ _ _ => by rfl)) (fun A outer s H vs Q E hr h => ?_)
  obtain ⟨H0, p, dx, tp, rs, rfl, s0, hp0, hp, htp, ntp, ok, few, k, kx⟩ := h
  have hr3 : Room 3 _ := hr.mono (by decide)
  have hr2 : Room 2 _ := hr.mono (by decide)
  have r64 := Nat.lt_of_succ_lt (room65 hr)
  refine ⟨_, pss_cons (ps_for (passes_of rfl) rfl (pi_tup (pv 1)) (pg_tup rfl (pgs_cons (pg_name (i := 2) scNotes.nd rfl (Or.inl rfl)) (pgs_cons (pg_name (i := 3) scNotes.nd rfl (Or.inl rfl)) pgs_nil)))
      (pss_cons (ps_expr (pe_call GN hr3 (by rfl) mN kN bN .nil (passes_call (takes_of rfl rfl rfl rfl) (fun _ _ _ _ h => h)) (pa_cons (pv 2) pa_nil)))
      (pss_cons (ps_expr (pe_call GN hr3 (by rfl) mN kN bN .nil (passes_call (takes_of rfl rfl rfl rfl) (fun _ _ _ _ h => h)) (pa_cons (pv 3) pa_nil)))
      (pss_one (ps_if (pt_cmpR op_eq (pv 2) (pv 3) (nomark _))
        (pss_one (ps_raise rfl (takes_of rfl rfl rfl rfl) (pmk_oex TI.oex TI.iC TI.tI GI hr2 bI .nil pass0 (by rfl) TI.gC (pa_cons (pv 2) (pa_cons (pv 3) pa_nil))))) pss_nil)))))
    (pss_one (ps_fld (pv 0) (pe_callTy call_tuple_of (by rfl) T.tup (by decide +kernel) (pa_cons (pe_callB (cr_sortTx rfl r64) (by rfl) T.sor (by decide +kernel) (pa_cons (pe_callTy (cr_setTx rfl r64) (by rfl) T.set_ (by decide +kernel) (pa_cons (pv 1) pa_nil)) pa_nil)) pa_nil)) rfl)), ?_⟩
  have keep0 : ∀ {Hx : Hp} {o : HO}, Same H0 Hx → Same H0 (upd Hx p o) := fun {Hx o} s b u e => by
    rw [upd_ne (ne_of_none e hp0)]; exact s _ _ e
  refine ⟨_, rfl, tp, rfl, ⟨_, htp⟩, for_it (walk_tup (K := K) (a := tp) (xs := pRefs rs)) (fun i σ H' => ∃ (x y : Option V), σ = [some (.ref p), some (.ref tp), x, y] ∧ Same H H' ∧ chkPs ((rs.map PairIn.dat).drop i) = chkPs (rs.map PairIn.dat)) ⟨none, none, rfl, Same.refl _, rfl⟩ (fun i σ H' _ ⟨_, _, _, s, _⟩ => Same.tup s htp) ?_ ?_⟩
  · rintro i v σ H2 H3 hi ⟨x, y, rfl, s2, hc⟩ ⟨rfl, hv⟩
    have hi' : i < rs.length := by unfold pRefs at hi; rw [List.length_map] at hi; exact hi
    have hv2 : (pRefs rs)[i]? = some v := hv
    unfold pRefs at hv2
    rw [List.getElem?_map, List.getElem?_eq_getElem hi'] at hv2
    obtain rfl := Option.some.inj hv2
    have R := ok _ (List.getElem_mem hi')
    have s02 := s0.trans s2
    have R2 := R.of s02
    rw [List.drop_eq_getElem_cons (by rw [List.length_map]; exact hi'), List.getElem_map] at hc
    generalize rs[i] = r at *
    have hc1 : (if isNm r.b = false then some (NErr.inv r.b) else if isNm r.a = false then some (.inv r.a) else if r.b = r.a then some (.note r.b r.a) else chkPs ((rs.map PairIn.dat).drop (i + 1))) = chkPs (rs.map PairIn.dat) := hc
    clear hc
    refine ⟨r.t, _, rfl, R2.pair, rfl, _, _, rfl, _, _, rfl, rfl, ?_⟩
    refine ⟨_, rfl, r.b, rfl, R2.nb, fun H4 s4 hb => ?_, fun hb => Out1.of s02 (kx (.inv r.b) (by rw [← hc1, if_pos hb]))⟩
    rw [if_neg (by rw [hb]; decide)] at hc1
    refine ⟨_, rfl, r.a, rfl, R2.na.of s4, fun H5 s5 ha => ?_, fun ha => Out1.of (s02.trans s4) (kx (.inv r.a) (by rw [← hc1, if_pos ha]))⟩
    rw [if_neg (by rw [ha]; decide)] at hc1
    obtain ⟨z, ez, _⟩ := isNm_str hb
    obtain ⟨q, eq, _⟩ := isNm_str ha
    refine ⟨_, rfl, _, rfl, by rw [ez, eq]; rfl, _, rfl, ?_⟩
    by_cases same : r.b = r.a
    · refine iteY (decide_eq_true same) ?_
      exact ⟨_, rfl, _, rfl, raise_endN (OutN.of (s02.trans (s4.trans s5)) (kx (.note r.b r.a) (by rw [← hc1, if_pos same])))⟩
    · refine iteZ (decide_eq_false same) ?_
      exact ⟨_, _, rfl, s2.trans (s4.trans s5), by rw [if_neg same] at hc1; exact hc1⟩
  · rintro σ H2 ⟨x, y, rfl, s2, hc⟩
    have hn : chkPs (rs.map PairIn.dat) = none := by
      rw [← hc, List.drop_eq_nil_of_le (by unfold pRefs; simp)]
      rfl
    have stx := chkPs_strs hn
    let ks : Keyed := rs.map fun r => (r.t, [strOf r.b, strOf r.a])
    have kref : ks.map (fun q => V.ref q.1) = pRefs rs := by unfold pRefs; rw [List.map_map]; rfl
    have kkey : ks.map (·.2) = pKeys (rs.map PairIn.dat) := by unfold pKeys; rw [List.map_map, List.map_map]; rfl
    have klen : ks.length = rs.length := List.length_map _
    have s02 := s0.trans s2
    have ktxt : ∀ q ∈ ks, SqT K H2 q.1 (q.2.map V.str) := fun q hq => by
      obtain ⟨r, hr', rfl⟩ := List.mem_map.mp hq
      obtain ⟨e1, e2⟩ := stx r.dat (List.mem_map_of_mem hr')
      have g := ((ok r hr').of s02).pair
      have e1' : r.b = .str (strOf r.b) := e1
      have e2' : r.a = .str (strOf r.a) := e2
      rw [e1', e2'] at g
      exact g
    refine ⟨_, rfl, tp, ks, rfl, .inr (by rw [kref]; exact Same.tup s2 htp), ktxt, by rw [klen]; exact few, fun S L hS sub all once => ?_⟩
    dsimp only [cxOf]
    have u1 := Same.upd_new hS (o := SetTx P w S L)
    have ltxt : ∀ q ∈ L, SqT K (upd H2 S (SetTx P w S L)) q.1 (q.2.map V.str) := fun q hq => Same.tup u1 (ktxt q (sub q hq))
    refine ⟨S, L, rfl, upd_same, ltxt, fun q hq => ?_, fun L' l perm keys few' hl => ?_⟩
    · obtain ⟨r, _, e⟩ := List.mem_map.mp (sub q hq)
      rw [← e]
      exact List.cons_ne_nil _ _
    have u2 := u1.trans (Same.upd_new hl (o := .lst (L'.map fun q => V.ref q.1)))
    refine ⟨l, _, rfl, .inl ⟨SqL.of upd_same, fun t ht => ?_⟩⟩
    have u3 := u2.trans (Same.upd_new ht (o := .tup (L'.map fun q => V.ref q.1)))
    have et : upd (upd (upd H2 S (SetTx P w S L)) l (.lst (L'.map fun q => V.ref q.1))) t (.tup (L'.map fun q => V.ref q.1)) t = some (.tup (L'.map fun q => V.ref q.1)) := upd_same
    have nt : p ≠ t := ne_of_none (((s2.trans u1).trans (Same.upd_new hl (o := .lst (L'.map fun q => V.ref q.1)))) _ _ hp) ht
    have l'txt : ∀ q ∈ L', SqT K (upd (upd (upd H2 S (SetTx P w S L)) l (.lst (L'.map fun q => V.ref q.1))) t (.tup (L'.map fun q => V.ref q.1))) q.1 (q.2.map V.str) := fun q hq => Same.tup u3 (ktxt q (sub q (perm.mem_iff.mp hq)))
    have hp3 := (s2.trans u3) _ _ hp
    have s03 := s02.trans u3
    generalize upd (upd (upd H2 S (SetTx P w S L)) l (.lst (L'.map fun q => V.ref q.1))) t (.tup (L'.map fun q => V.ref q.1)) = H3 at *
    refine ⟨_, rfl, p, CN, dx, [], rfl, hp3, T.cl, T.nP, by decide, ?_⟩
    refine k hn _ (keep0 s03) ⟨dx, t, L', by rw [upd_same]; rfl, by rw [upd_ne nt.symm]; exact et, ?_, fun q hq => ?_⟩
    · rw [keys, ← kkey]
      exact norm_of once (fun z hz => by
        obtain ⟨q, hq, rfl⟩ := List.mem_map.mp hz
        exact List.mem_map_of_mem (sub q hq)) fun z hz => by
        obtain ⟨q, hq, rfl⟩ := List.mem_map.mp hz
        exact all q hq
    · have hq1 : q ∈ ks := sub q (perm.mem_iff.mp hq)
      have hpn : ∀ o, H3 q.1 = some o → q.1 ≠ p ∨ True := fun _ _ => .inr trivial
      have g0 : SqT K H0 q.1 (q.2.map V.str) := by
        obtain ⟨r, hr', rfl⟩ := List.mem_map.mp hq1
        obtain ⟨e1, e2⟩ := stx r.dat (List.mem_map_of_mem hr')
        have g := (ok r hr').pair
        have e1' : r.b = .str (strOf r.b) := e1
        have e2' : r.a = .str (strOf r.a) := e2
        rw [e1', e2'] at g
        exact g
      exact Same.tup (keep0 s03) g0
end
end Dl

/-! len(o) and o[k] by the class's own __len__ and __getitem__ -/
namespace Dl
open PySem PySem.Spec PyProof.Rows L2
section
variable {X : Cx} {CX : CXT} {k : Nat} {C f : Addr} {fd : FuncData} {ps : List Str} {sp : Sp} {E : XK}
theorem run_at {A : Around} {pins : List (Addr × Obj)} {σ : L2.St} {H : Hp} {s : Shared} {Q : VK} {us : List Value} {vs : List V} (hA : A.frames = X.A.frames) (F : FnOk X.prog X.w X.K X.mg X.base CX k f fd ps sp) (hr : Room k A)
    (hb : Binds X.K fd ps []) (hx : Passes CX X E) (I : Inv X pins σ H s) (r : Vals vs us) (h : sp vs H Q E) : wpAny (model X.prog X.w) A (call (.ref f) us) (EP X pins σ Q) X.xe s := by
  have e0 : Env0 X.prog X.w X.K X.mg X.base A X.stack s H := by
    have e := I.env0
    exact ⟨by rw [hA]; exact e.frames, e.mod, e.bs, e.bsz, e.funs, e.frf, e.hok, e.bare⟩
  have hl := F.len _ _ _ _ h
  refine wpAny_call (codeAny_mono (F.run A X.stack s H ⟨us, []⟩ us vs Q E hr e0 (by
    have := hb s us I.kIn (by rw [List.append_nil, ← r.length]; exact hl)
    simpa using this) r h) fun r s' hq => ?_)
  cases r with
  | error e => exact hx pins σ H s e s' I hq
  | ok fl =>
    cases fl with
    | ret u => exact I.after hq
    | next => exact False.elim hq
    | brk => exact False.elim hq
    | cont => exact False.elim hq
def rLenOwn (C : Addr) (sp : Sp) (E : XK) : List V → Hp → VK → Prop := fun xs H Q => ∃ a dx fs, xs = [.ref a] ∧ H a = some (.ins C dx fs) ∧ sp [.ref a] H (fun v H' => ∃ n : Nat, v = .int (n : Int) ∧ n ≤ 1000 ∧ Q (.int (n : Int)) H') E
theorem call_lenOwn (F : FnOk X.prog X.w X.K X.mg X.base CX k f fd ps sp) (hs : PySem.W.findIn X.K (.ref C) "__len__" = some (some (.ref f))) (hf : PySem.W.isFn X.K (.ref f) = true) (hr : Room (k + 1) X.A) (hb : Binds X.K fd ps []) (hx : Passes CX X E) :
    CallR X (.builtin "len") (rLenOwn C sp E) := by
  intro pins s σ H xs us Q I r h
  obtain ⟨a, dx, fs, rfl, ha, hsp⟩ := h
  obtain ⟨u, rfl, rx⟩ := vals1 r
  cases rx
  obtain ⟨mA, J, _⟩ := ins_get I.hok ha
  obtain ⟨od, J, _⟩ := J.look
  obtain ⟨m, hF⟩ := I.fr
  refine PySem.W.len_K hF I.ok.mod.kin J hs hf ?_
  refine wpAny_mono (run_at (A := X.A.in1) rfl F hr.in1 hb hx I (show Vals [V.ref a] [Value.ref a] from .cons rfl .nil) hsp) (fun v s' hv => ?_) fun _ _ y => y
  obtain ⟨z, H', I', rz, n, ez, hn, q⟩ := hv
  subst ez
  obtain ⟨t, rfl⟩ := rz
  exact ⟨⟨by omega, by omega⟩, ⟨.int n, H', I'.tok _, ⟨_, rfl⟩, q⟩⟩
def rIxOwn (C : Addr) (sp : Sp) (E : XK) : R2 := fun x y H Q => ∃ a dx fs, x = .ref a ∧ H a = some (.ins C dx fs) ∧ sp [.ref a, y] H Q E
theorem pe_ixOwn {a b : Expr} {ta tb : TE} {pos : Pos} (F : FnOk X.prog X.w X.K X.mg X.base CX k f fd ps sp) (hs : PySem.W.findIn X.K (.ref C) "__getitem__" = some (some (.ref f))) (hfn : PySem.W.fnIn X.K f = true) (hf : PySem.W.isFn X.K (.ref f) = true)
    (hr : Room (k + 1) X.A) (hb : Binds X.K fd ps []) (hx : Passes CX X E) (ha : PE X a ta) (hb' : PE X b tb)
    (hsl : ∀ v u, subscripted b true v u = runValue (.builtin "lifetime.subscript" ⟨[v, u], []⟩) := by intros; rfl) : PE X (.Subscript a b pos) (tOp (rIxOwn C sp E) ta tb) := by
  refine ⟨fun pins s σ H Q I h => ?_⟩
  refine Subscript_ (binT ha hb' I h fun v u s2 x y H2 I2 rx ry q => ?_)
  obtain ⟨p, dx, fs, rfl, hp, hsp⟩ := q
  cases rx
  obtain ⟨mA, J, _⟩ := ins_get I2.hok hp
  obtain ⟨od, J, _⟩ := J.look
  obtain ⟨m, hF⟩ := I2.fr
  exact PySem.W.sub_K hF I2.ok.mod.kin J hs hfn hf (run_at (A := X.A.in1) rfl F hr.in1 hb hx I2 (show Vals [V.ref p, y] [Value.ref p, u] from .cons rfl (.cons ry .nil)) hsp) (hsl _ _)
end
end Dl

/-! a + b, a - b by an own method, both of one class; v in a by an own __contains__: my own rules -/
namespace Dl
open PySem PySem.Spec PyProof.Rows L2
section
variable {X : Cx} {CX : CXT} {k : Nat} {C f : Addr} {fd : FuncData} {ps : List Str} {sp : Sp} {E : XK}
theorem no_notimpl {z : V} : ¬ RelV z .notImplemented := by
  intro r
  cases z <;> first
    | (obtain ⟨t, e⟩ := (show ∃ t, Value.notImplemented = _ from r); cases e; done)
    | (have e : Value.notImplemented = _ := r; cases e; done)
def rBinOwn (C : Addr) (sp : Sp) (E : XK) : R2 := fun x y H Q => ∃ a dx fs b dy gs, x = .ref a ∧ H a = some (.ins C dx fs) ∧ y = .ref b ∧ H b = some (.ins C dy gs) ∧ sp [x, y] H Q E
theorem op_binOwn {op : Operator} (F : FnOk X.prog X.w X.K X.mg X.base CX k f fd ps sp) (self1 : PySem.W.selfFirst X.K C = true) (hs : PySem.W.findIn X.K (.ref C) (PySem.dunder op.info.2) = some (some (.ref f))) (hf : PySem.W.isFn X.K (.ref f) = true)
    (hr : Room k X.A) (hb : Binds X.K fd ps []) (hx : Passes CX X E) : OpR X (binaryOp op) (rBinOwn C sp E) := by
  intro pins s σ H x y v u Q I rx ry h
  obtain ⟨a, dx, fs, b, dy, gs, rfl, ha, rfl, hb2, hsp⟩ := h
  cases rx
  cases ry
  obtain ⟨mA, J, _⟩ := ins_get I.hok ha
  obtain ⟨od, J, _⟩ := J.look
  obtain ⟨mB, J2, _⟩ := ins_get I.hok hb2
  obtain ⟨od2, J2, _⟩ := J2.look
  obtain ⟨m, hF⟩ := I.fr
  refine PySem.W.binop_K hF I.ok.mod.kin J J2.type self1 hs hf ?_
  refine wpAny_mono (run_at (A := X.A) rfl F hr hb hx I (show Vals [V.ref a, .ref b] [Value.ref a, .ref b] from .cons rfl (.cons rfl .nil)) hsp) (fun v s' hv => ?_) fun _ _ e => e
  have hv2 := hv
  obtain ⟨z, H', I', rz, q⟩ := hv2
  cases v <;> first | exact hv | exact (no_notimpl rz).elim
def rInOwn (C : Addr) (sp : Sp) (E : XK) : R2 := fun x y H Q => ∃ a dx fs, y = .ref a ∧ H a = some (.ins C dx fs) ∧ sp [y, x] H (fun z H' => ∃ c : Bool, z = .bl c ∧ Q (.bl c) H') E
theorem op_inOwn (F : FnOk X.prog X.w X.K X.mg X.base CX k f fd ps sp) (hs : PySem.W.findIn X.K (.ref C) "__contains__" = some (some (.ref f))) (hf : PySem.W.isFn X.K (.ref f) = true)
    (hr : Room k X.A) (hb : Binds X.K fd ps []) (hx : Passes CX X E) : OpR X (compareOp .In) (rInOwn C sp E) := by
  intro pins s σ H x y v u Q I rx ry h
  obtain ⟨a, dx, fs, rfl, ha, hsp⟩ := h
  cases ry
  obtain ⟨mA, J, _⟩ := ins_get I.hok ha
  obtain ⟨od, J, _⟩ := J.look
  obtain ⟨m, hF⟩ := I.fr
  refine PySem.W.in_K hF I.ok.mod.kin J hs hf ?_
  refine wpAny_mono (run_at (A := X.A) rfl F hr hb hx I (show Vals [V.ref a, x] [Value.ref a, v] from .cons rfl (.cons rx .nil)) hsp) (fun r s' hv => ?_) fun _ _ e => e
  obtain ⟨z, H', I', rz, c, rfl, q⟩ := hv
  have er : r = .bool c := rz
  subst er
  exact wpAny_truthy_bool ⟨.bl c, H', I', rfl, q⟩
def rUnOwn (C : Addr) (sp : Sp) (E : XK) : V → Hp → VK → Prop := fun x H Q => ∃ a dx fs, x = .ref a ∧ H a = some (.ins C dx fs) ∧ sp [x] H Q E
theorem un_negOwn (F : FnOk X.prog X.w X.K X.mg X.base CX k f fd ps sp) (hs : PySem.W.findIn X.K (.ref C) "__neg__" = some (some (.ref f))) (hf : PySem.W.isFn X.K (.ref f) = true)
    (hr : Room k X.A) (hb : Binds X.K fd ps []) (hx : Passes CX X E) : UnR X (unaryOp .USub) (rUnOwn C sp E) := by
  intro pins s σ H x v Q I rx h
  obtain ⟨a, dx, fs, rfl, ha, hsp⟩ := h
  cases rx
  obtain ⟨mA, J, _⟩ := ins_get I.hok ha
  obtain ⟨od, J, _⟩ := J.look
  unfold unaryOp
  refine wpAny_holding ?_
  show wpAny _ _ (callSpecial? (.ref a) "__neg__" [] >>= _) _ _ _
  refine wpAny_bind (PySem.W.special_fn I.kIn J hs (beq_iff_eq.mp hf) ?_)
  refine wpAny_mono (run_at (A := X.A) rfl F hr hb hx I (show Vals [V.ref a] [Value.ref a] from .cons rfl .nil) hsp) (fun r s' hv => ?_) fun _ _ e => e
  exact wpAny_pure hv
/-- C(*y), the __init__ with a star parameter -/
def tMakeR1 (K : PySem.W.Frag) (C : Addr) (sp : Sp) (E : XK) (te : TE) : TE := fun σ H Q => te σ H fun y H1 => ∃ a xs, y = V.ref a ∧ (SqT K H1 a xs ∨ SqL K H1 a xs) ∧ ∀ x dx, H1 x = Option.none → H1 dx = Option.none → dx ≠ x →
  sp (V.ref x :: xs) (upd (upd H1 dx (.own x)) x (.ins C dx [])) (fun v H2 => v = .non ∧ Q (.ref x) H2) E
theorem pe_makeR1 {x : Str} {e : Expr} {te : TE} {p at_ pos : Pos} (M : Mk X.K C f) (F : FnR X.prog X.w X.K X.mg X.base CX k f sp) (room : Room (k + 1) X.A) (glob : Gl X x) (here : X.mg x = some (.ref C)) (quiet : Passes CX X E) (arg : PE X e te)
    (dbg : (x == ("__debug__" : Str)) = false := by decide) (one : starEach [.Starred e at_] X.env = [(true, eval e X.env)] := by rfl) : PE X (.Call (.Name x p) [.Starred e at_] [] pos) (tMakeR1 X.K C sp E te) := by
  constructor
  intro qs t τ G W J want
  apply wpAny_Call_Name_kw
  apply ld_glob J glob here _ dbg
  apply PySem.W.callWith_S (h₀ := X.base) J.ok.mod.kin M.kp _ one
  apply thn (arg.run qs t τ G _ J want)
  rintro v t1 ⟨y, G1, J1, rel, a, xs, rfl, seq, go⟩
  cases rel
  exact StX.star_any J1 seq fun us t2 J2 rv => ⟨J2.kIn, StX.run_makeR M F room quiet J2 rv go⟩
theorem pe_makeR0 {x : Str} {p pos : Pos} (M : Mk X.K C f) (F : FnR X.prog X.w X.K X.mg X.base CX k f sp) (room : Room (k + 1) X.A) (glob : Gl X x) (here : X.mg x = some (.ref C)) (quiet : Passes CX X E)
    (dbg : (x == ("__debug__" : Str)) = false := by decide) : PE X (.Call (.Name x p) [] [] pos) (StX.tMakeR C sp E tNil) := by
  constructor
  intro qs t τ G W J want
  apply wpAny_Call_Name_kw
  apply ld_glob J glob here _ dbg
  exact PySem.W.callWith_K0 J.kIn M.kp (StX.run_makeR (us := []) M F room quiet J .nil want)
end
end Dl

/-! Notes: the methods of the operators -/
namespace Dl
open PySem PySem.Spec PyProof.Rows L2
section
variable {X : Cx}
def rInT (K : PySem.W.Frag) (neg : Bool) : R2 := fun x y H Q => ∃ d ds, Dp K H x d ∧ Dp K H y (.tuple ds) ∧ SeqAt.shaped d = true ∧ SeqAt.shaped (.tuple ds) = true ∧ Q (.bl (if neg = true then !ds.any fun z => PyData.eqv z d else ds.any fun z => PyData.eqv z d)) H
theorem tup_can {ds : List PyData} (h : SeqAt.shaped (.tuple ds) = true) : PyData.canLayAll0 ds = true := by
  unfold SeqAt.shaped at h
  rw [Bool.and_eq_true, PyData.canLay0] at h
  exact h.1
theorem op_inT (hu : X.A.units + 65 < cLine) : OpR X (compareOp .In) (rInT X.K false) := by
  intro pins s σ H x y v u Q I rx ry h
  obtain ⟨d, ds, hd, he, sd, se, q⟩ := h
  obtain ⟨as, r1⟩ := Dp.reads I d x v hd rx
  obtain ⟨bs, r2⟩ := Dp.reads I (.tuple ds) y u he ry
  exact SeqAt.in_tuple_reads r2 r1 (tup_can se) (SeqAt.canLay_of_shaped sd) (room_in_shaped sd hu) ⟨.bl _, H, I, rfl, q⟩
theorem op_notInT (hu : X.A.units + 65 < cLine) : OpR X (compareOp .NotIn) (rInT X.K true) := by
  intro pins s σ H x y v u Q I rx ry h
  obtain ⟨d, ds, hd, he, sd, se, q⟩ := h
  obtain ⟨as, r1⟩ := Dp.reads I d x v hd rx
  obtain ⟨bs, r2⟩ := Dp.reads I (.tuple ds) y u he ry
  exact SeqAt.notIn_tuple_reads r2 r1 (tup_can se) (SeqAt.canLay_of_shaped sd) (room_in_shaped sd hu) ⟨.bl _, H, I, rfl, q⟩
end
/-! ### keys -/
structure GoodP (k : List Str) : Prop where
  ex : ∃ b a, k = [b, a] ∧ validN b = true ∧ validN a = true ∧ b ≠ a
def GoodK (ks : List (List Str)) : Prop := ∀ k ∈ ks, GoodP k
def k0 (k : List Str) : Str := k.getD 0 ""
def k1 (k : List Str) : Str := k.getD 1 ""
theorem GoodP.eq {k : List Str} (g : GoodP k) : k = [k0 k, k1 k] ∧ validN (k0 k) = true ∧ validN (k1 k) = true ∧ k0 k ≠ k1 k := by
  obtain ⟨b, a, rfl, h1, h2, h3⟩ := g.ex
  exact ⟨rfl, h1, h2, h3⟩
theorem GoodP.swap {k : List Str} (g : GoodP k) : GoodP [k1 k, k0 k] := by
  obtain ⟨_, h1, h2, h3⟩ := g.eq
  exact ⟨_, _, rfl, h2, h1, fun e => h3 e.symm⟩
def swapK (k : List Str) : List Str := [k1 k, k0 k]
theorem good_norm {ks : List (List Str)} (g : GoodK ks) : GoodK (normK ks) := fun k hk => g k (mem_norm.mp hk)
def rsOf (L : Keyed) : List PairIn := L.map fun q => ⟨q.1, .str (k0 q.2), .str (k1 q.2)⟩
theorem rs_refs (L : Keyed) : pRefs (rsOf L) = L.map fun q => V.ref q.1 := by
  unfold pRefs rsOf
  rw [List.map_map]
  rfl
theorem rs_len (L : Keyed) : (rsOf L).length = L.length := List.length_map ..
theorem rs_keys {L : Keyed} (g : GoodK (L.map (·.2))) : pKeys ((rsOf L).map PairIn.dat) = L.map (·.2) := by
  unfold pKeys rsOf
  rw [List.map_map, List.map_map]
  refine List.map_congr_left fun q hq => ?_
  have e := (g q.2 (List.mem_map_of_mem hq)).eq.1
  show [strOf (.str (k0 q.2)), strOf (.str (k1 q.2))] = q.2
  exact e.symm
theorem rs_chk : ∀ {L : Keyed}, GoodK (L.map (·.2)) → chkPs ((rsOf L).map PairIn.dat) = none
  | [], _ => rfl
  | q :: r, g => by
    obtain ⟨_, h1, h2, h3⟩ := (g q.2 (List.mem_map_of_mem (List.mem_cons_self ..))).eq
    have ih := rs_chk (L := r) fun k hk => g k (by rw [List.map_cons]; exact List.mem_cons_of_mem _ hk)
    show chkPs ((V.str (k0 q.2), V.str (k1 q.2)) :: (rsOf r).map PairIn.dat) = none
    unfold chkPs
    have e1 : isNm (.str (k0 q.2)) = true := h1
    have e2 : isNm (.str (k1 q.2)) = true := h2
    rw [if_neg (by rw [e1]; decide), if_neg (by rw [e2]; decide), if_neg (fun e => h3 (V.str.inj e))]
    exact ih
theorem rs_ok {K : PySem.W.Frag} {H : Hp} {L : Keyed} (g : GoodK (L.map (·.2))) (h : ∀ q ∈ L, SqT K H q.1 (q.2.map V.str)) : ∀ r ∈ rsOf L, PairOk K H r := fun r hr => by
  obtain ⟨q, hq, rfl⟩ := List.mem_map.mp hr
  obtain ⟨e, h1, h2, _⟩ := (g q.2 (List.mem_map_of_mem hq)).eq
  have s := h q hq
  rw [e] at s
  exact ⟨s, Nat.le_of_lt (small1000 (by have := (valid_small h1).1; omega)), Nat.le_of_lt (small1000 (by have := (valid_small h2).1; omega))⟩
/-! ### keys as data -/
theorem tx_eqv (k l : List Str) : PyData.eqv (txData k) (txData l) = decide (k = l) := by
  unfold txData
  rw [PyData.eqv, eqvAll_strs]
theorem tx_any (ks : List (List Str)) (k : List Str) : (ks.map txData).any (fun z => PyData.eqv z (txData k)) = decide (k ∈ ks) := by
  rw [List.any_map]
  induction ks with
  | nil => simp
  | cons a r ih =>
    rw [List.any_cons, ih]
    show (PyData.eqv (txData a) (txData k) || decide (k ∈ r)) = _
    rw [tx_eqv]
    by_cases e : a = k
    · subst e; simp
    · have e2 : ¬ k = a := fun q => e q.symm
      simp [e, e2]
theorem tx_can {k : List Str} (g : GoodP k) : PyData.canLay0 (txData k) = true := by
  obtain ⟨b, a, rfl, h1, h2, _⟩ := g.ex
  have c1 := valid_can h1
  have c2 := valid_can h2
  unfold canS at c1 c2
  unfold txData
  simp only [PyData.canLay0] at c1 c2
  simp only [List.map_cons, List.map_nil, PyData.canLay0, PyData.canLayAll0, c1, c2, Bool.and_true]
theorem tx_dep (k : List Str) : (txData k).depth ≤ 1 := by
  unfold txData
  rw [PyData.depth, depthAll_strs]
  omega
theorem tx_canAll : ∀ {ks : List (List Str)}, GoodK ks → PyData.canLayAll0 (ks.map txData) = true
  | [], _ => by simp [PyData.canLayAll0]
  | k :: r, g => by rw [List.map_cons, PyData.canLayAll0, tx_can (g k (List.mem_cons_self ..)), tx_canAll fun z hz => g z (List.mem_cons_of_mem _ hz)]; rfl
theorem tx_depAll : ∀ ks : List (List Str), PyData.depthAll (ks.map txData) ≤ 1
  | [] => by simp [PyData.depthAll]
  | k :: r => by rw [List.map_cons, PyData.depthAll]; have := tx_dep k; have := tx_depAll r; omega
theorem tx_shaped {k : List Str} (g : GoodP k) : SeqAt.shaped (txData k) = true := by
  unfold SeqAt.shaped
  rw [tx_can g, Bool.true_and]
  exact decide_eq_true (by have := tx_dep k; omega)
theorem txs_shaped {ks : List (List Str)} (g : GoodK ks) : SeqAt.shaped (.tuple (ks.map txData)) = true ∧ SeqAt.shaped (.list (ks.map txData)) = true := by
  have d := tx_depAll ks
  unfold SeqAt.shaped
  rw [PyData.canLay0, PyData.canLay0, tx_canAll g, Bool.true_and, PyData.depth, PyData.depth]
  exact ⟨decide_eq_true (by omega), decide_eq_true (by omega)⟩
theorem tx_dp {K : PySem.W.Frag} {H : Hp} {a : Addr} {k : List Str} (h : SqT K H a (k.map V.str)) : Dp K H (.ref a) (txData k) := .tup h (dpAll_strs k)
theorem txs_dp {K : PySem.W.Frag} {H : Hp} : ∀ {L : Keyed}, (∀ q ∈ L, SqT K H q.1 (q.2.map V.str)) → DpAll K H (L.map fun q => V.ref q.1) ((L.map (·.2)).map txData)
  | [], _ => .nil
  | q :: r, h => .cons (tx_dp (h q (List.mem_cons_self ..))) (txs_dp fun z hz => h z (List.mem_cons_of_mem _ hz))
theorem txs_eqv (ks ls : List (List Str)) : PyData.eqv (.tuple (ks.map txData)) (.tuple (ls.map txData)) = decide (ks = ls) ∧ PyData.eqv (.list (ks.map txData)) (.list (ls.map txData)) = decide (ks = ls) := by
  have all : ∀ ks ls : List (List Str), PyData.eqvAll (ks.map txData) (ls.map txData) = decide (ks = ls) := by
    intro ks
    induction ks with
    | nil => intro ls; cases ls <;> simp [PyData.eqvAll]
    | cons k r ih =>
      intro ls
      cases ls with
      | nil => simp [PyData.eqvAll]
      | cons l q =>
        rw [List.map_cons, List.map_cons, PyData.eqvAll, ih, tx_eqv]
        by_cases h1 : k = l <;> by_cases h2 : r = q <;> simp [h1, h2]
  rw [PyData.eqv, PyData.eqv, all]
  exact ⟨rfl, rfl⟩
end Dl

namespace Dl
open PySem PySem.Spec PyProof.Rows L2
def starSp (n : Nat) (sp : Sp) : Sp := fun vs H Q E => ∃ ws rest, vs = ws ++ rest ∧ ws.length = n ∧ rest.length ≤ sizeLine ∧ ∀ p, H p = Option.none → sp (ws ++ [V.ref p]) (upd H p (.tup rest)) Q E
theorem note_any {K : PySem.W.Frag} {CN CI CE : Addr} {H : Hp} {rs : List PairIn} {Q : Hp → Prop} {E : XK} {x dx : Addr} (nx : H x = none) (ndx : H dx = none) (nex : dx ≠ x) (ok : ∀ r ∈ rs, PairOk K H r) (few : rs.length < 64)
    (k : chkPs (rs.map PairIn.dat) = none → ∀ H8, Same H H8 → NotesAt K CN H8 x (normK (pKeys (rs.map PairIn.dat))) → Q H8) (kx : ∀ e, chkPs (rs.map PairIn.dat) = some e → OutF CI CE H E e) :
    starSp 1 (spNotes K CN CI CE) (.ref x :: pRefs rs) (upd (upd H dx (.own x)) x (.ins CN dx [])) (fun v H2 => v = .non ∧ Q H2) E := by
  refine ⟨[.ref x], pRefs rs, rfl, rfl, by unfold pRefs; rw [List.length_map]; exact Nat.le_of_lt (small1000 (by omega)), fun p hp => ?_⟩
  have npx : x ≠ p := ne_of_none upd_same hp
  have sm : Same H (upd (upd H dx (.own x)) x (.ins CN dx [])) := fun c o e => by
    rw [upd_ne (ne_of_none e nx), upd_ne (ne_of_none e ndx)]; exact e
  exact ⟨H, x, dx, p, rs, rfl, sm.trans (Same.upd_new hp), nx, by rw [upd_ne npx, upd_same], SqT.of upd_same, npx.symm, ok, few, fun hn H' s' at_ => ⟨rfl, k hn H' s' at_⟩, kx⟩
/-- the same from keyed pairs -/
theorem note_keyed {K : PySem.W.Frag} {CN CI CE : Addr} {H : Hp} {L : Keyed} {Q : Hp → Prop} {E : XK} {x dx : Addr} (nx : H x = none) (ndx : H dx = none) (nex : dx ≠ x) (g : GoodK (L.map (·.2))) (txt : ∀ q ∈ L, SqT K H q.1 (q.2.map V.str)) (few : L.length < 64)
    (k : ∀ H8, Same H H8 → NotesAt K CN H8 x (normK (L.map (·.2))) → Q H8) :
    starSp 1 (spNotes K CN CI CE) (.ref x :: (L.map fun q => V.ref q.1)) (upd (upd H dx (.own x)) x (.ins CN dx [])) (fun v H2 => v = .non ∧ Q H2) E := by
  rw [← rs_refs]
  refine note_any nx ndx nex (rs_ok g txt) (by rw [rs_len]; exact few) (fun _ H8 s8 at_ => k H8 s8 ?_) (fun e he => by rw [rs_chk g] at he; cases he)
  rw [rs_keys g] at at_
  exact at_
structure NoteM (P : Program) (w : World) (K : PySem.W.Frag) (mg : Str → Option Value) (base : Heap) (CN CI CE : Addr) : Prop where
  cl : Cls K CN
  nP : NoAttr K CN "pairs"
  gN : mg "Notes" = some (.ref CN)
  init : ∃ fN, Mk K CN fN ∧ FnR P w K mg base (L2.CX P w) 6 fN (starSp 1 (spNotes K CN CI CE))
theorem pfN (v : V) : List.lookup ("pairs" : Str) [("pairs", v)] = some v := by rw [List.lookup_cons, beq_self_eq_true]
def spNAdd (K : PySem.W.Frag) (CN : Addr) : Sp := fun vs H Q _ => ∃ (p q : Addr) (ks ls : List (List Str)), vs = [.ref p, .ref q] ∧ NotesAt K CN H p ks ∧ NotesAt K CN H q ls ∧ GoodK ks ∧ GoodK ls ∧ ks.length + ls.length < 64 ∧
  ∀ H' r, Same H H' → H r = none → NotesAt K CN H' r (normK (ks ++ ls)) → Q (.ref r) H'
def spNSub (K : PySem.W.Frag) (CN : Addr) : Sp := fun vs H Q _ => ∃ (p q : Addr) (ks ls : List (List Str)), vs = [.ref p, .ref q] ∧ NotesAt K CN H p ks ∧ NotesAt K CN H q ls ∧ GoodK ks ∧ GoodK ls ∧ ks.length < 64 ∧
  ∀ H' r, Same H H' → H r = none → NotesAt K CN H' r (normK (ks.filter fun k => decide (k ∉ ls))) → Q (.ref r) H'
def spNNeg (K : PySem.W.Frag) (CN : Addr) : Sp := fun vs H Q _ => ∃ (p : Addr) (ks : List (List Str)), vs = [.ref p] ∧ NotesAt K CN H p ks ∧ GoodK ks ∧ ks.length < 64 ∧
  ∀ H' r, Same H H' → H r = none → NotesAt K CN H' r (normK (ks.map swapK)) → Q (.ref r) H'
def spNIn (K : PySem.W.Frag) (CN : Addr) : Sp := fun vs H Q _ => ∃ (p t : Addr) (ks : List (List Str)) (k : List Str), vs = [.ref p, .ref t] ∧ NotesAt K CN H p ks ∧ GoodK ks ∧ GoodP k ∧ SqT K H t (k.map V.str) ∧ Q (.bl (decide (k ∈ ks))) H
def spNLen (K : PySem.W.Frag) (CN : Addr) : Sp := fun vs H Q _ => ∃ (p : Addr) (ks : List (List Str)), vs = [.ref p] ∧ NotesAt K CN H p ks ∧ Q (.int ((ks.length : Nat) : Int)) H
section
variable {P : Program} {w : World} {K : PySem.W.Frag} {mg : Str → Option Value} {base : Heap} {CN CI CE : Addr}
theorem scNAdd : FnScope ["self", "other", "pairs"] ["self", "other"] (defScope sNotesAdd) := ⟨rfl, rfl, rfl, by decide +kernel, rfl, by decide +kernel, by decide +kernel⟩
theorem ok_nadd {f : Addr} {fd : FuncData} (F : Fun K "__add__" "Notes.__add__" sNotesAdd f fd) (T : NoteM P w K mg base CN CI CE) : FnOk P w K mg base CX0 8 f fd ["self", "other"] (spNAdd K CN) := by
  obtain ⟨fN, M, GM⟩ := T.init
  refine F.ok scNAdd (fun vs H Q E h => ?_) (fun cdv A outer s H vs Q E hr h => ?_)
  · obtain ⟨p, q, ks, ls, rfl, _⟩ := h
    rfl
  · obtain ⟨p, q, ks, ls, rfl, hN1, hN2, g1, g2, few, k⟩ := h
    obtain ⟨dx, tp, L, hp, htp, e1, hL⟩ := hN1.ex
    obtain ⟨dy, tq, L', hq, htq, e2, hL'⟩ := hN2.ex
    have hr7 : Room 7 _ := hr
    refine ⟨_, pss_cons (ps_set (i := 2) scNAdd.nd rfl (Or.inl rfl) (pe_op op_catA (pe_fld (pv 0) rfl) (pe_fld (pv 1) rfl))) (pss_one (ps_ret (pe_makeR1 M GM hr7 (by rfl) T.gN passL (pv 2)))), ?_⟩
    have l1 : L.length = ks.length := by rw [← e1, List.length_map]
    have l2 : L'.length = ls.length := by rw [← e2, List.length_map]
    have both : (L ++ L').map (·.2) = ks ++ ls := by rw [List.map_append, e1, e2]
    have fin : ∀ (t : Addr) (H1 : Hp), Same H H1 → SqT K H1 t ((L ++ L').map fun q => V.ref q.1) → ∃ a xs, V.ref t = .ref a ∧ (SqT K H1 a xs ∨ SqL K H1 a xs) ∧ ∀ x dx, H1 x = none → H1 dx = none → dx ≠ x →
        starSp 1 (spNotes K CN CI CE) (.ref x :: xs) (upd (upd H1 dx (.own x)) x (.ins CN dx [])) (fun v H2 => v = .non ∧ Q (.ref x) H2) E0 := by
      intro t H1 s1 st
      refine ⟨t, _, rfl, .inl st, fun x dx nx ndx nex => note_keyed nx ndx nex (by rw [both]; exact fun z hz => (List.mem_append.mp hz).elim (g1 z) (g2 z)) (fun z hz => ?_) (by rw [List.length_append]; omega) fun H8 s8 at_ => ?_⟩
      · rcases List.mem_append.mp hz with h | h
        · exact Same.tup s1 (hL z h)
        · exact Same.tup s1 (hL' z h)
      · rw [both] at at_
        exact k H8 x (s1.trans s8) (s1.free nx) at_
    refine ⟨_, rfl, p, CN, dx, _, _, rfl, hp, T.cl, T.nP, pfN _, _, rfl, q, CN, dy, _, _, rfl, hq, T.cl, T.nP, pfN _, tp, tq, _, _, rfl, rfl, SqT.of htp, SqT.of htq, Nat.le_of_lt (small1000 (by rw [List.length_map, List.length_map]; omega)), fun e => ?_, fun _ e => ?_, fun _ _ t ht => ?_⟩
    · have e0 : L = [] := List.map_eq_nil_iff.mp e
      exact ⟨_, rfl, fin tq H (Same.refl _) (by rw [e0, List.nil_append]; exact SqT.of htq)⟩
    · have e0 : L' = [] := List.map_eq_nil_iff.mp e
      exact ⟨_, rfl, fin tp H (Same.refl _) (by rw [e0, List.append_nil]; exact SqT.of htp)⟩
    · exact ⟨_, rfl, fin t _ (Same.upd_new ht) (by rw [List.map_append]; exact SqT.of upd_same)⟩
theorem scNIn : FnScope ["self", "x"] ["self", "x"] (defScope sNotesContains) := ⟨rfl, rfl, rfl, by decide +kernel, rfl, by decide +kernel, by decide +kernel⟩
theorem ok_nin {f : Addr} {fd : FuncData} (F : Fun K "__contains__" "Notes.__contains__" sNotesContains f fd) (T : NoteM P w K mg base CN CI CE) : FnOk P w K mg base CX0 1 f fd ["self", "x"] (spNIn K CN) := by
  refine F.ok scNIn (fun vs H Q E h => ?_) (fun cdv A outer s H vs Q E hr h => ?_)
  · obtain ⟨p, t, ks, kk, rfl, _⟩ := h
    rfl
  · obtain ⟨p, t, ks, kk, rfl, hN, g, gk, ht, k⟩ := h
    obtain ⟨dx, tp, L, hp, htp, e1, hL⟩ := hN.ex
    have r65 := room65 hr
    refine ⟨_, pss_one (ps_ret (pe_cmpR (op_inT r65) (pv 1) (pe_fld (pv 0) rfl) (by rfl))), ?_⟩
    refine ⟨_, rfl, _, rfl, p, CN, dx, _, _, rfl, hp, T.cl, T.nP, pfN _, txData kk, ks.map txData, tx_dp ht, .tup (SqT.of htp) (by rw [← e1]; exact txs_dp hL), tx_shaped gk, (txs_shaped g).1, ?_⟩
    rw [tx_any]
    exact k
theorem scNLen : FnScope ["self"] ["self"] (defScope sNotesLen) := ⟨rfl, rfl, rfl, by decide +kernel, rfl, by decide +kernel, by decide +kernel⟩
theorem ok_nlen {f : Addr} {fd : FuncData} (F : Fun K "__len__" "Notes.__len__" sNotesLen f fd) (T : NoteM P w K mg base CN CI CE) (ml : mg "len" = none) : FnOk P w K mg base CX0 1 f fd ["self"] (spNLen K CN) := by
  refine F.ok scNLen (fun vs H Q E h => ?_) (fun cdv A outer s H vs Q E hr h => ?_)
  · obtain ⟨p, ks, rfl, _⟩ := h
    rfl
  · obtain ⟨p, ks, rfl, hN, k⟩ := h
    obtain ⟨dx, tp, L, hp, htp, e1, hL⟩ := hN.ex
    refine ⟨_, pss_one (ps_ret (pe_callB call_len_seq (by rfl) ml PySem.boot_len (pa_cons (pe_fld (pv 0) rfl) pa_nil))), ?_⟩
    refine ⟨_, rfl, p, CN, dx, _, _, rfl, hp, T.cl, T.nP, pfN _, tp, _, rfl, .inr (SqT.of htp), ?_⟩
    rw [List.length_map, show L.length = ks.length by rw [← e1, List.length_map]]
    exact k
end
end Dl

namespace Dl
open PySem PySem.Spec PyProof.Rows L2
/-- what == answers: for another type, for two notes -/
def spNEq (K : PySem.W.Frag) (CN : Addr) : Sp := fun vs H Q _ => (∃ (a : Addr) (y : V) (t : Value), vs = [.ref a, y] ∧ TyOf K H y t ∧ PySem.W.kitOne K t (.ref CN) = some false ∧ Q (.bl false) H) ∨
  ∃ (a b : Addr) (ks ls : List (List Str)), vs = [.ref a, .ref b] ∧ NotesAt K CN H a ks ∧ NotesAt K CN H b ls ∧ GoodK ks ∧ GoodK ls ∧ Q (.bl (decide (ks = ls))) H
def noteText (k : List Str) : Str := ((Str.empty ++ k0 k) ++ (" < " : Str)) ++ k1 k
def notesText (ks : List (List Str)) : Str := Txt.join ", " (ks.map noteText)
def spNStr (K : PySem.W.Frag) (CN : Addr) : Sp := fun vs H Q _ => ∃ (p : Addr) (ks : List (List Str)), vs = [.ref p] ∧ NotesAt K CN H p ks ∧ GoodK ks ∧ ks.length < 64 ∧ ∀ H', Same H H' → Q (.str (notesText ks)) H'
theorem kf_at {L : Keyed} {i : Nat} {v : V} (h : (L.map fun q => V.ref q.1)[i]? = some v) : ∃ q, L[i]? = some q ∧ q ∈ L ∧ v = .ref q.1 := by
  rw [List.getElem?_map] at h
  cases e : L[i]? with
  | none => rw [e] at h; cases h
  | some q => rw [e] at h; exact ⟨q, rfl, List.mem_of_getElem? e, (Option.some.inj h).symm⟩
theorem take_next {α : Type} {l : List α} {i : Nat} {x : α} (h : l[i]? = some x) : l.take (i + 1) = l.take i ++ [x] := by
  rw [List.take_succ, h]; rfl
section
variable {P : Program} {w : World} {K : PySem.W.Frag} {mg : Str → Option Value} {base : Heap} {CN CI CE : Addr}
theorem scNSub : FnScope ["self", "other", "pairs", "pair"] ["self", "other"] (defScope sNotesSub) := ⟨rfl, rfl, rfl, by decide +kernel, rfl, by decide +kernel, by decide +kernel⟩
theorem ok_nsub {f : Addr} {fd : FuncData} (F : Fun K "__sub__" "Notes.__sub__" sNotesSub f fd) (T : NoteM P w K mg base CN CI CE) : FnOk P w K mg base CX0 8 f fd ["self", "other"] (spNSub K CN) := by
  obtain ⟨fN, M, GM⟩ := T.init
  refine F.ok scNSub (fun vs H Q E h => ?_) (fun cdv A outer s H vs Q E hr h => ?_)
  · obtain ⟨p, q, ks, ls, rfl, _⟩ := h
    rfl
  · obtain ⟨p, q, ks, ls, rfl, hN1, hN2, g1, g2, few, k⟩ := h
    obtain ⟨dx, tp, L, hp, htp, e1, hL⟩ := hN1.ex
    obtain ⟨dy, tq, L', hq, htq, e2, hL'⟩ := hN2.ex
    have hr7 : Room 7 _ := hr
    have r65 := room65 hr
    refine ⟨_, pss_cons (ps_setLc (i := 2) (own := [("pair", 3)]) (g := gName 3) (tt := tTest (tOp (rInT K true) (tVar 3) (tFld K (tVar 1) "pairs"))) (te := tVar 3) rfl scNSub.nd rfl rfl (sw_true rfl rfl rfl (by decide +kernel)) (pi_tup (pe_fld (pv 0) rfl)) (blkOk_by (N := ["self", "other", "pairs", "pair"]) (sc := defScope sNotesSub) (by decide +kernel))
          (fun _ _ _ _ _ => pg_name (i := 3) scNSub.nd rfl (Or.inl rfl)) (fun _ _ _ _ _ => pts_one (pt_cmpR (by exact op_notInT r65 : OpR _ _ (rInT K true)) (pv 3) (pe_fld (pv 1) rfl) (by rfl))) (fun _ _ _ _ _ => pv 3))
      (pss_one (ps_ret (pe_makeR1 M GM hr7 (by rfl) T.gN passL (pv 2)))), ?_⟩
    have l1 : L.length = ks.length := by rw [← e1, List.length_map]
    refine ⟨_, rfl, p, CN, dx, _, _, rfl, hp, T.cl, T.nP, pfN _, tp, rfl, ⟨_, SqT.of htp⟩, fun D hD => lc_it (walk_tup (K := K) (a := tp) (xs := L.map fun q => V.ref q.1)) (fun i H' => H' = upd H D (.lst (((L.take i).filter fun q => decide (q.2 ∉ ls)).map fun q => V.ref q.1))) rfl (fun i H' _ e => by rw [e]; exact SqT.of (Same.upd_new hD _ _ htp)) ?_ ?_⟩
    · rintro i v H1 H2 hi rfl ⟨rfl, hv⟩
      obtain ⟨z, hz, hzm, rfl⟩ := kf_at hv
      have hi' : i < L.length := (List.getElem?_eq_some_iff.mp hz).1
      have s1 : Same H (upd H D (.lst (((L.take i).filter fun q => decide (q.2 ∉ ls)).map fun q => V.ref q.1))) := Same.upd_new hD
      have gz : GoodP z.2 := g1 _ (by rw [← e1]; exact List.mem_map_of_mem hzm)
      refine ⟨rfl, _, rfl, _, rfl, q, CN, dy, _, _, rfl, s1 _ _ hq, T.cl, T.nP, pfN _, txData z.2, ls.map txData, tx_dp (Same.tup s1 (hL z hzm)), .tup (SqT.of (s1 _ _ htq)) (by have qq := txs_dp (fun y hy => Same.tup s1 (hL' y hy)); rw [e2] at qq; exact qq), tx_shaped gz, (txs_shaped g2).1, _, rfl, ?_⟩
      rw [tx_any]
      by_cases m : z.2 ∈ ls
      · refine iteZ (by rw [if_pos rfl, decide_eq_true m]; rfl) ?_
        rw [take_next hz, List.filter_append, List.filter_cons_of_neg (by simpa using m), List.filter_nil, List.append_nil]
      · refine iteY (by rw [if_pos rfl, decide_eq_false m]; rfl) ?_
        refine ⟨_, rfl, _, upd_same, ?_, ?_⟩
        · rw [List.length_map]
          have := List.length_filter_le (fun q : Addr × List Str => decide (q.2 ∉ ls)) (L.take i)
          rw [List.length_take] at this
          exact small1000 (by omega)
        · rw [upd_upd, take_next hz, List.filter_append, List.filter_cons_of_pos (by simpa using m), List.filter_nil, List.map_append]
          rfl
    · rintro H1 rfl
      rw [List.length_map, List.take_length]
      have s1 : Same H (upd H D (.lst ((L.filter fun q => decide (q.2 ∉ ls)).map fun q => V.ref q.1))) := Same.upd_new hD
      have ek : (L.filter fun q => decide (q.2 ∉ ls)).map (·.2) = ks.filter fun k => decide (k ∉ ls) := by
        rw [← e1, List.filter_map]
        rfl
      refine ⟨_, rfl, D, _, rfl, .inr (SqL.of upd_same), fun x dx' nx ndx nex => note_keyed nx ndx nex (by rw [ek]; exact fun z hz => g1 z ((List.mem_filter.mp hz).1)) (fun z hz => Same.tup s1 (hL z ((List.mem_filter.mp hz).1))) ?_ fun H8 s8 at_ => ?_⟩
      · have := List.length_filter_le (fun q : Addr × List Str => decide (q.2 ∉ ls)) L
        omega
      · rw [ek] at at_
        exact k H8 x (s1.trans s8) (s1.free nx) at_
theorem scNNeg : FnScope ["self", "pairs", "before", "after"] ["self"] (defScope sNotesNeg) := ⟨rfl, rfl, rfl, by decide +kernel, rfl, by decide +kernel, by decide +kernel⟩
theorem ok_nneg {f : Addr} {fd : FuncData} (F : Fun K "__neg__" "Notes.__neg__" sNotesNeg f fd) (T : NoteM P w K mg base CN CI CE) : FnOk P w K mg base CX0 8 f fd ["self"] (spNNeg K CN) := by
  obtain ⟨fN, M, GM⟩ := T.init
  refine F.ok scNNeg (fun vs H Q E h => ?_) (fun cdv A outer s H vs Q E hr h => ?_)
  · obtain ⟨p, ks, rfl, _⟩ := h
    rfl
  · obtain ⟨p, ks, rfl, hN1, g1, few, k⟩ := h
    obtain ⟨dx, tp, L, hp, htp, e1, hL⟩ := hN1.ex
    have hr7 : Room 7 _ := hr
    refine ⟨_, pss_cons (ps_setLc (i := 1) (own := [("before", 2), ("after", 3)]) (g := gTup K 2 (gCons (gName 2) (gCons (gName 3) gNil))) (tt := tYes) (te := tTup (tCons (tVar 3) (tCons (tVar 2) tNil))) rfl scNNeg.nd rfl rfl (sw_true rfl rfl rfl (by decide +kernel)) (pi_tup (pe_fld (pv 0) rfl)) (blkOk_by (N := ["self", "pairs", "before", "after"]) (sc := defScope sNotesNeg) (by decide +kernel))
          (fun _ _ _ _ _ => pg_tup rfl (pgs_cons (pg_name (i := 2) scNNeg.nd rfl (Or.inl rfl)) (pgs_cons (pg_name (i := 3) scNNeg.nd rfl (Or.inl rfl)) pgs_nil))) (fun _ _ _ _ _ => pts_nil) (fun _ _ _ _ _ => pe_tup (pa_cons (pv 3) (pa_cons (pv 2) pa_nil))))
      (pss_one (ps_ret (pe_makeR1 M GM hr7 (by rfl) T.gN passL (pv 1)))), ?_⟩
    have l1 : L.length = ks.length := by rw [← e1, List.length_map]
    refine ⟨_, rfl, p, CN, dx, _, _, rfl, hp, T.cl, T.nP, pfN _, tp, rfl, ⟨_, SqT.of htp⟩, fun D hD => lc_it (walk_tup (K := K) (a := tp) (xs := L.map fun q => V.ref q.1)) (fun i H' => Same H H' ∧ ∃ N : Keyed, H' D = some (.lst (N.map fun q => V.ref q.1)) ∧ N.map (·.2) = (ks.take i).map swapK ∧ ∀ q ∈ N, q.1 ≠ D ∧ SqT K H' q.1 (q.2.map V.str)) ⟨Same.upd_new hD, [], upd_same, rfl, fun q hq => absurd hq (by simp)⟩ (fun i H' _ ⟨s, _⟩ => SqT.of (s _ _ htp)) ?_ ?_⟩
    · rintro i v H1 H2 hi ⟨s1, N, hDN, eN, hN⟩ ⟨rfl, hv⟩
      obtain ⟨z, hz, hzm, rfl⟩ := kf_at hv
      have hi' : i < L.length := (List.getElem?_eq_some_iff.mp hz).1
      have gz : GoodP z.2 := g1 _ (by rw [← e1]; exact List.mem_map_of_mem hzm)
      have hzt := Same.tup s1 (hL z hzm)
      rw [gz.eq.1] at hzt
      have nl : N.length ≤ i := by
        have e := congrArg List.length eN
        rw [List.length_map, List.length_map, List.length_take] at e
        omega
      refine ⟨z.1, _, rfl, hzt, rfl, _, _, rfl, _, _, rfl, rfl, rfl, _, rfl, _, rfl, by show 2 ≤ sizeLine; decide, fun t ht => ?_⟩
      have s2 := Same.upd_new ht (o := .tup [.str (k1 z.2), .str (k0 z.2)])
      have nDt : D ≠ t := ne_of_none hDN ht
      have keyi : ks[i]? = some z.2 := by rw [← e1, List.getElem?_map, hz]; rfl
      refine ⟨_, s2 _ _ hDN, by rw [List.length_map]; exact small1000 (by omega), fun c o h => ?_, N ++ [(t, swapK z.2)], ?_, ?_, fun y hy => ?_⟩
      · rw [upd_ne (ne_of_none h hD)]
        exact s2 _ _ (s1 _ _ h)
      · rw [upd_same, List.map_append]
        rfl
      · rw [List.map_append, eN, take_next keyi, List.map_append]
        rfl
      · have keep : ∀ {c : Addr} {xs : List V}, c ≠ D → SqT K (upd H2 t (.tup [.str (k1 z.2), .str (k0 z.2)])) c xs → SqT K (upd (upd H2 t (.tup [.str (k1 z.2), .str (k0 z.2)])) D (.lst (N.map (fun q => V.ref q.1) ++ [.ref t]))) c xs := by
          intro c xs nc h
          rcases h with (h | ⟨o, h⟩) | h
          · exact .inl (.inl (by rw [upd_ne nc]; exact h))
          · exact .inl (.inr ⟨o, by rw [upd_ne nc]; exact h⟩)
          · exact .inr h
        rcases List.mem_append.mp hy with h | h
        · exact ⟨(hN y h).1, keep (hN y h).1 (Same.tup s2 (hN y h).2)⟩
        · obtain rfl := List.mem_singleton.mp h
          exact ⟨nDt.symm, keep nDt.symm (SqT.of upd_same)⟩
    · rintro H1 ⟨s1, N, hDN, eN, hN⟩
      have ek : N.map (·.2) = ks.map swapK := by rw [eN, List.length_map, l1, List.take_length]
      have nl : N.length = ks.length := by
        have e := congrArg List.length ek
        rw [List.length_map, List.length_map] at e
        exact e
      refine ⟨_, rfl, D, _, rfl, .inr (SqL.of hDN), fun x dx' nx ndx nex => note_keyed nx ndx nex (fun z hz => ?_) (fun z hz => (hN z hz).2) (by omega) fun H8 s8 at_ => ?_⟩
      · rw [ek] at hz
        obtain ⟨y, hy, rfl⟩ := List.mem_map.mp hz
        exact (g1 y hy).swap
      · rw [ek] at at_
        exact k H8 x (s1.trans s8) (s1.free nx) at_
theorem scNEq : FnScope ["self", "other"] ["self", "other"] (defScope sNotesEq) := ⟨rfl, rfl, rfl, by decide +kernel, rfl, by decide +kernel, by decide +kernel⟩
theorem ok_neq {f : Addr} {fd : FuncData} (F : Fun K "__eq__" "Notes.__eq__" sNotesEq f fd) (T : NoteM P w K mg base CN CI CE) (mI : mg "isinstance" = none) (ic : C8.InsC K CN) : FnOk P w K mg base CX0 1 f fd ["self", "other"] (spNEq K CN) := by
  refine F.ok scNEq (fun vs H Q E h => ?_) (fun cdv A outer s H vs Q E hr h => ?_)
  · rcases h with ⟨a, y, t, rfl, _⟩ | ⟨a, b, ks, ls, rfl, _⟩ <;> rfl
  · refine ⟨_, pss_one (ps_ret (pe_and (pe_callB call_isi (by rfl) mI (by decide +kernel) (pa_cons (pv 1) (pa_cons (pe_glob (v := .ref CN) (by rfl) T.gN rfl) pa_nil))) (pe_one (pe_cmpR (op_eqD hr.units) (pe_fld (pv 0) rfl) (pe_fld (pv 1) rfl) (nomark _))))), ?_⟩
    rcases h with ⟨a, y, t, rfl, ty, kt, k⟩ | ⟨a, b, ks, ls, rfl, hN1, hN2, g1, g2, k⟩
    · exact ⟨_, rfl, _, _, _, _, false, rfl, ClsV.own CN, .base ty, kt, _, rfl, iteF k⟩
    · obtain ⟨dx, tp, L, hp, htp, e1, hL⟩ := hN1.ex
      obtain ⟨dy, tq, L', hq, htq, e2, hL'⟩ := hN2.ex
      refine ⟨_, rfl, _, _, _, _, true, rfl, ClsV.own CN, .base (TyOf.ins hq ic.cl ic.ha ic.hn ic.htk ic.hm), ic.me, _, rfl, iteT ?_⟩
      refine ⟨_, rfl, a, CN, dx, _, _, rfl, hp, T.cl, T.nP, pfN _, _, rfl, b, CN, dy, _, _, rfl, hq, T.cl, T.nP, pfN _, ?_⟩
      refine ⟨.tuple (ks.map txData), .tuple (ls.map txData), .tup (SqT.of htp) (by rw [← e1]; exact txs_dp hL), .tup (SqT.of htq) (by rw [← e2]; exact txs_dp hL'), (txs_shaped g1).1, (txs_shaped g2).1, ?_⟩
      rw [(txs_eqv ks ls).1]
      exact k
end
end Dl

namespace Dl
open PySem PySem.Spec PyProof.Rows L2
def BagIn (H : Hp) (b : Addr) : Prop := ∃ L : List Int, H b = some (.lst (L.map V.int)) ∧ BagOk L
theorem BagIn.lst {H : Hp} {b : Addr} (h : BagIn H b) : ∃ xs, H b = some (.lst xs) := let ⟨L, e, _⟩ := h; ⟨_, e⟩
theorem BagIn.upd {H : Hp} {b : Addr} {L : List Int} (h : BagOk L) : BagIn (upd H b (.lst (L.map V.int))) b := ⟨L, upd_same, h⟩
theorem BagIn.of {H H' : Hp} {b : Addr} (s : Same H H') (h : BagIn H b) : BagIn H' b := let ⟨L, e, o⟩ := h; ⟨L, s _ _ e, o⟩
/-- a draw keeps everything but the bag -/
theorem draw_same {b : Addr} {H : Hp} {L : List Int} : SameB b H (upd H b (.lst (L.map V.int))) := SameB.upd
theorem cut_take1 (xs : List V) (i : Nat) : cutV xs none (some (i : Int)) = xs.take i := by
  unfold cutV
  rw [HT.sIx_nat, HT.sIx_none]
  simp only [List.drop_zero, Nat.sub_zero]
  by_cases h : i ≤ xs.length
  · rw [Nat.min_eq_left h]
  · rw [Nat.min_eq_right (by omega), List.take_of_length_le (by omega), List.take_of_length_le (by omega)]
end Dl

/-! a dict comprehension with two fors: my own rule -/
namespace Dl
open PySem PySem.Spec PyProof.Rows L2
section
variable {prog : Program} {w : World} {A : Around} {R : Result → Shared → Prop} {s : Shared}
/-- one depth of any comprehension: the next item, its target, the tests, then body -/
theorem loop_turns {kx vx : Expr} {gs : List Comprehension} {scope : Scope} {pos : Pos} {d : Nat} {tg : Expr} {ifs : List Expr} {p : Pos} {it acc : Value} {env : Env} {full : Sem PySem.Fin}
    (shape : compTurn (.DictComp kx vx gs scope pos) d it acc env = (do
      standAt p
      match ← pyNext it with
      | none => pure (.done .next)
      | some v =>
        letOwnedTupleGo tg it v
        assign tg env v
        let mut ok := true
        for c in ifs do
          if ok then ok ← isTrue c env (eval c env)
        if ok then full else again (.compLoop (.DictComp kx vx gs scope pos) d it acc env)))
    (I : Nat → Shared → Prop)
    (turn : ∀ n s, I n s → wpAny (model prog w) A (pyNext it) (fun r t1 => match r with
      | none => R (.ok .next) t1
      | some v => wpAny (model prog w) A (letOwnedTupleGo tg it v) (fun _ t2 => wpAny (model prog w) A (assign tg env v) (fun _ t3 =>
          wpAny (model prog w) A (forIn ifs true fun c r => if r = true then do let ok ← isTrue c env (eval c env); pure (ForInStep.yield ok) else pure (ForInStep.yield r)) (fun ok t4 =>
            if ok = true then wpAny (model prog w) A full (fun fin t5 => fin = .again (.compLoop (.DictComp kx vx gs scope pos) d it acc env) ∧ ∃ m, m < n ∧ I m t5) (notedBy (model prog w) A env fun x t => R (.error x) t) t4
            else ∃ m, m < n ∧ I m t4) (notedBy (model prog w) A env fun x t => R (.error x) t) t3) (notedBy (model prog w) A env fun x t => R (.error x) t) t2) (notedBy (model prog w) A env fun x t => R (.error x) t) t1) (notedBy (model prog w) A env fun x t => R (.error x) t) s)
    (n : Nat) (h : I n s) : codeAny (model prog w) A (.compLoop (.DictComp kx vx gs scope pos) d it acc env) R s := by
  apply codeAny_loop rfl I _ n h
  intro k t hk
  show wpAny _ A ((compTurn (.DictComp kx vx gs scope pos) d it acc env).onRaise fun x => do noteFrame x env; theTreesLotGoes x) _ _ t
  apply wpAny_noted
  rw [shape]
  apply wpAny_bind
  apply wpAny_standAt
  apply wpAny_bind
  apply wpAny_mono (turn k t hk) _ (fun _ _ z => z)
  intro r t1 h1
  cases r with
  | none => exact wpAny_pure h1
  | some v =>
    apply wpAny_bind
    apply wpAny_mono h1 _ (fun _ _ z => z)
    intro _ t2 h2
    apply wpAny_bind
    apply wpAny_mono h2 _ (fun _ _ z => z)
    intro _ t3 h3
    apply wpAny_bind
    apply wpAny_mono h3 _ (fun _ _ z => z)
    intro ok t4 h4
    cases ok with
    | false => exact wpAny_pure ⟨rfl, h4⟩
    | true =>
      apply wpAny_mono h4 _ (fun _ _ z => z)
      rintro fin t5 ⟨rfl, h5⟩
      exact ⟨rfl, h5⟩
/-- the second clause of a dict comprehension begins -/
theorem second_starts {kx vx a1 b1 a2 b2 : Expr} {i1 i2 : List Expr} {scope : Scope} {pos : Pos} {it acc : Value} {env : Env}
    (gen : codeAny (model prog w) A (.compLoop (.DictComp kx vx [⟨a1, b1, i1, 0⟩, ⟨a2, b2, i2, 0⟩] scope pos) 1 it acc env) R s)
    (plain : wpAny (model prog w) A (pyIter it) (fun jt t => codeAny (model prog w) A (.compLoop (.DictComp kx vx [⟨a1, b1, i1, 0⟩, ⟨a2, b2, i2, 0⟩] scope pos) 1 jt acc env) R t) (notedBy (model prog w) A env fun x t => R (.error x) t) s) :
    codeAny (model prog w) A (.compStart (.DictComp kx vx [⟨a1, b1, i1, 0⟩, ⟨a2, b2, i2, 0⟩] scope pos) 1 it acc env) R s := by
  apply codeAny_of_tree
  show wpAny _ _ ((compStart (.DictComp kx vx [⟨a1, b1, i1, 0⟩, ⟨a2, b2, i2, 0⟩] scope pos) 1 it acc env).onRaise fun x => do noteFrame x env; standAt theWindowsPlace) _ _ s
  apply wpAny_notedAt
  unfold compStart
  show wpAny _ _ (ask >>= _) _ _ s
  apply wpAny_bind
  apply wpAny_askSetting
  apply wpAny_ite
  split
  · first
      | exact wpAny_pure ⟨rfl, gen⟩
      | exact wpAny_bind (wpAny_pure (wpAny_pure ⟨rfl, gen⟩))
  · apply wpAny_bind
    apply wpAny_rule
    first
      | exact wpAny_bind (wpAny_standAt (wpAny_bind (wpAny_mono plain (fun jt t z => wpAny_pure ⟨rfl, z⟩) fun _ _ x => x)))
      | (show wpAny _ _ (standAt b2.pos >>= _) _ _ s; exact wpAny_bind (wpAny_standAt (wpAny_bind (wpAny_mono plain (fun jt t z => wpAny_pure ⟨rfl, z⟩) fun _ _ x => x))))
end
section
variable {Y : Cx}
/-- one clause's walk inside a block: body is told by tb; what the block knew at its start stays known -/
theorem clause_walks (calm : Y.calm = true) (mute : Y.xe = fun _ _ => False) {kx vx : Expr} {gs : List Comprehension} {scope : Scope} {pos p : Pos} {d : Nat} {tg : Expr} {ifs : List Expr} {it : Addr} {acc : Value} {full : Sem PySem.Fin} {R : Result → Shared → Prop}
    (shape : compTurn (.DictComp kx vx gs scope pos) d (.ref it) acc Y.env = (do
      standAt p
      match ← pyNext (.ref it) with
      | none => pure (.done .next)
      | some v =>
        letOwnedTupleGo tg (.ref it) v
        assign tg Y.env v
        let mut ok := true
        for c in ifs do
          if ok then ok ← isTrue c Y.env (eval c Y.env)
        if ok then full else again (.compLoop (.DictComp kx vx gs scope pos) d (.ref it) acc Y.env)))
    {g : TG} {tt : TT} (pg : PG Y tg g) (pt : PTs Y ifs tt) {vs : List Nat} {σ0 : L2.St} {tb : L2.St → Hp → (Hp → Prop) → Prop}
    (pb : ∀ (pins : List (Addr × Obj)) (s : Shared) (σ : L2.St) (H : Hp) (Q : Hp → Prop), Inv Y pins σ H s → wipe σ vs = σ0 → tb σ H Q →
      wpAny (model Y.prog Y.w) Y.A full (fun fin s' => fin = .again (.compLoop (.DictComp kx vx gs scope pos) d (.ref it) acc Y.env) ∧ ∃ σ' H', Inv Y pins σ' H' s' ∧ σ0.length = σ'.length ∧ (∀ (j : Nat) v, σ0[j]? = some (some v) → σ'[j]? = some (some v)) ∧ Q H') (fun _ _ => False) s)
    {fp : List Addr} {tn : Nat → Heap → Prop} {J : It} (T : Turn Y.prog Y.w Y.K tg J fp it tn) {pins : List (Addr × Obj)} {W : Nat → Nat → Hp → Prop} {Fin : Hp → Prop}
    (step : ∀ i m H, W i m H → (J.stop i H ∧ Fin H) ∨ (J.go i H ∧ ∃ Nx : Hp → Prop, (∀ H', Nx H' → ∃ m', m' < m ∧ W (i + 1) m' H') ∧ ∀ x H', J.yld i H x H' → g x σ0 H' fun σ2 H2 => wipe σ2 vs = σ0 ∧ tt σ2 H2 fun b H3 => if b = true then tb σ2 H3 Nx else Nx H3))
    (last : ∀ s' H', Inv Y pins σ0 H' s' → Fin H' → R (.ok .next) s')
    {s : Shared} {H : Hp} {m : Nat} (I : Inv Y pins σ0 H s) (st : tn 0 s.heap) (fps : ∀ b ∈ fp, FpOk Y pins H b) (w0 : W 0 m H) :
    codeAny (model Y.prog Y.w) Y.A (.compLoop (.DictComp kx vx gs scope pos) d (.ref it) acc Y.env) R s := by
  have own : ∀ {H' : Hp}, (∀ b ∈ fp, H' b = none) → ∀ b ∈ fp, FpOk Y pins H' b := fun hn b hb => ⟨hn b hb, (fps b hb).2⟩
  apply loop_turns shape (fun m s' => ∃ i H', Inv Y pins σ0 H' s' ∧ tn i s'.heap ∧ (∀ b ∈ fp, H' b = none) ∧ W i m H') _ m ⟨0, H, I, st, fun b hb => (fps b hb).1, w0⟩
  rintro m s1 ⟨i, H1, I1, st1, n1, w1⟩
  rcases step i m H1 w1 with ⟨hs, hf⟩ | ⟨hg, Nx, less, go⟩
  · apply thnF (T.done Y rfl rfl rfl calm i pins s1 σ0 H1 (fun _ _ => False) I1 (own n1) st1 hs)
    rintro r s2 ⟨rfl, I2⟩
    exact last s2 H1 I2 hf
  apply thnF (T.item Y rfl rfl rfl calm i pins s1 σ0 H1 (fun _ _ => False) I1 (own n1) st1 hg)
  rintro r s2 ⟨u, rfl, more⟩
  apply thnF more
  rintro _ s3 ⟨x, H3, I3, rel, yl, st3, n3⟩
  have P3 := I3.pinned (own n3) (T.obj _ _ st3)
  have quiet : ∀ {α : Type} {t : Sem α} {Q : α → Shared → Prop} {z : Shared}, wpAny (model Y.prog Y.w) Y.A t Q Y.xe z → wpAny (model Y.prog Y.w) Y.A t Q (fun _ _ => False) z := fun h => by rw [mute] at h; exact h
  -- back at the clause's head
  have again_ : ∀ {σ' : L2.St} {s' : Shared} {H' : Hp}, Inv Y (pins ++ pinsAt fp s3.heap) σ' H' s' → σ0.length = σ'.length → (∀ (j : Nat) v, σ0[j]? = some (some v) → σ'[j]? = some (some v)) → Nx H' →
      ∃ m', m' < m ∧ ∃ i H', Inv Y pins σ0 H' s' ∧ tn i s'.heap ∧ (∀ b ∈ fp, H' b = none) ∧ W i m' H' := fun {σ' s' H'} I' len known nx => by
    obtain ⟨m', lt, w'⟩ := less H' nx
    have held : ∀ b ∈ fp, ∀ o, s3.heap.get? b = some o → s'.heap.get? b = some o ∧ H' b = none := fun b hb o e => by
      have z := I'.pin (b, o) (List.mem_append_right _ (List.mem_append_right _ (mem_pinsAt hb e)))
      exact ⟨z.1, z.2.1⟩
    refine ⟨m', lt, i + 1, H', I'.unpinned.weak len known, T.keep _ _ _ st3 (fun b hb o e => (held b hb o e).1), fun b hb => ?_, w'⟩
    obtain ⟨o, e, _⟩ := T.obj _ _ st3 b hb
    exact (held b hb o e).2
  apply thnF (quiet (pg.run _ s3 σ0 H3 x u _ P3 rel (go x H3 yl)))
  rintro _ s4 ⟨σ4, H4, I4, back, q4⟩
  have len4 : σ0.length = σ4.length := by rw [← back, wipe_length]
  have known4 : ∀ (j : Nat) v, σ0[j]? = some (some v) → σ4[j]? = some (some v) := fun j v e => by
    rw [← back] at e
    exact (wipe_some e).1
  apply thnF (quiet (pt.run _ s4 σ4 H4 _ I4 q4))
  rintro b s5 ⟨H5, I5, q5⟩
  cases b with
  | false => exact again_ I5 len4 known4 q5
  | true =>
    apply thnF (pb _ s5 σ4 H5 Nx I5 back q5)
    rintro fin s6 ⟨rfl, σ6, H6, I6, len6, known6, nx⟩
    exact ⟨rfl, again_ I6 len6 known6 nx⟩
def tPut (tk tv : TE) (D : Addr) : L2.St → Hp → (Hp → Prop) → Prop := fun σ H Q => tk σ H fun y H1 => tv σ H1 fun z H2 => ∃ kvs k, y = kV k ∧ H2 D = some (.dK kvs) ∧ kvs.length < sizeLine ∧ Q (upd H2 D (.dK (putK kvs k z)))
def tSecond (wi : TI) (g : TG) (tt : TT) (tb : L2.St → Hp → (Hp → Prop) → Prop) (vs : List Nat) : L2.St → Hp → (Hp → Prop) → Prop := fun σ H Q => wi σ H fun J H1 => ∃ W : Nat → Nat → Hp → Prop, (∃ m, W 0 m H1) ∧ ∀ i m H, W i m H →
  (J.stop i H ∧ Q H) ∨ (J.go i H ∧ ∃ Nx : Hp → Prop, (∀ H', Nx H' → ∃ m', m' < m ∧ W (i + 1) m' H') ∧ ∀ x H', J.yld i H x H' → g x (wipe σ vs) H' fun σ2 H2 => wipe σ2 vs = wipe σ vs ∧ tt σ2 H2 fun b H3 => if b = true then tb σ2 H3 Nx else Nx H3)
/-- {k: v for a in A if .. for b in B if ..} -/
def tDc2 (wi : TI) (g : TG) (tt : TT) (wi1 : TI) (g1 : TG) (tt1 : TT) (tk tv : TE) (vs vs1 : List Nat) : TE := fun σ H Q => wi σ H fun J H1 => ∀ D, H1 D = none → ∃ W : Nat → Nat → Hp → Prop, (∃ m, W 0 m (upd H1 D (.dK []))) ∧ ∀ i m H, W i m H →
  (J.stop i H ∧ Q (.ref D) H) ∨ (J.go i H ∧ ∃ Nx : Hp → Prop, (∀ H', Nx H' → ∃ m', m' < m ∧ W (i + 1) m' H') ∧ ∀ x H', J.yld i H x H' → g x (wipe σ vs) H' fun σ2 H2 => wipe σ2 vs = wipe σ vs ∧ tt σ2 H2 fun b H3 =>
    if b = true then tSecond wi1 g1 tt1 (tPut tk tv D) vs1 σ2 H3 Nx else Nx H3)
section
variable {kx vx a1 b1 a2 b2 : Expr} {i1 i2 : List Expr} {scope : Scope} {pos : Pos} {D : Addr}
theorem put_body (mute : Y.xe = fun _ _ => False) {tk tv : TE} {q : Pos} {it : Value} (pk : PE Y kx tk) (pv : PE Y vx tv) {vs : List Nat} {σ0 : L2.St} (pins : List (Addr × Obj)) (s : Shared) (σ : L2.St) (H : Hp) (Q : Hp → Prop) (I : Inv Y pins σ H s) (back : wipe σ vs = σ0) (h : tPut tk tv D σ H Q) :
    wpAny (model Y.prog Y.w) Y.A (do
      (do
        let kv ← eval kx Y.env
        let vv ← holding [kv] (eval vx Y.env)
        standAt q
        holding [kv, vv] (dictSet D kv vv))
      again (.compLoop (.DictComp kx vx [⟨a1, b1, i1, 0⟩, ⟨a2, b2, i2, 0⟩] scope pos) 1 it (.ref D) Y.env)) (fun fin s' => fin = .again (.compLoop (.DictComp kx vx [⟨a1, b1, i1, 0⟩, ⟨a2, b2, i2, 0⟩] scope pos) 1 it (.ref D) Y.env) ∧ ∃ σ' H', Inv Y pins σ' H' s' ∧ σ0.length = σ'.length ∧ (∀ (j : Nat) v, σ0[j]? = some (some v) → σ'[j]? = some (some v)) ∧ Q H') (fun _ _ => False) s := by
  have quiet : ∀ {α : Type} {t : Sem α} {Q : α → Shared → Prop} {z : Shared}, wpAny (model Y.prog Y.w) Y.A t Q Y.xe z → wpAny (model Y.prog Y.w) Y.A t Q (fun _ _ => False) z := fun h => by rw [mute] at h; exact h
  apply wpAny_bind
  apply wpAny_bind
  apply thnF (quiet (pk.run pins s σ H _ I h))
  rintro kv s1 ⟨y, H1, I1, r1, h1⟩
  apply wpAny_bind
  apply wpAny_holding
  apply thnF (quiet (pv.run pins s1 σ H1 _ I1 h1))
  rintro vv s2 ⟨z, H2, I2, r2, kvs, k, rfl, hD, room, q2⟩
  apply wpAny_bind
  apply wpAny_standAt
  apply wpAny_holding
  apply d_dictSet I2 hD room r1 r2
  intro s3 I3
  refine wpAny_pure ⟨rfl, σ, _, I3, by rw [← back, wipe_length], fun j v e => by rw [← back] at e; exact (wipe_some e).1, q2⟩
theorem second_body {it0 : Value} (calm : Y.calm = true) (mute : Y.xe = fun _ _ => False) {wi1 : TI} {g1 : TG} {tt1 : TT} {tk tv : TE} {vs vs1 : List Nat} (within : ∀ i ∈ vs1, i ∈ vs) (pi1 : PI Y a2 b2 wi1) (pg1 : PG Y a2 g1) (pt1 : PTs Y i2 tt1) (pk : PE Y kx tk) (pv : PE Y vx tv)
    (plain : ∀ x, foldedSetIterable b2 Y.env x = pure x) {σ0 : L2.St} (pins : List (Addr × Obj)) (s : Shared) (σ : L2.St) (H : Hp) (Q : Hp → Prop) (I : Inv Y pins σ H s) (back : wipe σ vs = σ0) (h : tSecond wi1 g1 tt1 (tPut tk tv D) vs1 σ H Q) :
    wpAny (model Y.prog Y.w) Y.A (do
      let x ← eval b2 Y.env
      standAt b2.pos
      let x ← foldedSetIterable b2 Y.env x
      let _ ← runOwn (.compStart (.DictComp kx vx [⟨a1, b1, i1, 0⟩, ⟨a2, b2, i2, 0⟩] scope pos) 1 (← holding [x] (pyIter x)) (.ref D) Y.env) Y.env
      again (.compLoop (.DictComp kx vx [⟨a1, b1, i1, 0⟩, ⟨a2, b2, i2, 0⟩] scope pos) 0 it0 (.ref D) Y.env)) (fun fin s' => fin = .again (.compLoop (.DictComp kx vx [⟨a1, b1, i1, 0⟩, ⟨a2, b2, i2, 0⟩] scope pos) 0 it0 (.ref D) Y.env) ∧ ∃ σ' H', Inv Y pins σ' H' s' ∧ σ0.length = σ'.length ∧ (∀ (j : Nat) v, σ0[j]? = some (some v) → σ'[j]? = some (some v)) ∧ Q H') (fun _ _ => False) s := by
  have quiet : ∀ {α : Type} {t : Sem α} {Q : α → Shared → Prop} {z : Shared}, wpAny (model Y.prog Y.w) Y.A t Q Y.xe z → wpAny (model Y.prog Y.w) Y.A t Q (fun _ _ => False) z := fun h => by rw [mute] at h; exact h
  apply wpAny_bind
  have first := pi1.run pins s σ H _ I h
  rw [mute] at first
  apply thnF first
  intro x s1 h1
  apply wpAny_bind
  apply wpAny_standAt
  apply wpAny_bind
  apply wpAny_of_eq (plain x)
  apply wpAny_bind
  apply wpAny_holding
  apply thnF h1
  rintro itv s2 ⟨it, fp, tn, J, H2, rfl, I2, T, st, fps, W, ⟨m, w0⟩, step⟩
  apply wpAny_bind
  refine wpAny_runOwn ?_
  rw [Around.mark_none]
  have known : ∀ (j : Nat) v, σ0[j]? = some (some v) → (wipe σ vs1)[j]? = some (some v) := fun j v e => by
    rw [← back] at e
    obtain ⟨e1, out⟩ := wipe_some e
    rw [wipe_out fun z => out (within j z)]
    exact e1
  have len : σ0.length = (wipe σ vs1).length := by rw [← back, wipe_length, wipe_length]
  have loop : codeAny (model Y.prog Y.w) Y.A (.compLoop (.DictComp kx vx [⟨a1, b1, i1, 0⟩, ⟨a2, b2, i2, 0⟩] scope pos) 1 (.ref it) (.ref D) Y.env)
      (fun r s' => match r with
        | .ok _ => ∃ σ' H', Inv Y pins σ' H' s' ∧ σ0.length = σ'.length ∧ (∀ (j : Nat) v, σ0[j]? = some (some v) → σ'[j]? = some (some v)) ∧ Q H'
        | .error _ => False) s2 :=
    clause_walks calm mute rfl pg1 pt1 (put_body mute pk pv) T step (fun s' H' I' q => ⟨_, H', I', len, known, q⟩) (I2.weak (wipe_length _ _) fun j v e => (wipe_some e).1) st fps w0
  apply codeAny_mono (second_starts loop (T.self Y.A 0 _ _ _ st loop))
  intro r s3 hr
  cases r with
  | ok f =>
    first
      | exact wpAny_pure ⟨rfl, hr⟩
      | exact wpAny_bind (wpAny_pure (wpAny_pure ⟨rfl, hr⟩))
  | error e => exact hr.elim
end
end
section
variable {X : Cx}
theorem dc2_core {pins : List (Addr × Obj)} {s : Shared} {σ : L2.St} {H : Hp} {Q : VK} {pos' : Pos} {use : Option (Value → Sem Unit)} {Qf : Value → Shared → Prop} {kx vx a1 b1 a2 b2 : Expr} {i1 i2 : List Expr} {scope : Scope} {own : List (Str × Nat)} {vs1 : List Nat} {pos : Pos} {wi wi1 : TI} {g g1 : TG} {tt tt1 : TT} {tk tv : TE} (calm : X.calm = true) (nd : X.N.Nodup) (src : PI X a1 b1 wi) (ok : BlkOk X.N X.env.scope scope own) (within : ∀ i ∈ vs1, i ∈ own.map (·.2))
    (pg : ∀ (s : Shared) (H : Hp) (C : Addr) (cl : List (Str × Addr)) (fp : List Addr), PG (X.blk s H scope (compEnvC scope cl C X.env) fp) a1 g) (pt : ∀ (s : Shared) (H : Hp) (C : Addr) (cl : List (Str × Addr)) (fp : List Addr), PTs (X.blk s H scope (compEnvC scope cl C X.env) fp) i1 tt)
    (pi1 : ∀ (s : Shared) (H : Hp) (C : Addr) (cl : List (Str × Addr)) (fp : List Addr), PI (X.blk s H scope (compEnvC scope cl C X.env) fp) a2 b2 wi1)
    (pg1 : ∀ (s : Shared) (H : Hp) (C : Addr) (cl : List (Str × Addr)) (fp : List Addr), PG (X.blk s H scope (compEnvC scope cl C X.env) fp) a2 g1) (pt1 : ∀ (s : Shared) (H : Hp) (C : Addr) (cl : List (Str × Addr)) (fp : List Addr), PTs (X.blk s H scope (compEnvC scope cl C X.env) fp) i2 tt1)
    (pk : ∀ (s : Shared) (H : Hp) (C : Addr) (cl : List (Str × Addr)) (fp : List Addr), PE (X.blk s H scope (compEnvC scope cl C X.env) fp) kx tk) (pv : ∀ (s : Shared) (H : Hp) (C : Addr) (cl : List (Str × Addr)) (fp : List Addr), PE (X.blk s H scope (compEnvC scope cl C X.env) fp) vx tv)
    (plain : ∀ x, foldedSetIterable b1 X.env x = pure x) (plain1 : ∀ env x, foldedSetIterable b2 env x = pure x) (I : Inv X pins σ H s)
    (h : tDc2 wi g tt wi1 g1 tt1 tk tv (own.map (·.2)) vs1 σ H Q)
    (whole : ∀ D C s' m H', Inv X pins σ H' s' → Q (.ref D) H' → s'.heap.Ns C m → FpOk X pins H' C → compPost (model X.prog X.w) X.A X.xe use Qf (.ref D) C (.ok .next) s') :
    wpAny (model X.prog X.w) X.A (comprehension (.DictComp kx vx [⟨a1, b1, i1, 0⟩, ⟨a2, b2, i2, 0⟩] scope pos) scope X.env pos' newDict false (eval b1 X.env) use) Qf X.xe s := by
  have cells : ∀ y ∈ scope.names, y.2 = .free → ∃ c, X.env.cells.lookup y.1 = some c := fun y hy e => (ok.free y hy e).elim (fun k => I.ok.has _ (.inl k)) fun k => I.ok.has _ (.inr k)
  apply wpAny_comprehension_free rfl plain (closure_ok cells) ok.kind (fun y hy e => by rw [ok.uniq y hy, e])
  apply thn (src.run pins s σ H _ I h)
  intro x s1 h1
  apply thn h1
  rintro itv s2 ⟨it, fp, tn, J, H2, rfl, I2, T, st, fps, q⟩
  refine wpAny_newObj_type (newEnv_comp ?_)
  have new : H2 s2.heap.objs.size = none := I2.hok.fresh (Nat.le_refl _)
  obtain ⟨W, ⟨m, w0⟩, step⟩ := q _ new
  generalize eD : s2.heap.objs.size = D at *
  have grown : ∀ b o, s2.heap.get? b = some o → (s2.heap.push { cls := .type "dict", data := .dict #[] }).get? b = some o := fun b o e => Heap.get?_push_of_some _ e
  have I3 : Inv X pins σ (upd H2 D (.dK [])) { s2 with heap := s2.heap.push { cls := .type "dict", data := .dict #[] } } :=
    I2.laid (t' := s2.toks) grown (Nat.le_of_eq eD) (by rw [← eD]; exact dk_empty s2.heap I2.big)
  have low : ∀ b ∈ fp, b < s2.heap.objs.size := fun b hb => by
    obtain ⟨o, e, _⟩ := T.obj _ _ st b hb
    exact Heap.lt_size e
  have fp3 : ∀ b ∈ fp, FpOk X pins (upd H2 D (.dK [])) b ∧ b < ({ s2 with heap := s2.heap.push { cls := .type "dict", data := .dict #[] } } : Shared).heap.objs.size := fun b hb => by
    have lt := low b hb
    have nb : b ≠ D := by rw [← eD]; exact Nat.ne_of_lt lt
    exact ⟨⟨by rw [upd_ne nb]; exact (fps b hb).1, (fps b hb).2⟩, by show b < (s2.heap.push _).objs.size; rw [Heap.size_push]; exact Nat.lt_succ_of_lt lt⟩
  have I4 := block_start I3 ok nd fp3
  have st4 : tn 0 (pushCells ((s2.heap.push { cls := .type "dict", data := .dict #[] }).push { cls := .type "dict", data := .dict #[] }) scope.names) :=
    T.keep _ _ _ st fun b _ o e => pushCells_keeps _ _ _ _ (Heap.get?_push_of_some _ (grown b o e))
  generalize hs3 : ({ s2 with heap := s2.heap.push { cls := .type "dict", data := .dict #[] } } : Shared) = s3 at I3 fp3 I4 ⊢
  have none3 : ∀ b ∈ fp, (upd H2 D (.dK [])) b = none := fun b hb => (fp3 b hb).1.1
  generalize upd H2 D (.dK []) = H3 at I3 fp3 I4 w0 none3
  have pg := pg s3 H3 s3.heap.objs.size (cellsFrom (s3.heap.objs.size + 1) scope.names (cloFrom X.env.cells scope.names [])) fp
  have pt := pt s3 H3 s3.heap.objs.size (cellsFrom (s3.heap.objs.size + 1) scope.names (cloFrom X.env.cells scope.names [])) fp
  have pi1 := pi1 s3 H3 s3.heap.objs.size (cellsFrom (s3.heap.objs.size + 1) scope.names (cloFrom X.env.cells scope.names [])) fp
  have pg1 := pg1 s3 H3 s3.heap.objs.size (cellsFrom (s3.heap.objs.size + 1) scope.names (cloFrom X.env.cells scope.names [])) fp
  have pt1 := pt1 s3 H3 s3.heap.objs.size (cellsFrom (s3.heap.objs.size + 1) scope.names (cloFrom X.env.cells scope.names [])) fp
  have pk := pk s3 H3 s3.heap.objs.size (cellsFrom (s3.heap.objs.size + 1) scope.names (cloFrom X.env.cells scope.names [])) fp
  have pv := pv s3 H3 s3.heap.objs.size (cellsFrom (s3.heap.objs.size + 1) scope.names (cloFrom X.env.cells scope.names [])) fp
  show codeAny _ _ (.compStart (.DictComp kx vx [⟨a1, b1, i1, 0⟩, ⟨a2, b2, i2, 0⟩] scope pos) 0 (.ref it) (.ref D) (compEnvC scope (cellsFrom (s3.heap.objs.size + 1) scope.names (cloFrom X.env.cells scope.names [])) s3.heap.objs.size X.env)) _ { s3 with heap := pushCells (s3.heap.push { cls := .type "dict", data := .dict #[] }) scope.names }
  have st4 : tn 0 ({ s3 with heap := pushCells (s3.heap.push { cls := .type "dict", data := .dict #[] }) scope.names } : Shared).heap := by rw [← hs3]; exact st4
  generalize ({ s3 with heap := pushCells (s3.heap.push { cls := .type "dict", data := .dict #[] }) scope.names } : Shared) = s4 at I4 st4 ⊢
  have at_ : (compEnvC scope (cellsFrom (s3.heap.objs.size + 1) scope.names (cloFrom X.env.cells scope.names [])) s3.heap.objs.size X.env).locals = s3.heap.objs.size := rfl
  generalize compEnvC scope (cellsFrom (s3.heap.objs.size + 1) scope.names (cloFrom X.env.cells scope.names [])) s3.heap.objs.size X.env = ce at *
  have loop : codeAny (model X.prog X.w) X.A (.compLoop (.DictComp kx vx [⟨a1, b1, i1, 0⟩, ⟨a2, b2, i2, 0⟩] scope pos) 0 (.ref it) (.ref D) ce) (compPost (model X.prog X.w) X.A X.xe use Qf (.ref D) s3.heap.objs.size) s4 := by
    refine clause_walks (Y := X.blk s3 H3 scope ce fp) calm rfl rfl pg pt (second_body (Y := X.blk s3 H3 scope ce fp) calm rfl within pi1 pg1 pt1 pk pv (plain1 ce)) T step (fun s' H' I' qq => ?_) I4 st4 (fun b hb => ?_) w0
    · have back : Inv X pins σ H' s' := I3.call' (ch := fp) I'.os I'.base I'.hok I'.bare fun b hb => by
        obtain ⟨_, f1, f2, f3, f4, f5⟩ := (fp3 b hb).1
        exact ⟨f3, f1, f4, f5⟩
      have free : H' s3.heap.objs.size = none := by
        have z : H' ce.locals = none := I'.free
        rw [at_] at z
        exact z
      obtain ⟨mm, hn, _⟩ := I'.loc
      have hn : s'.heap.Ns ce.locals mm := hn
      rw [at_] at hn
      exact whole D _ s' mm H' back qq hn (I3.fpOk (Nat.le_refl _) free)
    · exact ⟨none3 b hb, (I4.ok.exf b hb).1, I4.ok.exfs b hb, .inl hb, fun x c e => (I4.ok.exf b hb).2 x c e, fun p hp => absurd (show p ∈ ([] : List (Addr × Obj)) ++ [] from hp) (by simp)⟩
  exact codeAny_compStart_dict loop (T.self X.A 0 _ _ _ st4 loop)
theorem pe_dc2 {kx vx a1 b1 a2 b2 : Expr} {i1 i2 : List Expr} {scope : Scope} {own : List (Str × Nat)} {vs1 : List Nat} {pos : Pos} {wi wi1 : TI} {g g1 : TG} {tt tt1 : TT} {tk tv : TE} (calm : X.calm = true) (nd : X.N.Nodup) (src : PI X a1 b1 wi) (ok : BlkOk X.N X.env.scope scope own) (within : ∀ i ∈ vs1, i ∈ own.map (·.2))
    (pg : ∀ (s : Shared) (H : Hp) (C : Addr) (cl : List (Str × Addr)) (fp : List Addr), PG (X.blk s H scope (compEnvC scope cl C X.env) fp) a1 g) (pt : ∀ (s : Shared) (H : Hp) (C : Addr) (cl : List (Str × Addr)) (fp : List Addr), PTs (X.blk s H scope (compEnvC scope cl C X.env) fp) i1 tt)
    (pi1 : ∀ (s : Shared) (H : Hp) (C : Addr) (cl : List (Str × Addr)) (fp : List Addr), PI (X.blk s H scope (compEnvC scope cl C X.env) fp) a2 b2 wi1)
    (pg1 : ∀ (s : Shared) (H : Hp) (C : Addr) (cl : List (Str × Addr)) (fp : List Addr), PG (X.blk s H scope (compEnvC scope cl C X.env) fp) a2 g1) (pt1 : ∀ (s : Shared) (H : Hp) (C : Addr) (cl : List (Str × Addr)) (fp : List Addr), PTs (X.blk s H scope (compEnvC scope cl C X.env) fp) i2 tt1)
    (pk : ∀ (s : Shared) (H : Hp) (C : Addr) (cl : List (Str × Addr)) (fp : List Addr), PE (X.blk s H scope (compEnvC scope cl C X.env) fp) kx tk) (pv : ∀ (s : Shared) (H : Hp) (C : Addr) (cl : List (Str × Addr)) (fp : List Addr), PE (X.blk s H scope (compEnvC scope cl C X.env) fp) vx tv)
    (plain : ∀ x, foldedSetIterable b1 X.env x = pure x := by intro _; rfl) (plain1 : ∀ env x, foldedSetIterable b2 env x = pure x := by intro _ _; rfl) :
    PE X (.DictComp kx vx [⟨a1, b1, i1, 0⟩, ⟨a2, b2, i2, 0⟩] scope pos) (tDc2 wi g tt wi1 g1 tt1 tk tv (own.map (·.2)) vs1) := by
  constructor
  intro pins s σ H Q I h
  rw [arm_eval_DictComp]
  apply dc2_core calm nd src ok within pg pt pi1 pg1 pt1 pk pv plain plain1 I h
  intro D C s' m H' I' q hn f
  obtain ⟨f0, f1, f2, f3, f4, f5⟩ := f
  exact ⟨m, hn, fun h'' sb => ⟨.ref D, H', I'.turned (t' := s'.toks) (fun b o hb e => (sb.2 b hb).trans e) f0 f1 f3 f4 f5, rfl, q⟩⟩
theorem ps_setDc2 {i : Nat} {y : Str} {py spos : Pos} {kx vx a1 b1 a2 b2 : Expr} {i1 i2 : List Expr} {scope : Scope} {own : List (Str × Nat)} {vs1 : List Nat} {pos : Pos} {wi wi1 : TI} {g g1 : TG} {tt tt1 : TT} {tk tv : TE} (calm : X.calm = true) (nd : X.N.Nodup) (at_ : X.N[i]? = some y) (loc : X.env.scope.names.lookup y = some .local) (sw : swapsWith (.DictComp kx vx [⟨a1, b1, i1, 0⟩, ⟨a2, b2, i2, 0⟩] scope pos) (some (.Name y py)) spos.line X.env = pure true) (src : PI X a1 b1 wi) (ok : BlkOk X.N X.env.scope scope own) (within : ∀ i ∈ vs1, i ∈ own.map (·.2))
    (pg : ∀ (s : Shared) (H : Hp) (C : Addr) (cl : List (Str × Addr)) (fp : List Addr), PG (X.blk s H scope (compEnvC scope cl C X.env) fp) a1 g) (pt : ∀ (s : Shared) (H : Hp) (C : Addr) (cl : List (Str × Addr)) (fp : List Addr), PTs (X.blk s H scope (compEnvC scope cl C X.env) fp) i1 tt)
    (pi1 : ∀ (s : Shared) (H : Hp) (C : Addr) (cl : List (Str × Addr)) (fp : List Addr), PI (X.blk s H scope (compEnvC scope cl C X.env) fp) a2 b2 wi1)
    (pg1 : ∀ (s : Shared) (H : Hp) (C : Addr) (cl : List (Str × Addr)) (fp : List Addr), PG (X.blk s H scope (compEnvC scope cl C X.env) fp) a2 g1) (pt1 : ∀ (s : Shared) (H : Hp) (C : Addr) (cl : List (Str × Addr)) (fp : List Addr), PTs (X.blk s H scope (compEnvC scope cl C X.env) fp) i2 tt1)
    (pk : ∀ (s : Shared) (H : Hp) (C : Addr) (cl : List (Str × Addr)) (fp : List Addr), PE (X.blk s H scope (compEnvC scope cl C X.env) fp) kx tk) (pv : ∀ (s : Shared) (H : Hp) (C : Addr) (cl : List (Str × Addr)) (fp : List Addr), PE (X.blk s H scope (compEnvC scope cl C X.env) fp) vx tv)
    (plain : ∀ x, foldedSetIterable b1 X.env x = pure x := by intro _; rfl) (plain1 : ∀ env x, foldedSetIterable b2 env x = pure x := by intro _ _; rfl) :
    PS X (.Assign [.Name y py] (.DictComp kx vx [⟨a1, b1, i1, 0⟩, ⟨a2, b2, i2, 0⟩] scope pos) spos) (tAsg (tDc2 wi g tt wi1 g1 tt1 tk tv (own.map (·.2)) vs1) (gName i)) := by
  constructor
  intro pins s σ H D I h
  rw [exec_Assign_Name_used _ _ _ _ sw]
  apply wpAny_bind
  apply wpAny_standAt
  apply wpAny_bind
  show wpAny _ X.A (do let _ ← comprehension (.DictComp kx vx [⟨a1, b1, i1, 0⟩, ⟨a2, b2, i2, 0⟩] scope pos) scope X.env (firstIterPos [⟨a1, b1, i1, 0⟩, ⟨a2, b2, i2, 0⟩] pos) newDict false (eval b1 X.env) (some (assign (.Name y py) X.env))) _ _ s
  have told : tDc2 wi g tt wi1 g1 tt1 tk tv (own.map (·.2)) vs1 σ H (fun x H1 => gName i x σ H1 D.nx) := h
  apply wpAny_bind
  apply thn (dc2_core (Qf := fun _ s' => SP X pins D .next s') calm nd src ok within pg pt pi1 pg1 pt1 pk pv plain plain1 I told fun L C s' m H' I' q hn f => ?_)
  · exact fun _ s' hq => wpAny_pure (wpAny_pure hq)
  · show wpAny _ _ (assign (.Name y py) X.env (.ref L)) _ _ _
    refine wpAny_assign_Name (store_ok2 (v := V.ref L) I' nd at_ (.inl loc) rfl (fun s2 I2 more => ?_) (.inr loc))
    obtain ⟨a, sb, ha⟩ := more
    obtain ⟨f0, f1, f2, f3, f4, f5⟩ := f
    have apart : C ≠ a := ha.elim (fun z => by rw [z]; exact f1) fun z e => f4 y a z e.symm
    exact ⟨m, hn.sameBut sb apart, fun h3 sb3 => ⟨_, H', I2.turned (t' := s2.toks) (fun b o hb e => (sb3.2 b hb).trans e) f0 f1 f3 f4 f5, q⟩⟩
end
end Dl

/-! d.update(o), both dicts with keys that are ints or texts: my own rule -/
namespace Dl
open PySem PySem.Spec PyProof.Rows L2
def putAll (kvs : List (Key × V)) : List (Key × V) → List (Key × V)
  | [] => kvs
  | p :: r => putAll (putK kvs p.1 p.2) r
theorem putAll_len : ∀ (more kvs : List (Key × V)), (putAll kvs more).length ≤ kvs.length + more.length
  | [], _ => Nat.le_refl _
  | p :: r, kvs => by
    have h1 := putAll_len r (putK kvs p.1 p.2)
    have h2 := length_putK kvs p.1 p.2
    rw [List.length_cons]
    unfold putAll
    omega
theorem putAll_rel : ∀ {more : List (Key × V)} {ms : List (Key × Value)} {kvs : List (Key × V)} {vs : List (Key × Value)}, KV kvs vs → KV more ms → KV (putAll kvs more) (merged vs ms)
  | [], _, _, _, r, .nil => r
  | p :: more, q :: ms, kvs, vs, r, .cons h t => by
    obtain ⟨e, rv⟩ := h
    have one := r.put p.1 rv
    have rest := putAll_rel (kvs := putK kvs p.1 p.2) (vs := stored vs p.1 q.2) one t
    have s1 : merged vs (q :: ms) = merged (stored vs q.1 q.2) ms := rfl
    rw [s1, ← e]
    exact rest
def rDUpdate : V → List V → Hp → VK → Prop := fun x vs H Q => ∃ (d o : Addr) (kvs more : List (Key × V)), x = .ref d ∧ vs = [.ref o] ∧ d ≠ o ∧ H d = some (.dK kvs) ∧ H o = some (.dK more) ∧ kvs.length + more.length ≤ 1000 ∧ Q .non (upd H d (.dK (putAll kvs more)))
theorem mt_dupdate {X : Cx} : MtR X "dict.update" rDUpdate := by
  intro pins s σ H x vs v us Q I rx rv h
  obtain ⟨d, o, kvs, more, rfl, rfl, ne, hd, ho, few, q⟩ := h
  cases rx
  rw [Vals.ref1 rv]
  obtain ⟨z1, own1, vs1, rel1, dd1⟩ := dk_of I.hok hd
  obtain ⟨z2, own2, vs2, rel2, dd2⟩ := dk_of I.hok ho
  have l1 : vs1.length = kvs.length := rel1.length.symm
  have l2 : vs2.length = more.length := rel2.length.symm
  have small : kvs.length + more.length ≤ sizeLine := Nat.le_trans few (by decide)
  refine call_meetsIn PySem.F.slot_dict_update dd1.typeIs PySem.F.entry_dict_update (PySem.F.args_dict_update_2 _ _) (meets_dict_update (mixKind X.prog X.w) d o ne own2) ⟨vs1, vs2, dd1, dd2, by rw [l1, l2]; exact small, fun h' dd' _ same => ?_⟩
  have he : ∃ q, h'.get? d = some q := by
    obtain ⟨q, _, _, hq, _⟩ := dd'
    exact ⟨q, hq⟩
  exact ⟨.non, _, d_write I (by rw [hd]; exact True.intro) same he (dk_new (Nat.le_trans (putAll_len more kvs) small) own1 (putAll_rel rel1 rel2) dd'), rfl, q⟩
end Dl

/-! what reached makes, as lists: my own -/
namespace Dl
open PySem PySem.Spec PyProof.Rows L2
abbrev Orig := List (Str × Option Str)
def oV : Option Str → V
  | none => .non
  | some z => .str z
def oKs (o : Orig) : List (Key × V) := o.map fun p => (Sum.inr p.1, oV p.2)
def putO (o : Orig) (k : Str) (v : Option Str) : Orig := if k ∈ o.map (·.1) then o.map (fun p => if p.1 = k then (p.1, v) else p) else o ++ [(k, v)]
theorem put_oKs (o : Orig) (k : Str) (v : Option Str) : putK (oKs o) (.inr k) (oV v) = oKs (putO o k v) := by
  have any : ((oKs o).any fun kv => decide (kv.1 = (.inr k : Key))) = decide (k ∈ o.map (·.1)) := by
    unfold oKs
    induction o with
    | nil => simp
    | cons p r ih =>
      rw [List.map_cons, List.any_cons, ih]
      by_cases e : p.1 = k
      · simp [e]
      · have e2 : ¬ k = p.1 := fun q => e q.symm
        simp [e, e2]
  unfold putK putO
  rw [any]
  by_cases m : k ∈ o.map (·.1)
  · rw [if_pos (decide_eq_true m), if_pos m]
    unfold oKs
    rw [List.map_map, List.map_map]
    refine List.map_congr_left fun p _ => ?_
    by_cases e : p.1 = k
    · simp [e]
    · simp [e]
  · rw [if_neg (by rw [decide_eq_false m]; decide), if_neg m]
    unfold oKs
    rw [List.map_append]
    rfl
theorem put_keys (o : Orig) (k : Str) (v : Option Str) : (putO o k v).map (·.1) = if k ∈ o.map (·.1) then o.map (·.1) else o.map (·.1) ++ [k] := by
  unfold putO
  by_cases m : k ∈ o.map (·.1)
  · rw [if_pos m, if_pos m, List.map_map]
    refine List.map_congr_left fun p _ => ?_
    by_cases e : p.1 = k
    · simp [e]
    · simp [e]
  · rw [if_neg m, if_neg m, List.map_append]
    rfl
theorem put_nodup {o : Orig} {k : Str} {v : Option Str} (h : (o.map (·.1)).Nodup) : ((putO o k v).map (·.1)).Nodup := by
  rw [put_keys]
  by_cases m : k ∈ o.map (·.1)
  · rw [if_pos m]; exact h
  · rw [if_neg m]
    exact List.nodup_append.mpr ⟨h, by simp, fun a ha b hb e => m (by rw [List.mem_singleton] at hb; rw [← hb, ← e]; exact ha)⟩
theorem mem_put {o : Orig} {k z : Str} {v : Option Str} : z ∈ (putO o k v).map (·.1) ↔ z ∈ o.map (·.1) ∨ z = k := by
  rw [put_keys]
  by_cases m : k ∈ o.map (·.1)
  · rw [if_pos m]
    exact ⟨.inl, fun h => h.elim id fun e => by rw [e]; exact m⟩
  · rw [if_neg m, List.mem_append, List.mem_singleton]
/-- one stop of the layer -/
def fOne (o : Orig) (stop : Str) : List Str → Orig → Orig
  | [], acc => acc
  | z :: r, acc => fOne o stop r (if z ∈ o.map (·.1) then acc else putO acc z (some stop))
def fAll (adj : Str → List Str) (o : Orig) : List Str → Orig → Orig
  | [], acc => acc
  | s :: r, acc => fAll adj o r (fOne o s (adj s) acc)
def addAll (o : Orig) : Orig → Orig
  | [] => o
  | p :: r => addAll (putO o p.1 p.2) r
theorem addAll_oKs : ∀ (f o : Orig), putAll (oKs o) (oKs f) = oKs (addAll o f)
  | [], _ => rfl
  | p :: r, o => by
    show putAll (putK (oKs o) (.inr p.1) (oV p.2)) (oKs r) = _
    rw [put_oKs]
    exact addAll_oKs r _
theorem mem_fOne {o : Orig} {stop z : Str} : ∀ {ys : List Str} {acc : Orig}, z ∈ (fOne o stop ys acc).map (·.1) ↔ z ∈ acc.map (·.1) ∨ (z ∈ ys ∧ z ∉ o.map (·.1))
  | [], acc => by simp [fOne]
  | y :: r, acc => by
    unfold fOne
    rw [mem_fOne]
    by_cases m : y ∈ o.map (·.1)
    · rw [if_pos m, List.mem_cons]
      constructor
      · rintro (h | ⟨h, n⟩)
        · exact .inl h
        · exact .inr ⟨.inr h, n⟩
      · rintro (h | ⟨h | h, n⟩)
        · exact .inl h
        · exact absurd (by rw [h]; exact m) n
        · exact .inr ⟨h, n⟩
    · rw [if_neg m, mem_put, List.mem_cons]
      constructor
      · rintro ((h | h) | ⟨h, n⟩)
        · exact .inl h
        · exact .inr ⟨.inl h, by rw [h]; exact m⟩
        · exact .inr ⟨.inr h, n⟩
      · rintro (h | ⟨h | h, n⟩)
        · exact .inl (.inl h)
        · exact .inl (.inr h)
        · exact .inr ⟨h, n⟩
theorem nodup_fOne {o : Orig} {stop : Str} : ∀ {ys : List Str} {acc : Orig}, (acc.map (·.1)).Nodup → ((fOne o stop ys acc).map (·.1)).Nodup
  | [], _, h => h
  | y :: r, acc, h => by
    unfold fOne
    refine nodup_fOne ?_
    split
    · exact h
    · exact put_nodup h
theorem mem_fAll {adj : Str → List Str} {o : Orig} {z : Str} : ∀ {ls : List Str} {acc : Orig}, z ∈ (fAll adj o ls acc).map (·.1) ↔ z ∈ acc.map (·.1) ∨ ((∃ s ∈ ls, z ∈ adj s) ∧ z ∉ o.map (·.1))
  | [], acc => by simp [fAll]
  | s :: r, acc => by
    unfold fAll
    rw [mem_fAll, mem_fOne]
    constructor
    · rintro ((h | ⟨h, n⟩) | ⟨⟨t, ht, h⟩, n⟩)
      · exact .inl h
      · exact .inr ⟨⟨s, List.mem_cons_self .., h⟩, n⟩
      · exact .inr ⟨⟨t, List.mem_cons_of_mem _ ht, h⟩, n⟩
    · rintro (h | ⟨⟨t, ht, h⟩, n⟩)
      · exact .inl (.inl h)
      · rcases List.mem_cons.mp ht with rfl | ht
        · exact .inl (.inr ⟨h, n⟩)
        · exact .inr ⟨⟨t, ht, h⟩, n⟩
theorem nodup_fAll {adj : Str → List Str} {o : Orig} : ∀ {ls : List Str} {acc : Orig}, (acc.map (·.1)).Nodup → ((fAll adj o ls acc).map (·.1)).Nodup
  | [], _, h => h
  | s :: r, acc, h => by
    unfold fAll
    exact nodup_fAll (nodup_fOne h)
theorem addAll_fresh : ∀ {f o : Orig}, (f.map (·.1)).Nodup → (∀ z ∈ f.map (·.1), z ∉ o.map (·.1)) → addAll o f = o ++ f
  | [], o, _, _ => by simp [addAll]
  | p :: r, o, nd, dis => by
    have nd := List.nodup_cons.mp (by rw [List.map_cons] at nd; exact nd)
    have h0 : p.1 ∉ o.map (·.1) := dis p.1 (by rw [List.map_cons]; exact List.mem_cons_self ..)
    have e : putO o p.1 p.2 = o ++ [p] := by
      unfold putO
      rw [if_neg h0]
    unfold addAll
    rw [e, addAll_fresh nd.2 (fun z hz hm => ?_), List.append_assoc]
    · rfl
    · rw [List.map_append, List.mem_append] at hm
      rcases hm with hm | hm
      · exact dis z (by rw [List.map_cons]; exact List.mem_cons_of_mem _ hz) hm
      · have e2 : z = p.1 := by simpa using hm
        exact nd.1 (by rw [← e2]; exact hz)
/-- reached, n turns at most -/
def reachF (adj : Str → List Str) (en : Option Str) : Nat → Orig → List Str → Orig
  | 0, o, _ => o
  | n + 1, o, layer => if layer = [] ∨ (∃ z, en = some z ∧ z ∈ o.map (·.1)) then o else reachF adj en n (o ++ fAll adj o layer []) ((fAll adj o layer []).map (·.1))
end Dl

namespace Dl
open PySem PySem.Spec PyProof.Rows L2
theorem sw_dict {kx vx : Expr} {gs : List Comprehension} {scope : Scope} {pos py : Pos} {y : Str} {l : Nat} {env : Env} (hk : env.scope.kind = .function) (hy : env.scope.names.lookup y = some .local) (hl : (py.line == pos.line) = true)
    (ha : (scope.names.any fun (n, k) => n == y && (k == .local || k == .cell)) = false) : swapsWith (.DictComp kx vx gs scope pos) (some (.Name y py)) l env = pure true := by
  have kind : env.kindOf y = some .local := hy
  have block : env.blockKind = .function := by
    unfold Env.blockKind
    rw [hk]
    rfl
  unfold swapsWith
  simp only [block, kind, ha, Expr.pos, hl]
  rfl
/-- a clause's walk by an assertion at each turn -/
theorem dc2_it {J : It} {n : Nat} {G : Hp → Prop} {Y : Nat → Hp → V → Hp → Prop} (w : Walk J n G Y) {g : TG} {tt : TT} {vs : List Nat} {σ0 : L2.St} {H1 : Hp} {Qd : Hp → Prop} {tb : L2.St → Hp → (Hp → Prop) → Prop} (Pv : Nat → Hp → Prop) (h0 : Pv 0 H1) (hG : ∀ i H, i ≤ n → Pv i H → G H)
    (hs : ∀ i x H H', i < n → Pv i H → Y i H x H' → g x σ0 H' fun σ2 H2 => wipe σ2 vs = σ0 ∧ tt σ2 H2 fun b H3 => if b = true then tb σ2 H3 (Pv (i + 1)) else Pv (i + 1) H3) (hd : ∀ H, Pv n H → Qd H) :
    ∃ W : Nat → Nat → Hp → Prop, (∃ m, W 0 m H1) ∧ ∀ i m H, W i m H →
      (J.stop i H ∧ Qd H) ∨ (J.go i H ∧ ∃ Nx : Hp → Prop, (∀ H', Nx H' → ∃ m', m' < m ∧ W (i + 1) m' H') ∧ ∀ x H', J.yld i H x H' → g x σ0 H' fun σ2 H2 => wipe σ2 vs = σ0 ∧ tt σ2 H2 fun b H3 => if b = true then tb σ2 H3 Nx else Nx H3) := by
  refine ⟨fun i m H => m + i = n ∧ Pv i H, ⟨n, Nat.add_zero n, h0⟩, ?_⟩
  rintro i m H ⟨e, p⟩
  have here := hG i H (by omega) p
  rcases Nat.lt_or_ge i n with lt | ge
  · exact .inr ⟨w.goes i H lt here, Pv (i + 1), fun H' p' => ⟨m - 1, by omega, by omega, p'⟩, fun x H' y => hs i x H H' lt p (w.yields i H x H' lt here y)⟩
  · have e2 : i = n := by omega
    subst e2
    exact .inl ⟨w.stops H here, hd H p⟩
theorem valV_oKs (o : Orig) (z : Str) : (valV (oKs o) (.inr z)).isSome = decide (z ∈ o.map (·.1)) := by
  unfold oKs
  induction o with
  | nil => rfl
  | cons p r ih =>
    rw [List.map_cons]
    by_cases e : p.1 = z
    · rw [valV_pos (by rw [e])]
      simp [e]
    · rw [valV_neg (fun q => e (Sum.inr.inj q)), ih]
      have e2 : ¬ z = p.1 := fun q => e q.symm
      simp [e2]
theorem fOne_snoc (o : Orig) (stop z : Str) : ∀ (ys : List Str) (acc : Orig), fOne o stop (ys ++ [z]) acc = if z ∈ o.map (·.1) then fOne o stop ys acc else putO (fOne o stop ys acc) z (some stop)
  | [], acc => by
    show fOne o stop [z] acc = _
    unfold fOne fOne
    rfl
  | y :: r, acc => by
    show fOne o stop (y :: (r ++ [z])) acc = _
    unfold fOne
    exact fOne_snoc o stop z r _
theorem fAll_snoc (adj : Str → List Str) (o : Orig) (s : Str) : ∀ (ls : List Str) (acc : Orig), fAll adj o (ls ++ [s]) acc = fOne o s (adj s) (fAll adj o ls acc)
  | [], acc => rfl
  | y :: r, acc => by
    show fAll adj o (y :: (r ++ [s])) acc = _
    unfold fAll
    exact fAll_snoc adj o s r _
theorem take_plus2 {α : Type} {l : List α} {i : Nat} {x : α} (h : l[i]? = some x) : l.take (i + 1) = l.take i ++ [x] := by
  rw [List.take_add_one, h]
  rfl
structure LeadsAt (K : PySem.W.Frag) (H : Hp) (l : Addr) (names : List Str) (adj : Str → List Str) : Prop where
  ex : ∃ kvs : List (Key × V), Rd H l (.dK kvs) ∧ ∀ s ∈ names, ∃ a, valV kvs (.inr s) = some (.ref a) ∧ SqL K H a ((adj s).map V.str)
theorem LeadsAt.of {K : PySem.W.Frag} {H H' : Hp} {l : Addr} {names : List Str} {adj : Str → List Str} (h : LeadsAt K H l names adj) (s : Same H H') : LeadsAt K H' l names adj := by
  obtain ⟨kvs, h1, h2⟩ := h.ex
  refine ⟨kvs, h1.elim (fun e => .inl (s _ _ e)) (fun e => .inr (e.elim fun o e => ⟨o, s _ _ e⟩)), fun z hz => ?_⟩
  obtain ⟨a, e, q⟩ := h2 z hz
  exact ⟨a, e, Same.seq s q⟩
def spReached (K : PySem.W.Frag) : Sp := fun vs H Q _ => ∃ (l : Addr) (st : Str) (en : Option Str) (names : List Str) (adj : Str → List Str), vs = [.ref l, .str st, oV en] ∧ LeadsAt K H l names adj ∧ names.Nodup ∧ names.length ≤ 100 ∧ st ∈ names ∧ (∀ s ∈ names, (adj s).length ≤ 100 ∧ ∀ z ∈ adj s, z ∈ names) ∧
  ∀ H' r, Same H H' → H r = none → H' r = some (.dK (oKs (reachF adj en (names.length + 1) [(st, none)] [st]))) → Q (.ref r) H'
structure TxtRe (mg : Str → Option Value) : Prop where
  len : mg "len" = none
  list : mg "list" = none
section
variable {P : Program} {w : World} {K : PySem.W.Frag} {mg : Str → Option Value} {base : Heap}
theorem scReached : FnScope ["leads", "start", "end", "origins", "layer", "further", "stop", "other"] ["leads", "start", "end"] (defScope sReached) := ⟨rfl, rfl, rfl, by decide +kernel, rfl, by decide +kernel, by decide +kernel⟩
theorem ok_reached {f : Addr} {fd : FuncData} (F : Fun K "reached" "reached" sReached f fd) (T : TxtRe mg) : FnOk P w K mg base CX0 1 f fd ["leads", "start", "end"] (spReached K) := by
  refine F.ok scReached (fun vs H Q E h => ?_) (fun cdv A outer s H vs Q E hr h => ?_)
  · obtain ⟨l, st, en, names, adj, rfl, _⟩ := h
    rfl
  · obtain ⟨l, st, en, names, adj, rfl, hL, nd, few, hst, hadj, k⟩ := h
    refine ⟨_, (pss_cons (ps_set (i := 3) scReached.nd rfl (Or.inr rfl) (pe_disp (pps_cons (pv 1) pe_non pps_nil) rfl rfl (by simp) (by decide)))
        (pss_cons (ps_set (i := 4) scReached.nd rfl (Or.inl rfl) (pe_lst (pa_cons (pv 1) pa_nil)))
        (pss_cons (ps_while PassesOwn.never (PW.pt (pw_and (pt_cmpR op_gt (pe_callB call_len_seq (by rfl) T.len PySem.boot_len (pa_cons (pv 4) pa_nil)) pe_int (nomark _)) (pw_and1 (pt_cmp (pc_dnotinN (hu_of hr) (pv 2) (pv 3)))))) (pss_cons (ps_setDc2 (i := 5) (own := [("stop", 6), ("other", 7)]) (vs1 := [7]) (g := gName 6) (g1 := gName 7) (tt := tYes) (wi1 := iList K (tDGet (tVar 0) (tVar 6))) (tt1 := tTest (tDNotIn (tVar 7) (tVar 3))) (tk := tVar 7) (tv := tVar 6) rfl scReached.nd rfl rfl (sw_dict rfl rfl rfl (by decide +kernel)) (pi_list (pv 4)) (blkOk_by (N := ["leads", "start", "end", "origins", "layer", "further", "stop", "other"]) (sc := defScope sReached) (by decide +kernel)) (by decide) (fun _ _ _ _ _ => pg_name (i := 6) scReached.nd rfl (Or.inl rfl)) (fun _ _ _ _ _ => pts_nil) (fun _ _ _ _ _ => by exact pi_list (pe_dget (hu_of hr) (pv 0) (pv 6) (fun _ _ => rfl))) (fun _ _ _ _ _ => pg_name (i := 7) scReached.nd rfl (Or.inl rfl)) (fun _ _ _ _ _ => pts_one (pt_cmp (pc_dnotin (hu_of hr) (pv 7) (pv 3)))) (fun _ _ _ _ _ => pv 7) (fun _ _ _ _ _ => pv 6))
        (pss_cons (ps_expr (pe_bm PySem.F.plainAttrs_dict PySem.F.slot_dict_update PySem.F.type_dict_update mt_dupdate (pv 3) (pa_cons (pv 5) pa_nil)))
        (pss_one (ps_set (i := 4) scReached.nd rfl (Or.inl rfl) (pe_callTy (call_listD rfl) (by rfl) T.list (by decide +kernel) (pa_cons (pv 5) pa_nil)))))))
        (pss_one (ps_ret (pv 3)))))), ?_⟩
    refine fun p hp => ⟨_, rfl, upd_same, [(.inr st, .non)], rfl, by simp, ?_⟩
    rw [upd_upd]
    have s1 := Same.upd_new hp (o := .dK (mergeK [] [(.inr st, .non)]))
    have hp1 : upd H p (.dK (mergeK [] [(.inr st, .non)])) p = some (.dK (oKs [(st, none)])) := upd_same
    generalize upd H p (.dK (mergeK [] [(.inr st, .non)])) = H1 at *
    refine ⟨_, rfl, by show 1 ≤ sizeLine; decide, fun y hy => ?_⟩
    have s2 := s1.trans (Same.upd_new hy (o := .lst [.str st]))
    have hp2 := (Same.upd_new hy (o := .lst [.str st])) _ _ hp1
    have hy2 : upd H1 y (.lst [.str st]) y = some (.lst ([st].map V.str)) := upd_same
    have npy : p ≠ y := ne_of_none hp1 hy
    generalize upd H1 y (.lst [.str st]) = H2 at *
    clear hp1 hy s1
    refine ⟨fun m σ H' => ∃ (o : Orig) (ls : List Str) (y : Addr) (x5 x6 x7 : Option V), σ = [some (.ref l), some (.str st), some (oV en), some (.ref p), some (.ref y), x5, x6, x7] ∧ Same H H' ∧ H' p = some (.dK (oKs o)) ∧ H' y = some (.lst (ls.map V.str)) ∧ y ≠ p ∧
      (o.map (·.1)).Nodup ∧ (∀ z ∈ o.map (·.1), z ∈ names) ∧ (∀ z ∈ ls, z ∈ names) ∧ ls.length ≤ 100 ∧ (ls = [] ∨ names.length + 2 ≤ m + o.length) ∧ reachF adj en m o ls = reachF adj en (names.length + 1) [(st, none)] [st],
      ⟨names.length + 1, [(st, none)], [st], y, none, none, none, rfl, s2, hp2, hy2, npy.symm, by simp, fun z hz => ?_, fun z hz => ?_, by simp, .inr (by simp), rfl⟩, ?_⟩
    · rw [show z = st by simpa using hz]; exact hst
    · rw [show z = st by simpa using hz]; exact hst
    rintro m σ H3 ⟨o, ls, y, x5, x6, x7, rfl, s3, hp3, hy3, nyp, ond, osub, lsub, lfew, meas, eq⟩
    have ofew : o.length ≤ names.length := by
      have := List.Nodup.length_le_of_subset ond osub
      rwa [List.length_map] at this
    have lz : (ls.map V.str).length = ls.length := List.length_map ..
    refine ⟨_, rfl, y, _, rfl, .inl (SqL.of hy3), _, _, rfl, rfl, _, rfl, ?_⟩
    by_cases le : ls = []
    · refine iteZ (decide_eq_false (by rw [lz, le]; simp)) ?_
      refine iteF ⟨_, rfl, k H3 p s3 hp ?_⟩
      rw [hp3, ← eq]
      subst le
      cases m with
      | zero => rfl
      | succ m => show _ = some (HO.dK (oKs (if ([] : List Str) = [] ∨ _ then o else _))); rw [if_pos (.inl rfl)]
    have pos : 0 < ls.length := List.length_pos_iff.mpr le
    have meas := meas.resolve_left le
    refine iteY (decide_eq_true (by rw [lz]; omega)) ?_
    obtain ⟨m, rfl⟩ : ∃ m', m = m' + 1 := ⟨m - 1, by omega⟩
    have run : ∀ R : V → Hp → Prop, (∀ b : Bool, (b = true ↔ ¬ ∃ z, en = some z ∧ z ∈ o.map (·.1)) → R (.bl b) H3) → tDNotInN (tVar 2) (tVar 3) [some (.ref l), some (.str st), some (oV en), some (.ref p), some (.ref y), x5, x6, x7] H3 R := by
      intro R hR
      cases en with
      | none => exact ⟨_, rfl, _, rfl, .inr ⟨p, _, rfl, rfl, .inl hp3, hR true (by simp)⟩⟩
      | some z =>
        refine ⟨_, rfl, _, rfl, .inl ⟨p, _, rfl, DGet.k (k := .inr z) hp3, ?_⟩⟩
        rw [valV_oKs]
        refine hR _ ?_
        by_cases q : z ∈ o.map (·.1)
        · rw [decide_eq_true q]
          exact ⟨fun e => absurd e (by decide), fun n => absurd ⟨z, rfl, q⟩ n⟩
        · rw [decide_eq_false q]
          exact ⟨fun _ n => by obtain ⟨z', e, h⟩ := n; cases e; exact q h, fun _ => rfl⟩
    refine run _ fun b hb => ⟨b, rfl, ?_⟩
    by_cases stop : ∃ z, en = some z ∧ z ∈ o.map (·.1)
    · refine iteZ (by cases b with | false => rfl | true => exact absurd stop (hb.mp rfl)) ⟨_, rfl, k H3 p s3 hp ?_⟩
      rw [hp3, ← eq]
      show _ = some (HO.dK (oKs (if ls = [] ∨ _ then o else _)))
      rw [if_pos (.inr stop)]
    refine iteY (hb.mpr stop) ?_
    have next : reachF adj en m (o ++ fAll adj o ls []) ((fAll adj o ls []).map (·.1)) = reachF adj en (names.length + 1) [(st, none)] [st] := by
      rw [← eq]
      show _ = (if ls = [] ∨ _ then o else _)
      rw [if_neg (fun q => q.elim le stop)]
    clear run hb eq
    have fnd : ((fAll adj o ls []).map (·.1)).Nodup := nodup_fAll (by simp)
    have fmem : ∀ z ∈ (fAll adj o ls []).map (·.1), z ∈ names ∧ z ∉ o.map (·.1) := fun z hz => by
      rcases mem_fAll.mp hz with h | ⟨⟨s, hs, h⟩, n⟩
      · exact absurd h (by simp)
      · exact ⟨(hadj s (lsub s hs)).2 z h, n⟩
    have ffew : (fAll adj o ls []).length ≤ names.length := by
      have := List.Nodup.length_le_of_subset fnd (fun z hz => (fmem z hz).1)
      rwa [List.length_map] at this
    refine ⟨_, fun σ' H' h => h, ?_⟩
    refine ⟨_, rfl, y, rfl, ⟨_, SqL.of hy3⟩, fun D hD => ?_⟩
    refine dc2_it (walk_list (K := K) (a := y) (xs := ls.map V.str)) (fun i H' => H' = upd H3 D (.dK (oKs (fAll adj o (ls.take i) [])))) rfl (fun i H' _ e => by rw [e]; exact SqL.of (Same.upd_new hD _ _ hy3)) ?_ ?_
    · rintro i v H4 H5 hi rfl ⟨rfl, hv⟩
      obtain ⟨s, hs, rfl⟩ : ∃ s, ls[i]? = some s ∧ v = .str s := by
        rw [List.getElem?_map] at hv
        cases e : ls[i]? with
        | none => rw [e] at hv; cases hv
        | some z => rw [e] at hv; exact ⟨z, rfl, (Option.some.inj hv).symm⟩
      have sn := lsub s (List.mem_of_getElem? hs)
      have here : ∀ x : Orig, Same H3 (upd H3 D (.dK (oKs x))) := fun x => Same.upd_new hD
      obtain ⟨kvs, hl3, hval⟩ := (hL.of s3).ex
      obtain ⟨a, ea, ha⟩ := hval s sn
      have hl : Rd (upd H3 D (.dK (oKs (fAll adj o (ls.take i) [])))) l (.dK kvs) := hl3.elim (fun e => .inl ((here _) _ _ e)) (fun e => .inr (e.elim fun ob e => ⟨ob, (here _) _ _ e⟩))
      have ha3 : ∀ x : Orig, SqL K (upd H3 D (.dK (oKs x))) a ((adj s).map V.str) := fun x => Same.seq (here x) ha
      refine ⟨rfl, _, rfl, _, rfl, l, .ref a, rfl, .inl ⟨kvs, .inr s, hl, rfl, ea.symm⟩, a, rfl, ⟨_, ha3 _⟩, ?_⟩
      refine dc2_it (walk_list (K := K) (a := a) (xs := (adj s).map V.str)) (fun j H' => H' = upd H3 D (.dK (oKs (fOne o s ((adj s).take j) (fAll adj o (ls.take i) []))))) rfl (fun j H' _ e => by rw [e]; exact ha3 _) ?_ ?_
      · rintro j v H6 H7 hj rfl ⟨rfl, hv⟩
        obtain ⟨z, hz, rfl⟩ : ∃ z, (adj s)[j]? = some z ∧ v = .str z := by
          rw [List.getElem?_map] at hv
          cases e : (adj s)[j]? with
          | none => rw [e] at hv; cases hv
          | some z => rw [e] at hv; exact ⟨z, rfl, (Option.some.inj hv).symm⟩
        have hp6 := (here (fOne o s ((adj s).take j) (fAll adj o (ls.take i) []))) _ _ hp3
        refine ⟨rfl, _, rfl, _, rfl, p, _, rfl, DGet.k (k := .inr z) hp6, _, rfl, ?_⟩
        rw [valV_oKs]
        by_cases q : z ∈ o.map (·.1)
        · refine iteZ (by rw [decide_eq_true q]; rfl) ?_
          rw [take_plus2 hz, fOne_snoc, if_pos q]
        · refine iteY (by rw [decide_eq_false q]; rfl) ?_
          refine ⟨_, rfl, _, rfl, _, .inr z, rfl, upd_same, ?_, ?_⟩
          · have nd2 : ((fOne o s ((adj s).take j) (fAll adj o (ls.take i) [])).map (·.1)).Nodup := nodup_fOne (nodup_fAll (by simp))
            have := List.Nodup.length_le_of_subset nd2 (l₂ := names) (fun y hy => by
              rcases mem_fOne.mp hy with h | ⟨h, _⟩
              · rcases mem_fAll.mp h with h | ⟨⟨t, ht, h⟩, _⟩
                · exact absurd h (by simp)
                · exact (hadj t (lsub t (List.mem_of_mem_take ht))).2 y h
              · exact (hadj s sn).2 y (List.mem_of_mem_take h))
            rw [List.length_map] at this
            unfold oKs
            rw [List.length_map]
            exact small1000 (by omega)
          · rw [upd_upd, take_plus2 hz, fOne_snoc, if_neg q]
            exact congrArg (fun x => upd H3 D (.dK x)) (put_oKs _ z (some s))
      · rintro H6 rfl
        rw [List.length_map, List.take_length, take_plus2 hs, fAll_snoc]
    · rintro H4 rfl
      rw [lz, List.take_length]
      have npD : p ≠ D := ne_of_none hp3 hD
      have s4 : Same H3 (upd H3 D (.dK (oKs (fAll adj o ls [])))) := Same.upd_new hD
      have hp4 := s4 _ _ hp3
      have hD4 := upd_same (H := H3) (a := D) (o := .dK (oKs (fAll adj o ls [])))
      generalize upd H3 D (.dK (oKs (fAll adj o ls []))) = H4 at *
      generalize fAll adj o ls [] = f at *
      have lo : (oKs o).length = o.length := List.length_map ..
      have lf : (oKs f).length = f.length := List.length_map ..
      refine ⟨_, rfl, .inr (.inr (.inl ⟨rfl, .inl ⟨_, hp4⟩⟩)), _, rfl, p, D, _, _, rfl, rfl, npD, hp4, hD4, by omega, ?_⟩
      rw [addAll_oKs, addAll_fresh fnd fun z hz => (fmem z hz).2]
      have hD5 : upd H4 p (.dK (oKs (o ++ f))) D = some (.dK (oKs f)) := by rw [upd_ne npD.symm]; exact hD4
      have hp5 := upd_same (H := H4) (a := p) (o := .dK (oKs (o ++ f)))
      have s5 : Same H (upd H4 p (.dK (oKs (o ++ f)))) := fun c ob e => by
        rw [upd_ne (ne_of_none e hp)]
        exact s4 _ _ (s3 _ _ e)
      generalize upd H4 p (.dK (oKs (o ++ f))) = H5 at *
      refine ⟨_, rfl, D, _, rfl, .inl hD5, fun q hq => ?_⟩
      have s6 := Same.upd_new hq (o := .lst ((oKs f).map fun kv => kV kv.1))
      have e1 : (oKs f).map (fun kv => kV kv.1) = (f.map (·.1)).map V.str := by
        unfold oKs
        rw [List.map_map, List.map_map]
        rfl
      refine ⟨m, Nat.lt_succ_self m, o ++ f, f.map (·.1), q, _, _, _, rfl, s5.trans s6, s6 _ _ hp5, by rw [← e1]; exact upd_same, (ne_of_none hp5 hq).symm, ?_, fun z hz => ?_, fun z hz => (fmem z hz).1, by rw [List.length_map]; omega, ?_, next⟩
      · rw [List.map_append]
        exact List.nodup_append.mpr ⟨ond, fnd, fun a ha b hb e => (fmem b hb).2 (by rw [← e]; exact ha)⟩
      · rw [List.map_append] at hz
        exact (List.mem_append.mp hz).elim (osub z) fun h => (fmem z h).1
      · rw [List.length_append]
        cases f with
        | nil => exact .inl rfl
        | cons c r => exact .inr (by rw [List.length_cons]; omega)
end
end Dl

namespace Dl
open PySem PySem.Spec PyProof.Rows L2
def spNAbout (K : PySem.W.Frag) (CN : Addr) : Sp := fun vs H Q _ => ∃ (p : Addr) (look : Str) (ks : List (List Str)), vs = [.ref p, .str look] ∧ NotesAt K CN H p ks ∧ GoodK ks ∧ ks.length < 64 ∧
  ∀ H' r, Same H H' → H r = none → NotesAt K CN H' r (normK (ks.filter fun k => decide (look ∈ k))) → Q (.ref r) H'
section
variable {P : Program} {w : World} {K : PySem.W.Frag} {mg : Str → Option Value} {base : Heap} {CN CI CE : Addr}
theorem scNAbout : FnScope ["self", "look", "pairs", "pair"] ["self", "look"] (defScope sNotesAbout) := ⟨rfl, rfl, rfl, by decide +kernel, rfl, by decide +kernel, by decide +kernel⟩
theorem ok_nabout {f : Addr} {fd : FuncData} (F : Fun K "about" "Notes.about" sNotesAbout f fd) (T : NoteM P w K mg base CN CI CE) : FnOk P w K mg base CX0 8 f fd ["self", "look"] (spNAbout K CN) := by
  obtain ⟨fN, M, GM⟩ := T.init
  refine F.ok scNAbout (fun vs H Q E h => ?_) (fun cdv A outer s H vs Q E hr h => ?_)
  · obtain ⟨p, look, ks, rfl, _⟩ := h
    rfl
  · obtain ⟨p, look, ks, rfl, hN1, g1, few, k⟩ := h
    obtain ⟨dx, tp, L, hp, htp, e1, hL⟩ := hN1.ex
    have hr7 : Room 7 _ := hr
    refine ⟨_, pss_cons (ps_setLc (i := 2) (own := [("pair", 3)]) (g := gName 3) (tt := tTest (tOp (rIn K false) (tVar 1) (tVar 3))) (te := tVar 3) rfl scNAbout.nd rfl rfl (sw_true rfl rfl rfl (by decide +kernel)) (pi_tup (pe_fld (pv 0) rfl)) (blkOk_by (N := ["self", "look", "pairs", "pair"]) (sc := defScope sNotesAbout) (by decide +kernel))
          (fun _ _ _ _ _ => pg_name (i := 3) scNAbout.nd rfl (Or.inl rfl)) (fun _ _ _ _ _ => pts_one (pt_cmpR (by exact op_in_seq : OpR _ _ (rIn K false)) (pv 1) (pv 3) (by rfl))) (fun _ _ _ _ _ => pv 3))
      (pss_one (ps_ret (pe_makeR1 M GM hr7 (by rfl) T.gN passL (pv 2)))), ?_⟩
    have l1 : L.length = ks.length := by rw [← e1, List.length_map]
    refine ⟨_, rfl, p, CN, dx, _, _, rfl, hp, T.cl, T.nP, pfN _, tp, rfl, ⟨_, SqT.of htp⟩, fun D hD => lc_it (walk_tup (K := K) (a := tp) (xs := L.map fun q => V.ref q.1)) (fun i H' => H' = upd H D (.lst (((L.take i).filter fun q => decide (look ∈ q.2)).map fun q => V.ref q.1))) rfl (fun i H' _ e => by rw [e]; exact SqT.of (Same.upd_new hD _ _ htp)) ?_ ?_⟩
    · rintro i v H1 H2 hi rfl ⟨rfl, hv⟩
      obtain ⟨z, hz, hzm, rfl⟩ := kf_at hv
      have hi' : i < L.length := (List.getElem?_eq_some_iff.mp hz).1
      have s1 : Same H (upd H D (.lst (((L.take i).filter fun q => decide (look ∈ q.2)).map fun q => V.ref q.1))) := Same.upd_new hD
      refine ⟨rfl, _, rfl, _, rfl, z.1, _, rfl, .inr (Same.tup s1 (hL z hzm)), rfl, flat_strs z.2, _, rfl, ?_⟩
      rw [inV_str]
      by_cases m : look ∈ z.2
      · refine iteY (decide_eq_true m) ?_
        refine ⟨_, rfl, _, upd_same, ?_, ?_⟩
        · rw [List.length_map]
          have := List.length_filter_le (fun q : Addr × List Str => decide (look ∈ q.2)) (L.take i)
          rw [List.length_take] at this
          exact small1000 (by omega)
        · rw [upd_upd, take_next hz, List.filter_append, List.filter_cons_of_pos (by simpa using m), List.filter_nil, List.map_append]
          rfl
      · refine iteZ (decide_eq_false m) ?_
        rw [take_next hz, List.filter_append, List.filter_cons_of_neg (by simpa using m), List.filter_nil, List.append_nil]
    · rintro H1 rfl
      rw [List.length_map, List.take_length]
      have s1 : Same H (upd H D (.lst ((L.filter fun q => decide (look ∈ q.2)).map fun q => V.ref q.1))) := Same.upd_new hD
      have ek : (L.filter fun q => decide (look ∈ q.2)).map (·.2) = ks.filter fun k => decide (look ∈ k) := by
        rw [← e1, List.filter_map]
        rfl
      refine ⟨_, rfl, D, _, rfl, .inr (SqL.of upd_same), fun x dx' nx ndx nex => note_keyed nx ndx nex (by rw [ek]; exact fun z hz => g1 z ((List.mem_filter.mp hz).1)) (fun z hz => Same.tup s1 (hL z ((List.mem_filter.mp hz).1))) ?_ fun H8 s8 at_ => ?_⟩
      · have := List.length_filter_le (fun q : Addr × List Str => decide (look ∈ q.2)) L
        omega
      · rw [ek] at at_
        exact k H8 x (s1.trans s8) (s1.free nx) at_
end
end Dl

namespace Dl
open PySem PySem.Spec PyProof.Rows L2
section
variable {X : Cx}
/-- the dict that an expression gives, frozen from then on -/
def tFrozen (td : TE) : TE := fun σ H Q => td σ H fun x H1 => ∃ d kvs, x = .ref d ∧ H1 d = some (.dK kvs) ∧ ∀ od, Q x (upd H1 d (.frz od (.dK kvs)))
theorem pe_frozen {e : Expr} {td : TE} (he : PE X e td) : PE X e (tFrozen td) := by
  constructor
  intro pins s σ H Q I h
  apply thn (he.run pins s σ H _ I h)
  rintro v s1 ⟨x, H1, I1, r1, d, kvs, rfl, hd, q⟩
  obtain ⟨od, I2⟩ := I1.lock hd True.intro
  exact ⟨.ref d, _, I2, r1, q od⟩
theorem sw_true2 {elt : Expr} {gs : List Comprehension} {scope : Scope} {pos py : Pos} {y : Str} {l : Nat} {env : Env} (hk : env.scope.kind = .function) (hy : env.scope.names.lookup y = some .local) (hl : (py.line == pos.line) = true)
    (ha : (scope.names.any fun (n, k) => n == y && (k == .local || k == .cell)) = false) : swapsWith (.ListComp elt gs scope pos) (some (.Name y py)) l env = pure true := sw_true hk hy hl ha
end
def seenZ (acc : List Str) : List Str → List Str
  | [] => acc
  | z :: r => seenZ (if z ∈ acc then acc else acc ++ [z]) r
def seenK (acc : List Str) : List (List Str) → List Str
  | [] => acc
  | k :: r => seenK (seenZ acc k) r
def adjP (ks : List (List Str)) (s : Str) : List Str := (ks.filter fun k => decide (k0 k = s)).map k1
abbrev Adr := List (Str × Addr)
def aKs (A : Adr) : List (Key × V) := A.map fun p => (Sum.inr p.1, V.ref p.2)
def putA (A : Adr) (k : Str) (a : Addr) : Adr := if k ∈ A.map (·.1) then A.map (fun p => if p.1 = k then (p.1, a) else p) else A ++ [(k, a)]
theorem any_aKs (k : Str) : ∀ A : Adr, ((aKs A).any fun kv => decide (kv.1 = (.inr k : Key))) = decide (k ∈ A.map (·.1))
  | [] => by simp [aKs]
  | p :: r => by
    have ih := any_aKs k r
    unfold aKs at ih ⊢
    rw [List.map_cons, List.any_cons, ih]
    by_cases e : p.1 = k
    · simp [e]
    · have e2 : ¬ k = p.1 := fun q => e q.symm
      simp [e, e2]
theorem put_aKs (A : Adr) (k : Str) (a : Addr) : putK (aKs A) (.inr k) (.ref a) = aKs (putA A k a) := by
  unfold putK putA
  rw [any_aKs]
  by_cases m : k ∈ A.map (·.1)
  · rw [if_pos (decide_eq_true m), if_pos m]
    unfold aKs
    rw [List.map_map, List.map_map]
    refine List.map_congr_left fun p _ => ?_
    by_cases e : p.1 = k
    · simp [e]
    · simp [e]
  · rw [if_neg (by rw [decide_eq_false m]; decide), if_neg m]
    unfold aKs
    rw [List.map_append]
    rfl
theorem putA_keys (A : Adr) (k : Str) (a : Addr) : (putA A k a).map (·.1) = if k ∈ A.map (·.1) then A.map (·.1) else A.map (·.1) ++ [k] := by
  unfold putA
  by_cases m : k ∈ A.map (·.1)
  · rw [if_pos m, if_pos m, List.map_map]
    refine List.map_congr_left fun p _ => ?_
    by_cases e : p.1 = k
    · simp [e]
    · simp [e]
  · rw [if_neg m, if_neg m, List.map_append]
    rfl
theorem mem_putA {A : Adr} {k : Str} {a : Addr} {q : Str × Addr} (h : q ∈ putA A k a) : (q ∈ A ∧ q.1 ≠ k) ∨ q = (k, a) := by
  unfold putA at h
  by_cases m : k ∈ A.map (·.1)
  · rw [if_pos m] at h
    obtain ⟨p, hp, rfl⟩ := List.mem_map.mp h
    by_cases e : p.1 = k
    · rw [if_pos e, e]; exact .inr rfl
    · rw [if_neg e]; exact .inl ⟨hp, e⟩
  · rw [if_neg m] at h
    rcases List.mem_append.mp h with h | h
    · exact .inl ⟨h, fun e => m (by rw [← e]; exact List.mem_map_of_mem h)⟩
    · exact .inr (List.mem_singleton.mp h)
theorem valV_aKs : ∀ {A : Adr}, (A.map (·.1)).Nodup → ∀ {q : Str × Addr}, q ∈ A → valV (aKs A) (.inr q.1) = some (.ref q.2)
  | p :: r, nd, q, h => by
    have nd := List.nodup_cons.mp (by rw [List.map_cons] at nd; exact nd)
    unfold aKs
    rw [List.map_cons]
    rcases List.mem_cons.mp h with rfl | h
    · rw [valV_pos rfl]
    · rw [valV_neg (fun e => nd.1 (by rw [show p.1 = q.1 from Sum.inr.inj e]; exact List.mem_map_of_mem h))]
      exact valV_aKs nd.2 h
theorem seenZ_snoc (z : Str) : ∀ (zs acc : List Str), seenZ acc (zs ++ [z]) = if z ∈ seenZ acc zs then seenZ acc zs else seenZ acc zs ++ [z]
  | [], acc => rfl
  | y :: r, acc => by
    show seenZ acc (y :: (r ++ [z])) = _
    unfold seenZ
    exact seenZ_snoc z r _
theorem seenK_snoc (k : List Str) : ∀ (ks : List (List Str)) (acc : List Str), seenK acc (ks ++ [k]) = seenZ (seenK acc ks) k
  | [], acc => rfl
  | y :: r, acc => by
    show seenK acc (y :: (r ++ [k])) = _
    unfold seenK
    exact seenK_snoc k r _
theorem seenZ_len : ∀ (zs acc : List Str), (seenZ acc zs).length ≤ acc.length + zs.length
  | [], acc => Nat.le_refl _
  | y :: r, acc => by
    unfold seenZ
    rw [List.length_cons]
    by_cases m : y ∈ acc
    · rw [if_pos m]
      have := seenZ_len r acc
      omega
    · rw [if_neg m]
      have := seenZ_len r (acc ++ [y])
      rw [List.length_append, List.length_singleton] at this
      omega
theorem seenK_len : ∀ (ks : List (List Str)) (acc : List Str), (∀ k ∈ ks, k.length = 2) → (seenK acc ks).length ≤ acc.length + 2 * ks.length
  | [], acc, _ => Nat.le_refl _
  | k :: r, acc, h => by
    unfold seenK
    have h1 := seenK_len r (seenZ acc k) fun z hz => h z (List.mem_cons_of_mem _ hz)
    have h2 := seenZ_len k acc
    have h3 := h k (List.mem_cons_self ..)
    rw [List.length_cons]
    omega
theorem mem_seenZ {z : Str} : ∀ {zs acc : List Str}, z ∈ seenZ acc zs ↔ z ∈ acc ∨ z ∈ zs
  | [], acc => by simp [seenZ]
  | y :: r, acc => by
    unfold seenZ
    rw [mem_seenZ, List.mem_cons]
    by_cases m : y ∈ acc
    · rw [if_pos m]
      constructor
      · rintro (h | h)
        · exact .inl h
        · exact .inr (.inr h)
      · rintro (h | h | h)
        · exact .inl h
        · exact .inl (by rw [h]; exact m)
        · exact .inr h
    · rw [if_neg m, List.mem_append, List.mem_singleton]
      constructor
      · rintro ((h | h) | h)
        · exact .inl h
        · exact .inr (.inl h)
        · exact .inr (.inr h)
      · rintro (h | h | h)
        · exact .inl (.inl h)
        · exact .inl (.inr h)
        · exact .inr h
theorem mem_seenK {z : Str} : ∀ {ks : List (List Str)} {acc : List Str}, z ∈ seenK acc ks ↔ z ∈ acc ∨ ∃ k ∈ ks, z ∈ k
  | [], acc => by simp [seenK]
  | k :: r, acc => by
    unfold seenK
    rw [mem_seenK, mem_seenZ]
    constructor
    · rintro ((h | h) | ⟨y, hy, h⟩)
      · exact .inl h
      · exact .inr ⟨k, List.mem_cons_self .., h⟩
      · exact .inr ⟨y, List.mem_cons_of_mem _ hy, h⟩
    · rintro (h | ⟨y, hy, h⟩)
      · exact .inl (.inl h)
      · rcases List.mem_cons.mp hy with rfl | hy
        · exact .inl (.inr h)
        · exact .inr ⟨y, hy, h⟩
theorem adjP_snoc (ks : List (List Str)) (k : List Str) (s : Str) : adjP (ks ++ [k]) s = if k0 k = s then adjP ks s ++ [k1 k] else adjP ks s := by
  unfold adjP
  rw [List.filter_append, List.map_append]
  by_cases e : k0 k = s
  · rw [if_pos e, List.filter_cons_of_pos (by simpa using e)]
    rfl
  · rw [if_neg e, List.filter_cons_of_neg (by simpa using e), List.filter_nil, List.map_nil, List.append_nil]
theorem reach_inv {adj : Str → List Str} {en : Option Str} {names : List Str} (cl : ∀ s ∈ names, ∀ z ∈ adj s, z ∈ names) : ∀ (n : Nat) (o : Orig) (ls : List Str), (o.map (·.1)).Nodup → (∀ z ∈ o.map (·.1), z ∈ names) → (∀ z ∈ ls, z ∈ names) →
    ((reachF adj en n o ls).map (·.1)).Nodup ∧ ∀ z ∈ (reachF adj en n o ls).map (·.1), z ∈ names
  | 0, o, ls, nd, sub, _ => ⟨nd, sub⟩
  | n + 1, o, ls, nd, sub, lsub => by
    show ((if ls = [] ∨ _ then o else _ : Orig).map (·.1)).Nodup ∧ ∀ z ∈ (if ls = [] ∨ _ then o else _ : Orig).map (·.1), z ∈ names
    by_cases c : ls = [] ∨ ∃ z, en = some z ∧ z ∈ o.map (·.1)
    · rw [if_pos c]; exact ⟨nd, sub⟩
    · rw [if_neg c]
      have fnd : ((fAll adj o ls []).map (·.1)).Nodup := nodup_fAll (by simp)
      have fmem : ∀ z ∈ (fAll adj o ls []).map (·.1), z ∈ names ∧ z ∉ o.map (·.1) := fun z hz => by
        rcases mem_fAll.mp hz with h | ⟨⟨s, hs, h⟩, n⟩
        · exact absurd h (by simp)
        · exact ⟨cl s (lsub s hs) z h, n⟩
      refine reach_inv cl n _ _ ?_ (fun z hz => ?_) fun z hz => (fmem z hz).1
      · rw [List.map_append]
        exact List.nodup_append.mpr ⟨nd, fnd, fun a ha b hb e => (fmem b hb).2 (by rw [← e]; exact ha)⟩
      · rw [List.map_append] at hz
        exact (List.mem_append.mp hz).elim (sub z) fun h => (fmem z h).1
/-- the new dict of new lists -/
structure InvA (H H' : Hp) (D : Addr) (A : Adr) : Prop where
  same : Same H H'
  dict : H' D = some (.dK (aKs A))
  nd : (A.map (·.1)).Nodup
  new : ∀ q ∈ A, H q.2 = none ∧ q.2 ≠ D ∧ H' q.2 = some (.lst [])
  inj : ∀ q ∈ A, ∀ r ∈ A, q.2 = r.2 → q = r
theorem InvA.put {H H' : Hp} {D a : Addr} {A : Adr} {y : Str} (I : InvA H H' D A) (hD : H D = none) (ha : H' a = none) : InvA H (upd (upd H' a (.lst [])) D (.dK (putK (aKs A) (.inr y) (.ref a)))) D (putA A y a) := by
  have naD : a ≠ D := fun e => by rw [e, I.dict] at ha; cases ha
  have fresh : H a = none := I.same.free ha
  have old : ∀ q ∈ A, q.2 ≠ a := fun q hq e => by
    have z := (I.new q hq).2.2
    rw [e, ha] at z
    cases z
  refine ⟨fun c o e => ?_, ?_, ?_, fun q hq => ?_, fun q hq r hr e => ?_⟩
  · rw [upd_ne (ne_of_none e hD), upd_ne (ne_of_none e fresh)]
    exact I.same _ _ e
  · rw [upd_same, put_aKs]
  · rw [putA_keys]
    by_cases m : y ∈ A.map (·.1)
    · rw [if_pos m]; exact I.nd
    · rw [if_neg m]
      exact List.nodup_append.mpr ⟨I.nd, by simp, fun u hu v hv e => m (by rw [List.mem_singleton] at hv; rw [← hv, ← e]; exact hu)⟩
  · rcases mem_putA hq with ⟨h, _⟩ | rfl
    · obtain ⟨h1, h2, h3⟩ := I.new q h
      exact ⟨h1, h2, by rw [upd_ne h2, upd_ne (old q h)]; exact h3⟩
    · exact ⟨fresh, naD, by rw [upd_ne naD, upd_same]⟩
  · rcases mem_putA hq with ⟨h, _⟩ | rfl <;> rcases mem_putA hr with ⟨h', _⟩ | rfl
    · exact I.inj q h r h' e
    · exact absurd e (old q h)
    · exact absurd e.symm (old r h')
    · rfl
def spNClosed (K : PySem.W.Frag) (CN : Addr) : Sp := fun vs H Q _ => ∃ (p : Addr) (ks : List (List Str)), vs = [.ref p] ∧ NotesAt K CN H p ks ∧ GoodK ks ∧ ks.length < 64 ∧ (seenK [] ks).length ≤ 7 ∧
  ∀ H' r ls, Same H H' → H r = none → NotesAt K CN H' r (normK ls) → (∀ k, k ∈ ls ↔ ∃ a ∈ seenK [] ks, ∃ z ∈ (reachF (adjP ks) none ((seenK [] ks).length + 1) [(a, none)] [a]).map (·.1), z ≠ a ∧ k = [a, z]) → Q (.ref r) H'
section
variable {P : Program} {w : World} {K : PySem.W.Frag} {mg : Str → Option Value} {base : Heap} {CN CI CE : Addr}
theorem scClosed : FnScope ["self", "leads", "pair", "name", "before", "after", "pairs", "other"] ["self"] (defScope sNotesClosed) := ⟨rfl, rfl, rfl, by decide +kernel, rfl, by decide +kernel, by decide +kernel⟩
theorem ok_nclosed {f : Addr} {fd : FuncData} (F : Fun K "closed" "Notes.closed" sNotesClosed f fd) (T : NoteM P w K mg base CN CI CE) (gR : Dfn P w K mg base CX0 1 "reached" ["leads", "start", "end"] (spReached K)) : FnOk P w K mg base CX0 8 f fd ["self"] (spNClosed K CN) := by
  obtain ⟨fN, M, GM⟩ := T.init
  obtain ⟨fR, dR, mReached, kReached, bReached, GReached⟩ := gR
  refine F.ok scClosed (fun vs H Q E h => ?_) (fun cdv A outer s H vs Q E hr h => ?_)
  · obtain ⟨p, ks, rfl, _⟩ := h
    rfl
  · obtain ⟨p, ks, rfl, hN1, g1, few, seven, k⟩ := h
    obtain ⟨dx, tp, L, hp, htp, e1, hL⟩ := hN1.ex
    have hr7 : Room 7 _ := hr
    have hr1 : Room 1 _ := hr.mono (by decide)
    refine ⟨_, (pss_cons (ps_set (i := 1) scClosed.nd rfl (Or.inr rfl) (pe_dc2 (own := [("pair", 2), ("name", 3)]) (vs1 := [3]) (g := gName 2) (g1 := gName 3) (tt := tYes) (tt1 := tYes) (wi1 := iTup K (tVar 2)) (tk := tVar 3) (tv := tLst tNil) rfl scClosed.nd (pi_tup (pe_fld (pv 0) rfl)) (blkOk_by (N := ["self", "leads", "pair", "name", "before", "after", "pairs", "other"]) (sc := defScope sNotesClosed) (by decide +kernel)) (by decide) (fun _ _ _ _ _ => pg_name (i := 2) scClosed.nd rfl (Or.inl rfl)) (fun _ _ _ _ _ => pts_nil) (fun _ _ _ _ _ => by exact pi_tup (pv 2)) (fun _ _ _ _ _ => pg_name (i := 3) scClosed.nd rfl (Or.inl rfl)) (fun _ _ _ _ _ => pts_nil) (fun _ _ _ _ _ => pv 3) (fun _ _ _ _ _ => pe_lst pa_nil)))
        (pss_cons (ps_for PassesOwn.never rfl (pi_tup (pe_fld (pv 0) rfl)) (pg_tup rfl (pgs_cons (pg_name (i := 4) scClosed.nd rfl (Or.inl rfl)) (pgs_cons (pg_name (i := 5) scClosed.nd rfl (Or.inl rfl)) pgs_nil))) (pss_one (ps_expr (pe_bm PySem.F.plainAttrs_list PySem.F.slot_list_append PySem.F.type_list_append mt_append (pe_dget (hu_of hr) (pv 1) (pv 4) (fun _ _ => rfl)) (pa_cons (pv 5) pa_nil)))))
        (pss_cons (ps_setLc2 (i := 6) (own := [("name", 3), ("other", 7)]) (vs1 := [7]) (g := gName 3) (g1 := gName 7) (tt := tYes) (wi1 := iKeys (tFrozen (tCall (spReached K) [] E0 (tCons (tVar 1) (tCons (tVar 3) (tCons (tC .non) tNil)))))) (tt1 := tTest (tOp rNe (tVar 7) (tVar 3))) (te := tTup (tCons (tVar 3) (tCons (tVar 7) tNil))) rfl scClosed.nd rfl rfl (sw_true2 rfl rfl rfl (by decide +kernel)) (pi_keys (pe_frozen (pv 1))) (blkOk_by (N := ["self", "leads", "pair", "name", "before", "after", "pairs", "other"]) (sc := defScope sNotesClosed) (by decide +kernel)) (by decide) (fun _ _ _ _ _ => pg_name (i := 3) scClosed.nd rfl (Or.inl rfl)) (fun _ _ _ _ _ => pts_nil) (fun _ _ _ _ _ => by exact pi_keys (pe_frozen (pe_call GReached hr1 (by rfl) mReached kReached bReached .nil pass0 (pa_cons (pv 1) (pa_cons (pv 3) (pa_cons pe_non pa_nil)))))) (fun _ _ _ _ _ => pg_name (i := 7) scClosed.nd rfl (Or.inl rfl)) (fun _ _ _ _ _ => pts_one (pt_cmpR (by exact op_ne : OpR _ _ rNe) (pv 7) (pv 3) (nomark _))) (fun _ _ _ _ _ => pe_tup (pa_cons (pv 3) (pa_cons (pv 7) pa_nil))))
        (pss_one (ps_ret (pe_makeR1 M GM hr7 (by rfl) T.gN passL (pv 6))))))), ?_⟩
    have two : ∀ k ∈ ks, k.length = 2 := fun k hk => by rw [(g1 k hk).eq.1]; rfl
    have l1 : L.length = ks.length := by rw [← e1, List.length_map]
    have keyat : ∀ {i : Nat} {z : Addr × List Str}, L[i]? = some z → ks[i]? = some z.2 := fun {i z} hz => by rw [← e1, List.getElem?_map, hz]; rfl
    refine ⟨_, rfl, p, CN, dx, _, _, rfl, hp, T.cl, T.nP, pfN _, tp, rfl, ⟨_, SqT.of htp⟩, fun D hD => ?_⟩
    refine dc2_it (walk_tup (K := K) (a := tp) (xs := L.map fun q => V.ref q.1)) (fun i H' => ∃ A, InvA H H' D A ∧ A.map (·.1) = seenK [] (ks.take i)) ⟨[], ⟨Same.upd_new hD, upd_same, by simp, fun q hq => absurd hq (by simp), fun q hq => absurd hq (by simp)⟩, rfl⟩ (fun i H' _ ⟨A, I, _⟩ => SqT.of (I.same _ _ htp)) ?_ ?_
    · rintro i v H1 H2 hi ⟨A, I, eA⟩ ⟨rfl, hv⟩
      obtain ⟨z, hz, hzm, rfl⟩ := kf_at hv
      have hi' : i < L.length := (List.getElem?_eq_some_iff.mp hz).1
      have gz : GoodP z.2 := g1 _ (by rw [← e1]; exact List.mem_map_of_mem hzm)
      have z2 : z.2.length = 2 := two _ (by rw [← e1]; exact List.mem_map_of_mem hzm)
      refine ⟨rfl, _, rfl, z.1, rfl, ⟨_, Same.tup I.same (hL z hzm)⟩, ?_⟩
      refine dc2_it (walk_tup (K := K) (a := z.1) (xs := z.2.map V.str)) (fun j H' => ∃ A, InvA H H' D A ∧ A.map (·.1) = seenZ (seenK [] (ks.take i)) (z.2.take j)) ⟨A, I, eA⟩ (fun j H' _ ⟨A, I, _⟩ => Same.tup I.same (hL z hzm)) ?_ ?_
      · rintro j v H3 H4 hj ⟨A, I, eA⟩ ⟨rfl, hv⟩
        obtain ⟨y, hy, rfl⟩ : ∃ y, z.2[j]? = some y ∧ v = .str y := by
          rw [List.getElem?_map] at hv
          cases e : z.2[j]? with
          | none => rw [e] at hv; cases hv
          | some y => rw [e] at hv; exact ⟨y, rfl, (Option.some.inj hv).symm⟩
        refine ⟨rfl, _, rfl, Nat.zero_le _, fun a ha => ⟨aKs A, .inr y, rfl, ?_, ?_, putA A y a, I.put hD ha, ?_⟩⟩
        · rw [upd_ne (fun e => by rw [← e, I.dict] at ha; cases ha)]
          exact I.dict
        · have h1 := seenZ_len (z.2.take j) (seenK [] (ks.take i))
          have h2 := seenK_len (ks.take i) [] fun k hk => two k (List.mem_of_mem_take hk)
          rw [← eA, List.length_map] at h1
          rw [List.length_take] at h1 h2
          rw [List.length_nil] at h2
          unfold aKs
          rw [List.length_map]
          exact small1000 (by omega)
        · rw [putA_keys, eA, take_plus2 hy, seenZ_snoc]
      · rintro H3 ⟨A, I, eA⟩
        rw [List.length_map, List.take_length] at eA
        exact ⟨A, I, by rw [take_plus2 (keyat hz), seenK_snoc]; exact eA⟩
    rintro H1 ⟨A, I, eA⟩
    rw [List.length_map, l1, List.take_length] at eA
    have hA : ∀ q ∈ A, H q.2 = none ∧ q.2 ≠ D := fun q hq => ⟨(I.new q hq).1, (I.new q hq).2.1⟩
    -- the lists
    refine ⟨_, rfl, p, CN, dx, _, _, rfl, I.same _ _ hp, T.cl, T.nP, pfN _, tp, rfl, ⟨_, SqT.of (I.same _ _ htp)⟩, for_it (walk_tup (K := K) (a := tp) (xs := L.map fun q => V.ref q.1)) (fun i σ H' => ∃ x4 x5, σ = [some (.ref p), some (.ref D), none, none, x4, x5, none, none] ∧ Same H H' ∧ H' D = some (.dK (aKs A)) ∧ ∀ q ∈ A, H' q.2 = some (.lst ((adjP (ks.take i) q.1).map V.str)))
      ⟨none, none, rfl, I.same, I.dict, fun q hq => (I.new q hq).2.2⟩ (fun i σ H' _ ⟨_, _, _, s, _⟩ => SqT.of (s _ _ htp)) ?_ ?_⟩
    · rintro i v σ H2 H3 hi ⟨x4, x5, rfl, s2, hD2, hq2⟩ ⟨rfl, hv⟩
      obtain ⟨z, hz, hzm, rfl⟩ := kf_at hv
      have hi' : i < L.length := (List.getElem?_eq_some_iff.mp hz).1
      have zk : z.2 ∈ ks := by rw [← e1]; exact List.mem_map_of_mem hzm
      have gz : GoodP z.2 := g1 _ zk
      have hzt := Same.tup s2 (hL z hzm)
      rw [gz.eq.1] at hzt
      have inA : k0 z.2 ∈ A.map (·.1) := by
        rw [eA]
        refine mem_seenK.mpr (.inr ⟨z.2, zk, ?_⟩)
        have e := gz.eq.1
        have m : k0 z.2 ∈ [k0 z.2, k1 z.2] := List.mem_cons_self ..
        rw [← e] at m
        exact m
      obtain ⟨q, hq, e0⟩ := List.mem_map.mp inA
      have hqa := hq2 q hq
      have hval := valV_aKs I.nd hq
      rw [e0] at hval
      refine ⟨z.1, _, rfl, hzt, rfl, _, _, rfl, _, _, rfl, rfl, ?_⟩
      refine ⟨_, rfl, _, rfl, D, .ref q.2, rfl, .inl ⟨aKs A, .inr (k0 z.2), .inl hD2, rfl, hval.symm⟩, .inl ⟨rfl, _, SqL.of hqa⟩, _, rfl, q.2, _, _, rfl, rfl, hqa, ?_, ?_⟩
      · rw [List.length_map]
        unfold adjP
        rw [List.length_map]
        have := List.length_filter_le (fun k : List Str => decide (k0 k = q.1)) (ks.take i)
        rw [List.length_take] at this
        exact small1000 (by omega)
      · refine ⟨_, _, rfl, fun c o e => ?_, ?_, fun r hr => ?_⟩
        · rw [upd_ne (ne_of_none e (hA q hq).1)]
          exact s2 _ _ e
        · rw [upd_ne (hA q hq).2.symm]
          exact hD2
        · rw [take_plus2 (keyat hz), adjP_snoc]
          by_cases e : r = q
          · subst e
            rw [upd_same, if_pos e0.symm, List.map_append]
            rfl
          · have ne : r.2 ≠ q.2 := fun e2 => e (I.inj r hr q hq e2)
            have nk : ¬ k0 z.2 = r.1 := fun e2 => e (by
              have nd := I.nd
              have h1 := valV_aKs nd hr
              rw [← e2, hval] at h1
              exact I.inj r hr q hq (V.ref.inj (Option.some.inj h1)).symm)
            rw [upd_ne ne, if_neg nk]
            exact hq2 r hr
    rintro σ H2 ⟨x4, x5, rfl, s2, hD2, hq2⟩
    rw [List.length_map, l1, List.take_length] at hq2
    -- the pairs
    generalize hn : A.map (·.1) = names at *
    have hnl : names.length ≤ 7 := by rw [eA]; exact seven
    have nnd : names.Nodup := by rw [← hn]; exact I.nd
    have cl : ∀ s ∈ names, (adjP ks s).length ≤ 100 ∧ ∀ z ∈ adjP ks s, z ∈ names := fun s _ => by
      refine ⟨?_, fun z hz => ?_⟩
      · unfold adjP
        rw [List.length_map]
        have := List.length_filter_le (fun k : List Str => decide (k0 k = s)) ks
        omega
      · unfold adjP at hz
        obtain ⟨k, hk, rfl⟩ := List.mem_map.mp hz
        have hk := (List.mem_filter.mp hk).1
        rw [eA]
        refine mem_seenK.mpr (.inr ⟨k, hk, ?_⟩)
        have e := (g1 k hk).eq.1
        have m : k1 k ∈ [k0 k, k1 k] := List.mem_cons_of_mem _ (List.mem_cons_self ..)
        rw [← e] at m
        exact m
    have rinv : ∀ a ∈ names, ((reachF (adjP ks) none (names.length + 1) [(a, none)] [a]).map (·.1)).Nodup ∧ ∀ z ∈ (reachF (adjP ks) none (names.length + 1) [(a, none)] [a]).map (·.1), z ∈ names := fun a ha =>
      reach_inv (fun s hs => (cl s hs).2) _ _ _ (by simp) (fun z hz => by rw [show z = a by simpa using hz]; exact ha) (fun z hz => by rw [show z = a by simpa using hz]; exact ha)
    have nval : ∀ a ∈ names, validN a = true := fun a ha => by
      rw [eA] at ha
      rcases mem_seenK.mp ha with h | ⟨k, hk, h⟩
      · exact absurd h (by simp)
      · obtain ⟨e, v1, v2, _⟩ := (g1 k hk).eq
        rw [e] at h
        rcases List.mem_cons.mp h with rfl | h
        · exact v1
        · rw [List.mem_singleton.mp h]; exact v2
    refine ⟨_, rfl, D, aKs A, rfl, hD2, fun od => ⟨D, od, rfl, .inl ⟨aKs A, upd_same, fun E1 hE => ?_⟩⟩⟩
    have s3 : Same H (upd H2 D (.frz od (.dK (aKs A)))) := fun c o e => by rw [upd_ne (ne_of_none e hD)]; exact s2 _ _ e
    have hD3 := upd_same (H := H2) (a := D) (o := .frz od (.dK (aKs A)))
    have hq3 : ∀ q ∈ A, upd H2 D (.frz od (.dK (aKs A))) q.2 = some (.lst ((adjP ks q.1).map V.str)) := fun q hq => by rw [upd_ne (hA q hq).2]; exact hq2 q hq
    generalize upd H2 D (.frz od (.dK (aKs A))) = H3 at *
    have s4 := Same.upd_new hE (o := .lst ([] : List V))
    refine dc2_it (walk_keys (d := D) (o := od) (kvs := aKs A)) (fun i H' => Same H H' ∧ H' D = some (.frz od (.dK (aKs A))) ∧ (∀ q ∈ A, H' q.2 = some (.lst ((adjP ks q.1).map V.str))) ∧ ∃ N : Keyed, H' E1 = some (.lst (N.map fun q => V.ref q.1)) ∧ (∀ q ∈ N, q.1 ≠ E1 ∧ H' q.1 = some (.tup (q.2.map V.str))) ∧
        (∀ k, k ∈ N.map (·.2) ↔ ∃ a ∈ names.take i, ∃ z ∈ (reachF (adjP ks) none (names.length + 1) [(a, none)] [a]).map (·.1), z ≠ a ∧ k = [a, z]) ∧ N.length ≤ 7 * i)
      ⟨s3.trans s4, s4 _ _ hD3, fun q hq => s4 _ _ (hq3 q hq), [], upd_same, fun q hq => absurd hq (by simp), fun k => by simp, by simp⟩ (fun i H' _ ⟨_, h, _⟩ => h) ?_ ?_
    · rintro i v H5 H6 hi ⟨s5, hD5, hq5, N, hN5, tN, mN, lN⟩ ⟨rfl, kk, vv, hkv, rfl⟩
      obtain ⟨q, hqi, ek⟩ : ∃ q, A[i]? = some q ∧ kk = .inr q.1 := by
        unfold aKs at hkv
        rw [List.getElem?_map] at hkv
        cases e : A[i]? with
        | none => rw [e] at hkv; cases hkv
        | some q => rw [e] at hkv; cases hkv; exact ⟨q, rfl, rfl⟩
      subst ek
      have hq := List.mem_of_getElem? hqi
      have ni : names[i]? = some q.1 := by rw [← hn, List.getElem?_map, hqi]; rfl
      have qn := List.mem_of_getElem? ni
      have i7 : i < 7 := by have := (List.getElem?_eq_some_iff.mp ni).1; omega
      refine ⟨rfl, _, rfl, _, rfl, D, q.1, none, names, adjP ks, rfl, ⟨aKs A, .inr ⟨od, hD5⟩, fun s hs => ?_⟩, nnd, by omega, qn, cl, fun H7 r s7 nr hr => ?_⟩
      · rw [← hn] at hs
        obtain ⟨q', hq', rfl⟩ := List.mem_map.mp hs
        exact ⟨q'.2, valV_aKs I.nd hq', SqL.of (hq5 q' hq')⟩
      refine ⟨r, _, rfl, hr, fun od2 => ⟨r, od2, rfl, .inl ⟨_, upd_same, ?_⟩⟩⟩
      obtain ⟨rnd, rsub⟩ := rinv q.1 qn
      have s8 : Same H6 (upd H7 r (.frz od2 (.dK (oKs (reachF (adjP ks) none (names.length + 1) [(q.1, none)] [q.1]))))) := fun c o e => by rw [upd_ne (ne_of_none e nr)]; exact s7 _ _ e
      have hr8 := upd_same (H := H7) (a := r) (o := .frz od2 (.dK (oKs (reachF (adjP ks) none (names.length + 1) [(q.1, none)] [q.1]))))
      generalize upd H7 r (.frz od2 (.dK (oKs (reachF (adjP ks) none (names.length + 1) [(q.1, none)] [q.1])))) = H8 at *
      have snoc : ∀ k, (∃ a ∈ names.take (i + 1), ∃ z ∈ (reachF (adjP ks) none (names.length + 1) [(a, none)] [a]).map (·.1), z ≠ a ∧ k = [a, z]) ↔ (k ∈ N.map (·.2) ∨ ∃ z ∈ (reachF (adjP ks) none (names.length + 1) [(q.1, none)] [q.1]).map (·.1), z ≠ q.1 ∧ k = [q.1, z]) := fun k => by
        rw [mN, take_plus2 ni]
        constructor
        · rintro ⟨a, ha, h⟩
          rcases List.mem_append.mp ha with ha | ha
          · exact .inl ⟨a, ha, h⟩
          · rw [List.mem_singleton.mp ha] at h
            exact .inr h
        · rintro (⟨a, ha, h⟩ | h)
          · exact ⟨a, List.mem_append_left _ ha, h⟩
          · exact ⟨q.1, List.mem_append_right _ (List.mem_singleton.mpr rfl), h⟩
      generalize reachF (adjP ks) none (names.length + 1) [(q.1, none)] [q.1] = Ra at *
      have rlen : Ra.length ≤ names.length := by
        have := List.Nodup.length_le_of_subset rnd rsub
        rwa [List.length_map] at this
      have lR : (oKs Ra).length = Ra.length := List.length_map ..
      refine dc2_it (walk_keys (d := r) (o := od2) (kvs := oKs Ra)) (fun j H' => Same H H' ∧ H' D = some (.frz od (.dK (aKs A))) ∧ (∀ q ∈ A, H' q.2 = some (.lst ((adjP ks q.1).map V.str))) ∧ H' r = some (.frz od2 (.dK (oKs Ra))) ∧ ∃ M : Keyed, H' E1 = some (.lst (M.map fun q => V.ref q.1)) ∧ (∀ q ∈ M, q.1 ≠ E1 ∧ H' q.1 = some (.tup (q.2.map V.str))) ∧
          (∀ k, k ∈ M.map (·.2) ↔ (k ∈ N.map (·.2) ∨ ∃ z ∈ (Ra.map (·.1)).take j, z ≠ q.1 ∧ k = [q.1, z])) ∧ M.length ≤ N.length + j)
        ⟨s5.trans s8, s8 _ _ hD5, fun p hp => s8 _ _ (hq5 p hp), hr8, N, s8 _ _ hN5, fun p hp => ⟨(tN p hp).1, s8 _ _ (tN p hp).2⟩, fun k => by simp, Nat.le_refl _⟩ (fun j H' _ ⟨_, _, _, h, _⟩ => h) ?_ ?_
      · rintro j v H9 H10 hj ⟨s9, hD9, hq9, hr9, M, hM9, tM, mM, lM⟩ ⟨rfl, kk, vv, hkv, rfl⟩
        obtain ⟨z, hz, ek⟩ : ∃ z, (Ra.map (·.1))[j]? = some z ∧ kk = .inr z := by
          unfold oKs at hkv
          rw [List.getElem?_map] at hkv
          cases e : Ra[j]? with
          | none => rw [e] at hkv; cases hkv
          | some p => rw [e] at hkv; cases hkv; exact ⟨p.1, by rw [List.getElem?_map, e]; rfl, rfl⟩
        subst ek
        have j7 : j < Ra.length := by rw [← lR]; exact hj
        have grow : ∀ k, (∃ y ∈ (Ra.map (·.1)).take (j + 1), y ≠ q.1 ∧ k = [q.1, y]) ↔ ((∃ y ∈ (Ra.map (·.1)).take j, y ≠ q.1 ∧ k = [q.1, y]) ∨ (z ≠ q.1 ∧ k = [q.1, z])) := fun k => by
          rw [take_plus2 hz]
          constructor
          · rintro ⟨y, hy, h⟩
            rcases List.mem_append.mp hy with hy | hy
            · exact .inl ⟨y, hy, h⟩
            · rw [List.mem_singleton.mp hy] at h
              exact .inr h
          · rintro (⟨y, hy, h⟩ | h)
            · exact ⟨y, List.mem_append_left _ hy, h⟩
            · exact ⟨z, List.mem_append_right _ (List.mem_singleton.mpr rfl), h⟩
        refine ⟨rfl, _, rfl, _, rfl, rfl, _, rfl, ?_⟩
        by_cases ez : z = q.1
        · refine iteZ (by rw [ez]; simp [kV]) ?_
          exact ⟨s9, hD9, hq9, hr9, M, hM9, tM, fun k => by rw [mM, grow]; simp [ez], by omega⟩
        · refine iteY (by simp [kV, ez]) ?_
          refine ⟨_, rfl, _, rfl, by show 2 ≤ sizeLine; decide, fun t ht => ⟨M.map fun q => V.ref q.1, (Same.upd_new ht) _ _ hM9, ?_, ?_⟩⟩
          · rw [List.length_map]
            exact small1000 (by omega)
          · have s10 := Same.upd_new ht (o := .tup [.str q.1, .str z])
            have nEt : E1 ≠ t := ne_of_none hM9 ht
            have hE0 : H E1 = none := s3.free hE
            have nDE : D ≠ E1 := ne_of_none hD3 hE
            have nrE : r ≠ E1 := fun e => by rw [e, hM9] at hr9; cases hr9
            have nq : ∀ p ∈ A, p.2 ≠ E1 := fun p hp e => by
              have x := hq3 p hp
              rw [e, hE] at x
              cases x
            refine ⟨fun c o e => ?_, ?_, fun p hp => ?_, ?_, M ++ [(t, [q.1, z])], ?_, fun p hp => ?_, fun k => ?_, by rw [List.length_append, List.length_singleton]; omega⟩
            · rw [upd_ne (ne_of_none e hE0)]
              exact s10 _ _ (s9 _ _ e)
            · rw [upd_ne nDE]
              exact s10 _ _ hD9
            · rw [upd_ne (nq p hp)]
              exact s10 _ _ (hq9 p hp)
            · rw [upd_ne nrE]
              exact s10 _ _ hr9
            · rw [upd_same, List.map_append]
              rfl
            · rcases List.mem_append.mp hp with h | h
              · exact ⟨(tM p h).1, by rw [upd_ne (tM p h).1]; exact s10 _ _ (tM p h).2⟩
              · obtain rfl := List.mem_singleton.mp h
                exact ⟨nEt.symm, by rw [upd_ne nEt.symm]; exact upd_same⟩
            · rw [List.map_append, List.mem_append, mM, grow]
              constructor
              · rintro ((h | h) | h)
                · exact .inl h
                · exact .inr (.inl h)
                · exact .inr (.inr ⟨ez, List.mem_singleton.mp h⟩)
              · rintro (h | h | ⟨_, h⟩)
                · exact .inl (.inl h)
                · exact .inl (.inr h)
                · exact .inr (List.mem_singleton.mpr h)
      · rintro H9 ⟨s9, hD9, hq9, hr9, M, hM9, tM, mM, lM⟩
        have tk : (Ra.map (·.1)).take (oKs Ra).length = Ra.map (·.1) := List.take_of_length_le (by rw [lR, List.length_map]; exact Nat.le_refl _)
        rw [tk] at mM
        exact ⟨s9, hD9, hq9, M, hM9, tM, fun k => by rw [mM, snoc], by omega⟩
    · rintro H5 ⟨s5, hD5, hq5, N, hN5, tN, mN, lN⟩
      have la : (aKs A).length = names.length := by rw [← hn]; unfold aKs; rw [List.length_map, List.length_map]
      rw [la, List.take_length] at mN
      rw [la] at lN
      have gN : GoodK (N.map (·.2)) := fun k hk => by
        obtain ⟨a, ha, z, hz, ne, rfl⟩ := (mN k).mp hk
        exact ⟨_, _, rfl, nval a ha, nval z ((rinv a ha).2 z hz), fun e => ne e.symm⟩
      refine ⟨_, rfl, E1, _, rfl, .inr (SqL.of hN5), fun x dx' nx ndx nex => note_keyed nx ndx nex gN (fun z hz => SqT.of (tN z hz).2) (by omega) fun H8 s8 at_ => ?_⟩
      refine k H8 x (N.map (·.2)) (s5.trans s8) (s5.free nx) at_ fun kk => ?_
      rw [mN, ← eA]
end
end Dl

/-! sorted(a list of tuples of texts): my own rule -/
namespace Dl
open PySem PySem.Spec PyProof.Rows L2
section
variable {X : Cx}
def rSortTxL (K : PySem.W.Frag) : List V → Hp → VK → Prop := fun vs H Q => ∃ (l : Addr) (ks : Keyed), vs = [V.ref l] ∧ SqL K H l (ks.map fun p => V.ref p.1) ∧ (∀ p ∈ ks, SqT K H p.1 (p.2.map V.str)) ∧ (∀ p ∈ ks, p.2 ≠ []) ∧ ks.length < 64 ∧
  ∀ (L' : Keyed) (p : Addr), L'.Perm ks → L'.map (·.2) = sortK (ks.map (·.2)) → H p = none → Q (.ref p) (upd H p (.lst (L'.map fun q => V.ref q.1)))
theorem each_of {R1 : Value → Addr × List Str → Prop} : ∀ {M : Keyed}, (∀ q ∈ M, R1 (.ref q.1) q) → PySem.W.EachIs R1 (M.map fun q => Value.ref q.1) M
  | [], _ => .nil
  | q :: M, all => .cons (all q (List.mem_cons_self ..)) (each_of fun r hr => all r (List.mem_cons_of_mem _ hr))
theorem each_back : ∀ {us : List Value} {M : Keyed}, PySem.W.EachIs (fun v (q : Addr × List Str) => v = Value.ref q.1) us M → us = M.map fun q => Value.ref q.1
  | _, _, .nil => rfl
  | _, _, .cons e r => by rw [List.map_cons, e, each_back r]
theorem cr_sortTxL (hu : X.A.units + 64 < cLine) : CallR X (.builtin "sorted") (rSortTxL X.K) := by
  intro pins s σ H vs us Q I r h
  obtain ⟨l, ks, rfl, seq, txt, full, few, q⟩ := h
  obtain ⟨its, rv, pl, hz⟩ := I.list seq
  have eits := refs_tx rv
  subst eits
  rw [Vals.ref1 r]
  have reads : ∀ p ∈ ks, Reads s.heap (.ref p.1) (txData p.2) [] := fun p hp => (tx_of I (txt p hp)).reads (P := X.prog) (w := X.w)
  have alikes : PySem.W.AllAlike (ks.map fun q : Addr × List Str => txData q.2) := PySem.W.AllAlike.of (enc := fun q : Addr × List Str => txData q.2) fun q r => by
    unfold txData
    rw [PySem.W.alike]
    exact alike_texts _ _
  have sortable : PySem.W.Sortable (ks.map fun q : Addr × List Str => txData q.2) := .inl fun d hd => by
    obtain ⟨q, hq, rfl⟩ := List.mem_map.mp hd
    have ne := full q hq
    cases e : q.2 with
    | nil => exact absurd e ne
    | cons z r => exact ⟨PyData.str z, r.map PyData.str, rfl⟩
  have flat : ∀ k : List Str, (txData k).depth ≤ 1 := fun k => by
    unfold txData
    rw [PyData.depth, depthAll_strs]
    omega
  refine PySem.W.sorted_data (R := fun v (q : Addr × List Str) => v = Value.ref q.1) (enc := fun q : Addr × List Str => txData q.2) (bs := ks) pl.isList (each_of fun q _ => rfl) (each_of fun p hp => ⟨[], reads p hp⟩) alikes sortable (by rw [sizeLine_eq]; omega) (fun b _ => by have := flat b.2; omega) fun out len outs => ?_
  obtain ⟨c, at_⟩ := sortedAll_at s.heap (ks.map fun p => Value.ref p.1) (List.toArray out)
  have eo := each_back outs
  have perm := List.mergeSort_perm ks (PySem.W.dataLe false fun q : Addr × List Str => txData q.2)
  have keys : (ks.mergeSort (PySem.W.dataLe false fun q : Addr × List Str => txData q.2)).map (·.2) = sortK (ks.map (·.2)) := List.map_mergeSort fun _ _ _ _ => rfl
  have new : H (s.heap.objs.size + 1) = none := I.hok.fresh (Nat.le_succ _)
  have J : Inv X pins σ (upd H (s.heap.objs.size + 1) (.lst ((ks.mergeSort (PySem.W.dataLe false fun q : Addr × List Str => txData q.2)).map fun q => V.ref q.1))) { s with heap := sortedAll s.heap (ks.map fun p => Value.ref p.1) (List.toArray out) } :=
    I.laid (t' := s.toks) (fun b o e => sortedAll_old e) (Nat.le_succ _) ⟨by rw [List.length_map, perm.length_eq, sizeLine_eq]; omega, out, c, by rw [eo]; exact vals_tx _, by simpa using at_⟩
  exact ⟨.ref (s.heap.objs.size + 1), _, J, rfl, q _ _ perm keys new⟩
end
end Dl

namespace Dl
open PySem PySem.Spec PyProof.Rows L2
structure TxtL28 (mg : Str → Option Value) : Prop where
  isinstance : mg "isinstance" = none
  bool : mg "bool" = none
  int : mg "int" = none
  tuple : mg "tuple" = none
  list : mg "list" = none
  len : mg "len" = none
  range : mg "range" = none
  set_ : mg "set" = none
  sor : mg "sorted" = none
  str : mg "str" = none
structure PairsAt (H : Hp) (p : Addr) (L : Keyed) : Prop where
  lst : H p = some (.lst (L.map fun q => V.ref q.1))
  tup : ∀ q ∈ L, H q.1 = some (.tup (q.2.map V.str))
  good : GoodK (L.map (·.2))
theorem PairsAt.of {H H' : Hp} {p : Addr} {L : Keyed} (h : PairsAt H p L) (s : Same H H') : PairsAt H' p L := ⟨s _ _ h.lst, fun q hq => s _ _ (h.tup q hq), h.good⟩
theorem PairsAt.ofB {b : Addr} {H H' : Hp} {p : Addr} {L : Keyed} (h : PairsAt H p L) (s : SameB b H H') (n : p ≠ b) (hb : ∃ xs, H b = some (.lst xs)) : PairsAt H' p L :=
  ⟨s _ _ n h.lst, fun q hq => s _ _ (fun e => by obtain ⟨xs, hb⟩ := hb; have z := h.tup q hq; rw [e, hb] at z; cases z) (h.tup q hq), h.good⟩
theorem PairsAt.txt {K : PySem.W.Frag} {H : Hp} {p : Addr} {L : Keyed} (h : PairsAt H p L) : ∀ q ∈ L, SqT K H q.1 (q.2.map V.str) := fun q hq => SqT.of (h.tup q hq)
theorem atI_ge {xs : List V} {j : Nat} {v : V} (h : xs[j]? = some v) : atI xs ((j : Nat) : Int) = some v := by
  unfold atI
  rw [ix_at (List.getElem?_eq_some_iff.mp h).1]
  exact h
theorem other_ix {f t m : Int} (f0 : 0 ≤ f) (f1 : f < m) (t0 : 0 ≤ t) (t1 : t < m - 1) : 0 ≤ (f + 1 + t) % m ∧ (f + 1 + t) % m < m ∧ (f + 1 + t) % m ≠ f := by
  have m0 : 0 < m := by omega
  refine ⟨Int.emod_nonneg _ (by omega), Int.emod_lt_of_pos _ m0, fun e => ?_⟩
  have d := Int.mul_ediv_add_emod (f + 1 + t) m
  rw [e] at d
  rcases Int.lt_or_le 0 ((f + 1 + t) / m) with q | q
  · have := Int.mul_le_mul_of_nonneg_left (show (1 : Int) ≤ (f + 1 + t) / m by omega) (show 0 ≤ m by omega)
    omega
  · have := Int.mul_le_mul_of_nonneg_left q (show 0 ≤ m by omega)
    omega
def spInt28 : Sp := fun vs H Q _ => ∃ a : Int, vs = [.int a] ∧ Q (.bl true) H
def spPairs : Sp := fun vs H Q _ => ∃ (b u : Addr) (L : List Int) (zs : List Str) (n : Int), vs = [.ref b, .ref u, .int n] ∧ H b = some (.lst (L.map V.int)) ∧ BagOk L ∧ H u = some (.lst (zs.map V.str)) ∧ u ≠ b ∧ NamesOk zs ∧ 2 ≤ zs.length ∧ 0 ≤ n ∧ n ≤ 8 ∧
  ∀ (H' : Hp) (p : Addr) (L' : List Int) (M : Keyed), SameB b H H' → H p = none → p ≠ b → H' b = some (.lst (L'.map V.int)) → BagOk L' → PairsAt H' p M → (∀ k ∈ M.map (·.2), k0 k ∈ zs ∧ k1 k ∈ zs) → M.length ≤ 8 → (M.length : Int) ≤ n → Q (.ref p) H'
section
variable {P : Program} {w : World} {K : PySem.W.Frag} {mg : Str → Option Value} {base : Heap}
theorem scLawPairs : FnScope ["_law_bag_here", "_law_looks", "_law_count", "_law_pairs_here", "_law_k", "_law_first", "_law_second"] ["_law_bag_here", "_law_looks", "_law_count"] (defScope sLawPairs) := ⟨rfl, rfl, rfl, by decide +kernel, rfl, by decide +kernel, by decide +kernel⟩
theorem ok_pairs {f : Addr} {fd : FuncData} (F : Fun K "_law_pairs" "_law_pairs" sLawPairs f fd) (T : TxtL28 mg) (gT : Dfn P w K mg base CX0 1 "_law_take" ["_law_bag_here", "_law_size"] spTake) : FnOk P w K mg base CX0 2 f fd ["_law_bag_here", "_law_looks", "_law_count"] spPairs := by
  obtain ⟨fT, dT, mTake, kTake, bTake, GTake⟩ := gT
  refine F.ok scLawPairs (fun vs H Q E h => ?_) (fun cdv A outer s H vs Q E hr h => ?_)
  · obtain ⟨b, u, L, zs, n, rfl, _⟩ := h
    rfl
  · obtain ⟨b, u, L, zs, n, rfl, hb, ok, hu, nub, okz, z2, n0, n5, k⟩ := h
    have hr1 : Room 1 _ := hr.mono (by decide)
    obtain ⟨n, rfl⟩ := Int.eq_ofNat_of_zero_le n0
    have zfew := okz.few
    have lz : (zs.map V.str).length = zs.length := List.length_map ..
    refine ⟨_, (pss_cons (ps_set (i := 3) scLawPairs.nd rfl (Or.inl rfl) (pe_lst pa_nil))
        (pss_cons (ps_if (pt_cmpR op_lt (pe_callB call_len_seq (by rfl) T.len PySem.boot_len (pa_cons (pv 1) pa_nil)) pe_int (nomark _)) (pss_one (ps_ret (pv 3))) pss_nil)
        (pss_cons (ps_for PassesOwn.never rfl (pi_range1 (by rfl) T.range (pa_cons (pv 2) pa_nil)) (pg_name (i := 4) scLawPairs.nd rfl (Or.inl rfl)) (pss_cons (ps_set (i := 5) scLawPairs.nd rfl (Or.inl rfl) (pe_call GTake hr1 (by rfl) mTake kTake bTake .nil pass0 (pa_cons (pv 0) (pa_cons (pe_callB call_len_seq (by rfl) T.len PySem.boot_len (pa_cons (pv 1) pa_nil)) pa_nil))))
        (pss_cons (ps_set (i := 6) scLawPairs.nd rfl (Or.inl rfl) (pe_op op_mod (pe_callTy call_int1 (by rfl) T.int (by decide +kernel) (pa_cons (pe_op op_add (pe_op op_add (pv 5) pe_int) (pe_call GTake hr1 (by rfl) mTake kTake bTake .nil pass0 (pa_cons (pv 0) (pa_cons (pe_op op_sub (pe_callB call_len_seq (by rfl) T.len PySem.boot_len (pa_cons (pv 1) pa_nil)) pe_int) pa_nil)))) pa_nil)) (pe_callB call_len_seq (by rfl) T.len PySem.boot_len (pa_cons (pv 1) pa_nil))))
        (pss_one (ps_expr (pe_bm PySem.F.plainAttrs_list PySem.F.slot_list_append PySem.F.type_list_append mt_append (pv 3) (pa_cons (pe_tup (pa_cons (pe_ix ix_list (pv 1) (pv 5) (fun _ _ => rfl)) (pa_cons (pe_ix ix_list (pv 1) (pv 6) (fun _ _ => rfl)) pa_nil))) pa_nil)))))))
        (pss_one (ps_ret (pv 3)))))), ?_⟩
    refine ⟨Nat.zero_le _, fun p hp => ?_⟩
    have npb : p ≠ b := fun e => by rw [e, hb] at hp; cases hp
    have npu : p ≠ u := fun e => by rw [e, hu] at hp; cases hp
    have hb3 := (Same.upd_new hp (o := .lst ([] : List V))) _ _ hb
    have hu3 := (Same.upd_new hp (o := .lst ([] : List V))) _ _ hu
    refine ⟨_, rfl, u, _, rfl, .inl (SqL.of hu3), _, _, rfl, rfl, _, rfl, iteZ (decide_eq_false (by rw [lz]; omega)) ?_⟩
    refine ⟨_, rfl, _, rfl, by omega, by omega, for_range (lo := 0) (fun i σ H' => ∃ (M : Keyed) (x4 x5 x6 : Option V), σ = [some (.ref b), some (.ref u), some (.int n), some (.ref p), x4, x5, x6] ∧
        SameB b H H' ∧ BagIn H' b ∧ PairsAt H' p M ∧ M.length = i ∧ ∀ k ∈ M.map (·.2), k0 k ∈ zs ∧ k1 k ∈ zs)
      ⟨[], none, none, none, rfl, fun c o nc h => by rw [upd_ne (ne_of_none h hp)]; exact h, ⟨L, hb3, ok⟩, ⟨upd_same, fun q hq => absurd hq (by simp), fun q hq => absurd hq (by simp)⟩, rfl, fun q hq => absurd hq (by simp)⟩ ?_ ?_⟩
    · rintro i σ H4 hi ⟨M, x4, x5, x6, rfl, t4, ⟨L4, hb4, ok4⟩, hM, hl, inZ⟩
      have hu4 := t4 _ _ nub hu
      refine ⟨_, rfl, _, rfl, u, _, rfl, .inl (SqL.of hu4), b, L4, _, rfl, hb4, ok4, by omega, by omega, fun L5 j ok5 j0 j1 => ?_⟩
      rw [lz] at j1
      have t5 := t4.trans (draw_same (L := L5))
      have hM5 := hM.ofB (draw_same (L := L5)) npb ⟨_, hb4⟩
      have hb5 := upd_same (H := H4) (a := b) (o := .lst (L5.map V.int))
      have hu5 := t5 _ _ nub hu
      generalize upd H4 b (.lst (L5.map V.int)) = H5 at *
      refine ⟨_, rfl, _, _, rfl, rfl, _, rfl, _, rfl, u, _, rfl, .inl (SqL.of hu5), _, _, rfl, rfl, b, L5, _, rfl, hb5, ok5, by omega, by omega, fun L6 j' ok6 j0' j1' => ?_⟩
      rw [lz] at j1'
      have t6 := t5.trans (draw_same (L := L6))
      have hM6 := hM5.ofB (draw_same (L := L6)) npb ⟨_, hb5⟩
      have hb6 := upd_same (H := H5) (a := b) (o := .lst (L6.map V.int))
      have hu6 := t6 _ _ nub hu
      generalize upd H5 b (.lst (L6.map V.int)) = H6 at *
      refine ⟨_, _, rfl, rfl, .inl ⟨_, rfl, _, rfl, u, _, rfl, .inl (SqL.of hu6), _, _, rfl, rfl, by omega, ?_⟩⟩
      rw [lz]
      obtain ⟨r0, r1, rj⟩ := other_ix j0 j1 j0' j1'
      obtain ⟨jn, rfl⟩ := Int.eq_ofNat_of_zero_le j0
      obtain ⟨rn, er⟩ := Int.eq_ofNat_of_zero_le r0
      rw [er] at r1 rj
      have hj : jn < zs.length := by omega
      have hrn : rn < zs.length := by omega
      have a1 : atI (zs.map V.str) ((jn : Nat) : Int) = some (.str zs[jn]) := atI_ge (by rw [List.getElem?_map, List.getElem?_eq_getElem hj]; rfl)
      have a2 : atI (zs.map V.str) (((jn : Nat) + 1 + j') % (zs.length : Int)) = some (.str zs[rn]) := by rw [er]; exact atI_ge (by rw [List.getElem?_map, List.getElem?_eq_getElem hrn]; rfl)
      refine ⟨_, rfl, .inl ⟨rfl, _, SqL.of hM6.lst⟩, _, rfl, _, rfl, u, _, _, _, rfl, rfl, SqL.of hu6, a1, _, rfl, _, rfl, u, _, _, _, rfl, rfl, SqL.of hu6, a2, by show 2 ≤ sizeLine; decide, fun t ht => ?_⟩
      have npt : p ≠ t := ne_of_none hM6.lst ht
      have s7 := Same.upd_new ht (o := .tup [.str zs[jn], .str zs[rn]])
      have hM7 := hM6.of s7
      have hb7 := s7 _ _ hb6
      have ht7 := upd_same (H := H6) (a := t) (o := .tup [.str zs[jn], .str zs[rn]])
      have t7 := t6.trans (SameB.of s7)
      generalize upd H6 t (.tup [.str zs[jn], .str zs[rn]]) = H7 at *
      refine ⟨p, _, _, rfl, rfl, hM7.lst, by rw [List.length_map]; exact small1000 (by omega), ?_⟩
      have g2 : GoodP [zs[jn], zs[rn]] := ⟨_, _, rfl, okz.valid (List.getElem_mem hj), okz.valid (List.getElem_mem hrn), fun e => rj (by
        have := (List.getElem_inj okz.nd).mp e
        omega)⟩
      refine ⟨M ++ [(t, [zs[jn], zs[rn]])], _, _, _, rfl, fun c o nc h => ?_, ⟨L6, by rw [upd_ne npb.symm]; exact hb7, ok6⟩, ⟨?_, fun q hq => ?_, fun q hq => ?_⟩, by rw [List.length_append, hl]; rfl, fun q hq => ?_⟩
      · rw [upd_ne (ne_of_none h hp)]
        exact t7 _ _ nc h
      · rw [upd_same, List.map_append]
        rfl
      · rcases List.mem_append.mp hq with h | h
        · have z := hM7.tup q h
          rw [upd_ne (fun e => by rw [e, hM7.lst] at z; cases z)]
          exact z
        · obtain rfl := List.mem_singleton.mp h
          rw [upd_ne npt.symm]
          exact ht7
      · rw [List.map_append] at hq
        rcases List.mem_append.mp hq with h | h
        · exact hM7.good q h
        · obtain rfl := List.mem_singleton.mp h
          exact g2
      · rw [List.map_append] at hq
        rcases List.mem_append.mp hq with h | h
        · exact inZ q h
        · obtain rfl := List.mem_singleton.mp h
          exact ⟨List.getElem_mem hj, List.getElem_mem hrn⟩
    · rintro σ H4 ⟨M, x4, x5, x6, rfl, t4, ⟨L4, hb4, ok4⟩, hM, hl, inZ⟩
      exact ⟨_, rfl, k H4 p L4 M t4 hp npb hb4 ok4 hM inZ (by omega) (by omega)⟩
end
end Dl

namespace Dl
open PySem PySem.Spec PyProof.Rows L2
theorem once_len : ∀ ks : List (List Str), (onceK ks).length ≤ ks.length
  | [] => Nat.le_refl _
  | k :: r => by
    have := once_len r
    unfold onceK
    split
    · rw [List.length_cons]; omega
    · rw [List.length_cons, List.length_cons]; omega
theorem norm_len (ks : List (List Str)) : (normK ks).length ≤ ks.length := by
  have e : (normK ks).length = (onceK ks).length := (List.mergeSort_perm _ _).length_eq
  rw [e]
  exact once_len ks
theorem norm_two (ks ls : List (List Str)) : normK (normK ks ++ normK ls) = normK (ks ++ ls) := norm_same fun k => by
  rw [List.mem_append, List.mem_append, mem_norm, mem_norm]
/-- an own method -/
def OwnM (P : Program) (w : World) (K : PySem.W.Frag) (mg : Str → Option Value) (base : Heap) (CN : Addr) (nm : Str) (k : Nat) (ps : List Str) (sp : Sp) : Prop :=
  ∃ f fd, PySem.W.findIn K (.ref CN) nm = some (some (.ref f)) ∧ PySem.W.isFn K (.ref f) = true ∧ Binds K fd ps [] ∧ FnOk P w K mg base CX0 k f fd ps sp
structure NoteOps (P : Program) (w : World) (K : PySem.W.Frag) (mg : Str → Option Value) (base : Heap) (CN CI CE : Addr) : Prop extends NoteM P w K mg base CN CI CE where
  selfF : PySem.W.selfFirst K CN = true
  add : OwnM P w K mg base CN "__add__" 8 ["self", "other"] (spNAdd K CN)
  eq : OwnM P w K mg base CN "__eq__" 1 ["self", "other"] (spNEq K CN)
def spLNotes (K : PySem.W.Frag) (CN : Addr) : Sp := fun vs H Q _ => ∃ (p : Addr) (L : Keyed), vs = [.ref p] ∧ PairsAt H p L ∧ L.length < 40 ∧ ∀ H' x, Same H H' → H x = none → NotesAt K CN H' x (normK (L.map (·.2))) → Q (.ref x) H'
def spLMade (K : PySem.W.Frag) (CN : Addr) : Sp := fun vs H Q _ => ∃ (p : Addr) (L : Keyed), vs = [.ref p] ∧ PairsAt H p L ∧ L.length ≤ 4 ∧ ∀ H' x, Same H H' → H x = none → NotesAt K CN H' x (normK (L.map (·.2))) → Q (.ref x) H'
section
variable {P : Program} {w : World} {K : PySem.W.Frag} {mg : Str → Option Value} {base : Heap} {CN CI CE : Addr}
theorem scLawNotes : FnScope ["_law_pairs_here", "_law_notes_here", "_law_pair"] ["_law_pairs_here"] (defScope sLawNotes) := ⟨rfl, rfl, rfl, by decide +kernel, rfl, by decide +kernel, by decide +kernel⟩
theorem ok_lnotes {f : Addr} {fd : FuncData} (F : Fun K "_law_notes" "_law_notes" sLawNotes f fd) (T : NoteOps P w K mg base CN CI CE) : FnOk P w K mg base CX0 9 f fd ["_law_pairs_here"] (spLNotes K CN) := by
  obtain ⟨fN, M, GM⟩ := T.init
  obtain ⟨fA, dA, hAdd, iAdd, bAdd, GAdd⟩ := T.add
  have hAdd : PySem.W.findIn K (.ref CN) (PySem.dunder (Operator.info .Add).2) = some (some (.ref fA)) := hAdd
  refine F.ok scLawNotes (fun vs H Q E h => ?_) (fun cdv A outer s H vs Q E hr h => ?_)
  · obtain ⟨p, L, rfl, _⟩ := h
    rfl
  · obtain ⟨p, L, rfl, hL, few, k⟩ := h
    have hr8 : Room 8 _ := hr.mono (by decide)
    have hr7 : Room 7 _ := hr.mono (by decide)
    refine ⟨_, (pss_cons (ps_set (i := 1) scLawNotes.nd rfl (Or.inl rfl) (pe_makeR0 M GM hr7 (by rfl) T.gN passL))
        (pss_cons (ps_for PassesOwn.never rfl (pi_list (pv 0)) (pg_name (i := 2) scLawNotes.nd rfl (Or.inl rfl)) (pss_one (ps_set (i := 1) scLawNotes.nd rfl (Or.inl rfl) (pe_op (op_binOwn GAdd T.selfF hAdd iAdd hr8 bAdd pass0) (pv 1) (StX.pe_makeR M GM hr7 (by rfl) T.gN passL (pa_cons (pv 2) pa_nil))))))
        (pss_one (ps_ret (pv 1))))), ?_⟩
    have made0 : ∀ {H1 : Hp} {x dx : Addr} {Q : Hp → Prop}, H1 x = none → H1 dx = none → dx ≠ x → (∀ H8, Same H1 H8 → NotesAt K CN H8 x (normK []) → Q H8) → starSp 1 (spNotes K CN CI CE) [.ref x] (upd (upd H1 dx (.own x)) x (.ins CN dx [])) (fun v H2 => v = .non ∧ Q H2) E0 :=
      fun nx ndx nex k => note_keyed (L := []) nx ndx nex (fun z hz => absurd hz (by simp)) (fun z hz => absurd hz (by simp)) (by decide) k
    refine fun x dx nx ndx nex => made0 nx ndx nex fun H1 s1 n1 => ?_
    refine ⟨_, rfl, p, rfl, ⟨_, SqL.of (s1 _ _ hL.lst)⟩, for_it (walk_list (K := K) (a := p) (xs := L.map fun q => V.ref q.1)) (fun i σ H' => ∃ (y : Addr) (x2 : Option V), σ = [some (.ref p), some (.ref y), x2] ∧ Same H H' ∧ H y = none ∧ NotesAt K CN H' y (normK ((L.take i).map (·.2))))
      ⟨x, none, rfl, s1, nx, n1⟩ (fun i σ H' _ ⟨_, _, _, s, _⟩ => SqL.of (s _ _ hL.lst)) ?_ ?_⟩
    · rintro i v σ H2 H3 hi ⟨y, x2, rfl, s2, ny, n2⟩ ⟨rfl, hv⟩
      obtain ⟨z, hz, hzm, rfl⟩ := kf_at hv
      have hi' : i < L.length := (List.getElem?_eq_some_iff.mp hz).1
      have tl : (L.take i).length ≤ i := by rw [List.length_take]; omega
      have gk : GoodK ((L.take i).map (·.2)) := fun k hk => by
        obtain ⟨q, hq, rfl⟩ := List.mem_map.mp hk
        exact hL.good _ (List.mem_map_of_mem (List.mem_of_mem_take hq))
      have gz : GoodK [z.2] := fun k hk => by
        obtain rfl := List.mem_singleton.mp hk
        exact hL.good _ (List.mem_map_of_mem hzm)
      refine ⟨_, rfl, _, rfl, fun x1 dx1 nx1 ndx1 nex1 => note_keyed (L := [z]) nx1 ndx1 nex1 gz (fun q hq => by
        obtain rfl := List.mem_singleton.mp hq
        exact SqT.of (s2 _ _ (hL.tup _ hzm))) (by simp) fun H5 s5 n5 => ?_⟩
      obtain ⟨dx, tp, L1, a1, a2, a3, a4⟩ := (n2.of s5).ex
      obtain ⟨dy, tq, L2, b1, b2, b3, b4⟩ := n5.ex
      have w1 := norm_len ((L.take i).map (·.2))
      have w2 := norm_len [z.2]
      rw [List.length_map] at w1
      rw [List.length_singleton] at w2
      refine ⟨y, dx, _, x1, dy, _, rfl, a1, rfl, b1, y, x1, _, _, rfl, n2.of s5, n5, good_norm gk, good_norm gz, Nat.lt_of_le_of_lt (Nat.add_le_add w1 w2) (by omega), fun H6 r s6 nr n6 => ?_⟩
      refine ⟨r, _, rfl, s2.trans (s5.trans s6), s2.free (s5.free nr), ?_⟩
      rw [norm_two] at n6
      rw [take_next hz, List.map_append]
      exact n6
    · rintro σ H2 ⟨y, x2, rfl, s2, ny, n2⟩
      rw [List.length_map, List.take_length] at n2
      exact ⟨_, rfl, k H2 y s2 ny n2⟩
end
end Dl

namespace Dl
open PySem PySem.Spec PyProof.Rows L2
def fromS (found : List Str) (k : List Str) : List Str := if k0 k ∈ found ∧ k1 k ∉ found then found ++ [k1 k] else found
def fromT (found : List Str) : List (List Str) → List Str
  | [] => found
  | k :: r => fromT (fromS found k) r
def fromN (ks : List (List Str)) : Nat → List Str → List Str
  | 0, found => found
  | n + 1, found => fromT (fromN ks n found) ks
theorem fromT_snoc (k : List Str) : ∀ (ks : List (List Str)) (found : List Str), fromT found (ks ++ [k]) = fromS (fromT found ks) k
  | [], _ => rfl
  | y :: r, found => by
    show fromT found (y :: (r ++ [k])) = _
    unfold fromT
    exact fromT_snoc k r _
theorem fromT_len : ∀ (ks : List (List Str)) (found : List Str), (fromT found ks).length ≤ found.length + ks.length
  | [], _ => Nat.le_refl _
  | k :: r, found => by
    unfold fromT
    have h := fromT_len r (fromS found k)
    have h2 : (fromS found k).length ≤ found.length + 1 := by
      unfold fromS
      split
      · rw [List.length_append, List.length_singleton]; exact Nat.le_refl _
      · omega
    rw [List.length_cons]
    omega
theorem fromN_len (ks : List (List Str)) : ∀ (n : Nat) (found : List Str), (fromN ks n found).length ≤ found.length + n * ks.length
  | 0, found => by show found.length ≤ _; omega
  | n + 1, found => by
    have h := fromT_len ks (fromN ks n found)
    have h2 := fromN_len ks n found
    show (fromT (fromN ks n found) ks).length ≤ _
    rw [Nat.add_mul, Nat.one_mul]
    omega
def spFrom : Sp := fun vs H Q _ => ∃ (p : Addr) (a : Str) (n : Nat) (L : Keyed), vs = [.ref p, .str a, .int (n : Int)] ∧ PairsAt H p L ∧ n ≤ 10 ∧ L.length ≤ 10 ∧
  ∀ H' r, Same H H' → H r = none → H' r = some (.lst (((fromN (L.map (·.2)) n [a]).drop 1).map V.str)) → Q (.ref r) H'
section
variable {P : Program} {w : World} {K : PySem.W.Frag} {mg : Str → Option Value} {base : Heap}
theorem scLawFrom : FnScope ["_law_pairs_here", "_law_name_here", "_law_count", "_law_found", "_law_turn", "_law_pair"] ["_law_pairs_here", "_law_name_here", "_law_count"] (defScope sLawFrom) := ⟨rfl, rfl, rfl, by decide +kernel, rfl, by decide +kernel, by decide +kernel⟩
theorem ok_lfrom {f : Addr} {fd : FuncData} (F : Fun K "_law_from" "_law_from" sLawFrom f fd) (T : TxtL28 mg) : FnOk P w K mg base CX0 1 f fd ["_law_pairs_here", "_law_name_here", "_law_count"] spFrom := by
  refine F.ok scLawFrom (fun vs H Q E h => ?_) (fun cdv A outer s H vs Q E hr h => ?_)
  · obtain ⟨p, a, n, L, rfl, _⟩ := h
    rfl
  · obtain ⟨p, a, n, L, rfl, hL, n10, l10, k⟩ := h
    refine ⟨_, (pss_cons (ps_set (i := 3) scLawFrom.nd rfl (Or.inl rfl) (pe_lst (pa_cons (pv 1) pa_nil)))
        (pss_cons (ps_for PassesOwn.never rfl (pi_range1 (by rfl) T.range (pa_cons (pv 2) pa_nil)) (pg_name (i := 4) scLawFrom.nd rfl (Or.inl rfl)) (pss_one (ps_for PassesOwn.never rfl (pi_list (pv 0)) (pg_name (i := 5) scLawFrom.nd rfl (Or.inl rfl)) (pss_one (ps_if (PW.pt (pw_and (pt_cmpR op_in_seq (pe_ix ix_tup (pv 5) pe_int (fun _ _ => rfl)) (pv 3) (by rfl)) (pw_and1 (pt_cmpR op_notIn_seq (pe_ix ix_tup (pv 5) pe_int (fun _ _ => rfl)) (pv 3) (by rfl))))) (pss_one (ps_expr (pe_bm PySem.F.plainAttrs_list PySem.F.slot_list_append PySem.F.type_list_append mt_append (pv 3) (pa_cons (pe_ix ix_tup (pv 5) pe_int (fun _ _ => rfl)) pa_nil)))) pss_nil)))))
        (pss_one (ps_ret (pe_slice sl_list (pv 3) (po_some pe_int) po_none))))), ?_⟩
    refine ⟨_, rfl, by show 1 ≤ sizeLine; decide, fun b hb => ?_⟩
    have s1 := Same.upd_new hb (o := .lst [.str a])
    have hb1 : upd H b (.lst [.str a]) b = some (.lst (([a] : List Str).map V.str)) := upd_same
    have hp1 := s1 _ _ hL.lst
    have npb : p ≠ b := ne_of_none hL.lst hb
    generalize upd H b (.lst [.str a]) = H1 at *
    have room : ∀ i, i ≤ n → (fromN (L.map (·.2)) i [a]).length ≤ 101 := fun i hi => by
      have h1 := fromN_len (L.map (·.2)) i [a]
      rw [List.length_map, List.length_singleton] at h1
      have h2 := Nat.mul_le_mul (Nat.le_trans hi n10) l10
      omega
    refine ⟨_, rfl, _, rfl, by omega, by omega, for_range (lo := 0) (fun i σ H' => ∃ (x4 x5 : Option V), σ = [some (.ref p), some (.str a), some (.int n), some (.ref b), x4, x5] ∧ Same H H' ∧ H' b = some (.lst ((fromN (L.map (·.2)) i [a]).map V.str)))
      ⟨none, none, rfl, s1, hb1⟩ ?_ ?_⟩
    · rintro i σ H2 hi ⟨x4, x5, rfl, s2, hb2⟩
      have hL2 := hL.of s2
      refine ⟨_, rfl, p, rfl, ⟨_, SqL.of hL2.lst⟩, for_it (walk_list (K := K) (a := p) (xs := L.map fun q => V.ref q.1)) (fun j σ H' => ∃ (x5 : Option V), σ = [some (.ref p), some (.str a), some (.int n), some (.ref b), some (.int (0 + i)), x5] ∧ Same H H' ∧ H' b = some (.lst ((fromT (fromN (L.map (·.2)) i [a]) ((L.map (·.2)).take j)).map V.str)))
        ⟨x5, rfl, s2, hb2⟩ (fun j σ H' _ ⟨_, _, s, _⟩ => SqL.of (s _ _ hL.lst)) ?_ ?_⟩
      · rintro j v σ H3 H4 hj ⟨x5, rfl, s3, hb3⟩ ⟨rfl, hv⟩
        obtain ⟨z, hz, hzm, rfl⟩ := kf_at hv
        have gz : GoodP z.2 := hL.good _ (List.mem_map_of_mem hzm)
        have hzt := (hL.of s3).txt (K := K) z hzm
        rw [gz.eq.1] at hzt
        have ki : (L.map (·.2))[j]? = some z.2 := by rw [List.getElem?_map, hz]; rfl
        have next := fromT_snoc z.2 ((L.map (·.2)).take j) (fromN (L.map (·.2)) i [a])
        rw [← take_plus2 ki] at next
        rw [next]
        have len : (fromT (fromN (L.map (·.2)) i [a]) ((L.map (·.2)).take j)).length < 1000 := by
          have h1 := fromT_len ((L.map (·.2)).take j) (fromN (L.map (·.2)) i [a])
          have h2 := room i (by omega)
          rw [List.length_take, List.length_map] at h1
          omega
        generalize fromT (fromN (L.map (·.2)) i [a]) ((L.map (·.2)).take j) = found at *
        unfold fromS
        refine ⟨_, rfl, z.1, _, 0, _, rfl, rfl, hzt, rfl, _, rfl, b, _, rfl, .inl (SqL.of hb3), rfl, flat_strs found, _, rfl, ?_⟩
        rw [inV_str]
        by_cases m : k0 z.2 ∈ found
        · refine iteY (decide_eq_true m) ?_
          refine ⟨_, rfl, z.1, _, 1, _, rfl, rfl, hzt, rfl, _, rfl, b, _, rfl, .inl (SqL.of hb3), rfl, flat_strs found, _, rfl, ?_⟩
          rw [inV_str]
          by_cases m2 : k1 z.2 ∈ found
          · refine iteZ (by rw [decide_eq_true m2]; rfl) ?_
            exact ⟨_, rfl, s3, by rw [if_neg (fun q => q.2 m2)]; exact hb3⟩
          · refine iteY (by rw [decide_eq_false m2]; rfl) ?_
            refine ⟨_, rfl, .inl ⟨rfl, _, SqL.of hb3⟩, _, rfl, z.1, _, 1, _, rfl, rfl, hzt, rfl, b, _, _, rfl, rfl, hb3, by rw [List.length_map]; exact small1000 (by omega), ?_⟩
            refine ⟨_, rfl, fun c o e => ?_, ?_⟩
            · rw [upd_ne (ne_of_none e hb)]
              exact s3 _ _ e
            · rw [upd_same, if_pos ⟨m, m2⟩, List.map_append]
              rfl
        · refine iteZ (decide_eq_false m) ?_
          exact ⟨_, rfl, s3, by rw [if_neg (fun q => m q.1)]; exact hb3⟩
      · rintro σ H3 ⟨x5, rfl, s3, hb3⟩
        rw [List.length_map] at hb3
        have lt : (L.map (·.2)).take L.length = L.map (·.2) := List.take_of_length_le (by rw [List.length_map]; exact Nat.le_refl _)
        rw [lt] at hb3
        exact ⟨_, _, rfl, s3, hb3⟩
    · rintro σ H2 ⟨x4, x5, rfl, s2, hb2⟩
      rw [Int.toNat_natCast] at hb2
      refine ⟨_, rfl, 1, rfl, b, _, rfl, SqL.of hb2, fun r hr => ?_⟩
      have few := room n (Nat.le_refl _)
      generalize fromN (L.map (·.2)) n [a] = found at *
      have e : cutV (found.map V.str) (some 1) none = (found.drop 1).map V.str := by
        have i1 : HT.sIx (found.map V.str).length 0 (some 1) = min 1 found.length := by
          have := HT.sIx_nat (found.map V.str).length 0 1
          rw [List.length_map] at this ⊢
          exact this
        unfold cutV
        rw [i1, ← List.map_drop]
        rw [show HT.sIx (found.map V.str).length (found.map V.str).length none = found.length by rw [HT.sIx_none, List.length_map]]
        rw [List.take_of_length_le (by rw [List.length_map, List.length_drop]; exact Nat.le_refl _)]
        cases found with
        | nil => rfl
        | cons c r => rw [show min 1 (c :: r).length = 1 by rw [List.length_cons]; omega]
      rw [e]
      exact k _ r (s2.trans (Same.upd_new hr)) (s2.free hr) upd_same
end
end Dl

/-! two ways to the same names -/
namespace Dl
open PySem PySem.Spec PyProof.Rows L2
inductive Way (adj : Str → List Str) (a : Str) : Str → Prop where
  | start : Way adj a a
  | next {s z : Str} (w : Way adj a s) (h : z ∈ adj s) : Way adj a z
theorem reach_sound {adj : Str → List Str} {en : Option Str} {a : Str} : ∀ (n : Nat) (o : Orig) (ls : List Str), (∀ y ∈ o.map (·.1), Way adj a y) → (∀ y ∈ ls, Way adj a y) → ∀ z ∈ (reachF adj en n o ls).map (·.1), Way adj a z
  | 0, _, _, h, _, z, hz => h z hz
  | n + 1, o, ls, h, hl, z, hz => by
    have hz : z ∈ (if ls = [] ∨ _ then o else _ : Orig).map (·.1) := hz
    by_cases c : ls = [] ∨ ∃ z, en = some z ∧ z ∈ o.map (·.1)
    · rw [if_pos c] at hz
      exact h z hz
    · rw [if_neg c] at hz
      have fw : ∀ y ∈ (fAll adj o ls []).map (·.1), Way adj a y := fun y hy => by
        rcases mem_fAll.mp hy with q | ⟨⟨s, hs, q⟩, _⟩
        · exact absurd q (by simp)
        · exact (hl s hs).next q
      refine reach_sound n _ _ (fun y hy => ?_) fw z hz
      rw [List.map_append] at hy
      exact (List.mem_append.mp hy).elim (h y) (fw y)
theorem reach_full {adj : Str → List Str} {names : List Str} (cl : ∀ s ∈ names, ∀ z ∈ adj s, z ∈ names) : ∀ (n : Nat) (o : Orig) (ls : List Str), (o.map (·.1)).Nodup → (∀ z ∈ o.map (·.1), z ∈ names) → (∀ z ∈ ls, z ∈ names) → (ls = [] ∨ names.length + 2 ≤ n + o.length) →
    (∀ y ∈ o.map (·.1), y ∉ ls → ∀ z ∈ adj y, z ∈ o.map (·.1)) → (∀ y ∈ o.map (·.1), y ∈ (reachF adj none n o ls).map (·.1)) ∧ ∀ y ∈ (reachF adj none n o ls).map (·.1), ∀ z ∈ adj y, z ∈ (reachF adj none n o ls).map (·.1)
  | 0, o, ls, nd, sub, lsub, meas, done => by
    have few := List.Nodup.length_le_of_subset nd sub
    rw [List.length_map] at few
    rcases meas with rfl | meas
    · exact ⟨fun y hy => hy, fun y hy z hz => done y hy (by simp) z hz⟩
    · omega
  | n + 1, o, ls, nd, sub, lsub, meas, done => by
    show (∀ y ∈ o.map (·.1), y ∈ (if ls = [] ∨ _ then o else _ : Orig).map (·.1)) ∧ ∀ y ∈ (if ls = [] ∨ _ then o else _ : Orig).map (·.1), ∀ z ∈ adj y, z ∈ (if ls = [] ∨ _ then o else _ : Orig).map (·.1)
    by_cases e : ls = []
    · rw [if_pos (.inl e)]
      exact ⟨fun y hy => hy, fun y hy z hz => done y hy (by rw [e]; simp) z hz⟩
    · rw [if_neg (fun q => q.elim e fun ⟨z, q, _⟩ => by cases q)]
      have meas := meas.resolve_left e
      have fnd : ((fAll adj o ls []).map (·.1)).Nodup := nodup_fAll (by simp)
      have fmem : ∀ z ∈ (fAll adj o ls []).map (·.1), z ∈ names ∧ z ∉ o.map (·.1) := fun z hz => by
        rcases mem_fAll.mp hz with h | ⟨⟨s, hs, h⟩, m⟩
        · exact absurd h (by simp)
        · exact ⟨cl s (lsub s hs) z h, m⟩
      have nd2 : ((o ++ fAll adj o ls []).map (·.1)).Nodup := by
        rw [List.map_append]
        exact List.nodup_append.mpr ⟨nd, fnd, fun a ha b hb q => (fmem b hb).2 (by rw [← q]; exact ha)⟩
      have sub2 : ∀ z ∈ (o ++ fAll adj o ls []).map (·.1), z ∈ names := fun z hz => by
        rw [List.map_append] at hz
        exact (List.mem_append.mp hz).elim (sub z) fun h => (fmem z h).1
      have meas2 : (fAll adj o ls []).map (·.1) = [] ∨ names.length + 2 ≤ n + (o ++ fAll adj o ls []).length := by
        rw [List.length_append]
        cases q : fAll adj o ls [] with
        | nil => exact .inl rfl
        | cons c r => exact .inr (by rw [List.length_cons]; omega)
      obtain ⟨h1, h2⟩ := reach_full cl n (o ++ fAll adj o ls []) ((fAll adj o ls []).map (·.1)) nd2 sub2 (fun z hz => (fmem z hz).1) meas2 (fun y hy ny z hz => by
        rw [List.map_append, List.mem_append] at hy ⊢
        have hy := hy.resolve_right ny
        by_cases yl : y ∈ ls
        · by_cases zo : z ∈ o.map (·.1)
          · exact .inl zo
          · exact .inr (mem_fAll.mpr (.inr ⟨⟨y, yl, hz⟩, zo⟩))
        · exact .inl (done y hy yl z hz))
      exact ⟨fun y hy => h1 y (by rw [List.map_append]; exact List.mem_append_left _ hy), h2⟩
/-- reached's keys: the names that can be reached -/
theorem reach_iff {adj : Str → List Str} {names : List Str} (cl : ∀ s ∈ names, ∀ z ∈ adj s, z ∈ names) {a : Str} (ha : a ∈ names) (z : Str) : z ∈ (reachF adj none (names.length + 1) [(a, none)] [a]).map (·.1) ↔ Way adj a z := by
  constructor
  · refine reach_sound _ _ _ (fun y hy => ?_) (fun y hy => ?_) z
    · rw [show y = a by simpa using hy]; exact .start
    · rw [show y = a by simpa using hy]; exact .start
  · intro w
    obtain ⟨h1, h2⟩ := reach_full cl (names.length + 1) [(a, none)] [a] (by simp) (fun y hy => by rw [show y = a by simpa using hy]; exact ha) (fun y hy => by rw [show y = a by simpa using hy]; exact ha) (.inr (by simp)) (fun y hy ny => absurd (by simpa using hy) (by simpa using ny))
    induction w with
    | start => exact h1 a (by simp)
    | next _ h ih => exact h2 _ ih _ h
theorem fromS_has {found k : List Str} (h : k0 k ∈ found) : k1 k ∈ fromS found k := by
  unfold fromS
  by_cases m : k1 k ∈ found
  · rw [if_neg (fun q => q.2 m)]; exact m
  · rw [if_pos ⟨h, m⟩]; exact List.mem_append_right _ (List.mem_singleton.mpr rfl)
theorem fromS_keep {found k : List Str} {z : Str} (h : z ∈ found) : z ∈ fromS found k := by
  unfold fromS
  split
  · exact List.mem_append_left _ h
  · exact h
theorem fromT_keep {z : Str} : ∀ {ks : List (List Str)} {found : List Str}, z ∈ found → z ∈ fromT found ks
  | [], _, h => h
  | k :: r, found, h => fromT_keep (ks := r) (found := fromS found k) (fromS_keep h)
theorem fromT_has {k : List Str} : ∀ {ks : List (List Str)} {found : List Str}, k ∈ ks → k0 k ∈ found → k1 k ∈ fromT found ks
  | y :: r, found, hk, h => by
    rcases List.mem_cons.mp hk with rfl | hk
    · exact fromT_keep (ks := r) (found := fromS found k) (fromS_has h)
    · exact fromT_has (ks := r) (found := fromS found y) hk (fromS_keep h)
theorem fromS_len (found k : List Str) : found.length ≤ (fromS found k).length ∧ ((fromS found k).length = found.length → fromS found k = found) := by
  unfold fromS
  split
  · rw [List.length_append, List.length_singleton]; exact ⟨by omega, fun e => by omega⟩
  · exact ⟨Nat.le_refl _, fun _ => rfl⟩
theorem fromT_grow : ∀ (ks : List (List Str)) (found : List Str), found.length ≤ (fromT found ks).length ∧ ((fromT found ks).length = found.length → fromT found ks = found)
  | [], found => ⟨Nat.le_refl _, fun _ => rfl⟩
  | k :: r, found => by
    obtain ⟨a1, a2⟩ := fromS_len found k
    obtain ⟨b1, b2⟩ := fromT_grow r (fromS found k)
    unfold fromT
    refine ⟨by omega, fun e => ?_⟩
    have e1 : (fromS found k).length = found.length := by omega
    rw [a2 e1] at b2 e ⊢
    exact b2 e
theorem fromN_fix (ks : List (List Str)) (found : List Str) (h0 : 1 ≤ found.length) : ∀ n, fromT (fromN ks n found) ks = fromN ks n found ∨ n + 1 ≤ (fromN ks n found).length
  | 0 => .inr h0
  | n + 1 => by
    obtain ⟨g1, g2⟩ := fromT_grow ks (fromN ks n found)
    rcases fromN_fix ks found h0 n with h | h
    · refine .inl ?_
      show fromT (fromT (fromN ks n found) ks) ks = fromT (fromN ks n found) ks
      rw [h, h]
    · by_cases e : (fromT (fromN ks n found) ks).length = (fromN ks n found).length
      · refine .inl ?_
        show fromT (fromT (fromN ks n found) ks) ks = fromT (fromN ks n found) ks
        rw [g2 e, g2 e]
      · refine .inr ?_
        show n + 1 + 1 ≤ (fromT (fromN ks n found) ks).length
        omega
theorem fromS_nodup {found k : List Str} (h : found.Nodup) : (fromS found k).Nodup := by
  unfold fromS
  by_cases c : k0 k ∈ found ∧ k1 k ∉ found
  · rw [if_pos c]
    exact List.nodup_append.mpr ⟨h, by simp, fun a ha b hb e => c.2 (by rw [List.mem_singleton] at hb; rw [← hb, ← e]; exact ha)⟩
  · rw [if_neg c]; exact h
theorem fromT_nodup : ∀ {ks : List (List Str)} {found : List Str}, found.Nodup → (fromT found ks).Nodup
  | [], _, h => h
  | k :: r, found, h => fromT_nodup (ks := r) (found := fromS found k) (fromS_nodup h)
theorem fromN_nodup {ks : List (List Str)} {found : List Str} (h : found.Nodup) : ∀ n, (fromN ks n found).Nodup
  | 0 => h
  | n + 1 => fromT_nodup (fromN_nodup h n)
theorem fromT_sound {all : List (List Str)} {a : Str} : ∀ {ks : List (List Str)} {found : List Str}, (∀ k ∈ ks, k ∈ all) → (∀ y ∈ found, Way (adjP all) a y) → ∀ y ∈ fromT found ks, Way (adjP all) a y
  | [], _, _, h => h
  | k :: r, found, sub, h => fromT_sound (ks := r) (found := fromS found k) (fun z hz => sub z (List.mem_cons_of_mem _ hz)) (fun y hy => by
      unfold fromS at hy
      by_cases c : k0 k ∈ found ∧ k1 k ∉ found
      · rw [if_pos c] at hy
        rcases List.mem_append.mp hy with hy | hy
        · exact h y hy
        · rw [List.mem_singleton.mp hy]
          refine (h _ c.1).next ?_
          unfold adjP
          exact List.mem_map.mpr ⟨k, List.mem_filter.mpr ⟨sub k (List.mem_cons_self ..), by simp⟩, rfl⟩
      · rw [if_neg c] at hy
        exact h y hy)
theorem fromN_sound {ks : List (List Str)} {a : Str} : ∀ n, ∀ y ∈ fromN ks n [a], Way (adjP ks) a y
  | 0, y, hy => by rw [show y = a by simpa [fromN] using hy]; exact .start
  | n + 1, y, hy => fromT_sound (ks := ks) (fun k hk => hk) (fromN_sound n) y hy
theorem fromN_keep {ks : List (List Str)} {z : Str} {found : List Str} (h : z ∈ found) : ∀ n, z ∈ fromN ks n found
  | 0 => h
  | n + 1 => fromT_keep (fromN_keep h n)
/-- _law_from's names: the same -/
theorem from_iff {ks : List (List Str)} {names : List Str} (inN : ∀ k ∈ ks, k1 k ∈ names) {a : Str} (ha : a ∈ names) (z : Str) : z ∈ fromN ks names.length [a] ↔ Way (adjP ks) a z := by
  constructor
  · exact fromN_sound _ z
  · intro w
    have fix : fromT (fromN ks names.length [a]) ks = fromN ks names.length [a] := by
      rcases fromN_fix ks [a] (by simp) names.length with h | h
      · exact h
      · have sub : ∀ y ∈ fromN ks names.length [a], y ∈ names := fun y hy => by
          have w := fromN_sound names.length y hy
          cases w with
          | start => exact ha
          | next _ q =>
            unfold adjP at q
            obtain ⟨k, hk, rfl⟩ := List.mem_map.mp q
            exact inN k (List.mem_filter.mp hk).1
        have := List.Nodup.length_le_of_subset (fromN_nodup (ks := ks) (found := [a]) (by simp) names.length) sub
        omega
    induction w with
    | start => exact fromN_keep (by simp) _
    | next _ q ih =>
      unfold adjP at q
      obtain ⟨k, hk, rfl⟩ := List.mem_map.mp q
      obtain ⟨hk, e⟩ := List.mem_filter.mp hk
      rw [← fix]
      exact fromT_has hk (by rw [of_decide_eq_true e]; exact ih)
end Dl

/-! closed's rows are the rows that the law makes -/
namespace Dl
open PySem PySem.Spec PyProof.Rows L2
theorem mem_adjP {ks : List (List Str)} {s z : Str} (g : GoodK ks) : z ∈ adjP ks s ↔ [s, z] ∈ ks := by
  unfold adjP
  rw [List.mem_map]
  constructor
  · rintro ⟨k, hk, rfl⟩
    obtain ⟨hk, e⟩ := List.mem_filter.mp hk
    have e := of_decide_eq_true e
    rw [← e, ← (g k hk).eq.1]
    exact hk
  · intro h
    exact ⟨[s, z], List.mem_filter.mpr ⟨h, decide_eq_true rfl⟩, rfl⟩
theorem way_norm {ks : List (List Str)} (g : GoodK ks) {a z : Str} : Way (adjP (normK ks)) a z ↔ Way (adjP ks) a z := by
  constructor
  · intro w
    induction w with
    | start => exact .start
    | next _ h ih => exact ih.next ((mem_adjP g).mpr (mem_norm.mp ((mem_adjP (good_norm g)).mp h)))
  · intro w
    induction w with
    | start => exact .start
    | next _ h ih => exact ih.next ((mem_adjP (good_norm g)).mpr (mem_norm.mpr ((mem_adjP g).mp h)))
theorem seenZ_nodup : ∀ {zs acc : List Str}, acc.Nodup → (seenZ acc zs).Nodup
  | [], _, h => h
  | y :: r, acc, h => by
    unfold seenZ
    by_cases m : y ∈ acc
    · rw [if_pos m]; exact seenZ_nodup h
    · rw [if_neg m]
      exact seenZ_nodup (List.nodup_append.mpr ⟨h, by simp, fun a ha b hb e => m (by rw [List.mem_singleton] at hb; rw [← hb, ← e]; exact ha)⟩)
theorem seenK_nodup : ∀ {ks : List (List Str)} {acc : List Str}, acc.Nodup → (seenK acc ks).Nodup
  | [], _, h => h
  | k :: r, acc, h => by
    unfold seenK
    exact seenK_nodup (seenZ_nodup h)
theorem fromT_head {a : Str} : ∀ (ks : List (List Str)) (r : List Str), ∃ r', fromT (a :: r) ks = a :: r'
  | [], r => ⟨r, rfl⟩
  | k :: q, r => by
    unfold fromT
    have h : ∃ r1, fromS (a :: r) k = a :: r1 := by
      unfold fromS
      split
      · exact ⟨r ++ [k1 k], rfl⟩
      · exact ⟨r, rfl⟩
    obtain ⟨r1, e⟩ := h
    rw [e]
    exact fromT_head q r1
theorem fromN_head {a : Str} (ks : List (List Str)) : ∀ n, ∃ r, fromN ks n [a] = a :: r
  | 0 => ⟨[], rfl⟩
  | n + 1 => by
    obtain ⟨r, e⟩ := fromN_head ks n
    show ∃ r', fromT (fromN ks n [a]) ks = a :: r'
    rw [e]
    exact fromT_head ks r
theorem mem_dueOne {ks : List (List Str)} {n : Nat} {a : Str} {k : List Str} : k ∈ ((fromN ks n [a]).drop 1).map (fun z => [a, z]) ↔ ∃ z ∈ fromN ks n [a], z ≠ a ∧ k = [a, z] := by
  obtain ⟨r, e⟩ := fromN_head (a := a) ks n
  have nd := fromN_nodup (ks := ks) (found := [a]) (by simp) n
  rw [e] at nd ⊢
  have nd := List.nodup_cons.mp nd
  rw [List.mem_map]
  show (∃ z ∈ r, [a, z] = k) ↔ _
  constructor
  · rintro ⟨z, hz, rfl⟩
    exact ⟨z, List.mem_cons_of_mem _ hz, fun q => nd.1 (by rw [← q]; exact hz), rfl⟩
  · rintro ⟨z, hz, ne, rfl⟩
    exact ⟨z, (List.mem_cons.mp hz).resolve_left ne, rfl⟩
theorem nodup_due (ks : List (List Str)) (n : Nat) : ∀ zs : List Str, zs.Nodup → (zs.flatMap fun a => ((fromN ks n [a]).drop 1).map fun z => [a, z]).Nodup
  | [], _ => by simp
  | a :: r, nd => by
    have nd := List.nodup_cons.mp nd
    rw [List.flatMap_cons]
    refine List.nodup_append.mpr ⟨?_, nodup_due ks n r nd.2, fun x hx y hy e => ?_⟩
    · have one := (fromN_nodup (ks := ks) (found := [a]) (by simp) n)
      have two : ((fromN ks n [a]).drop 1).Nodup := List.Nodup.sublist (List.drop_sublist ..) one
      refine List.Pairwise.map _ (fun p q ne e => ne ?_) two
      exact (List.cons.inj (List.cons.inj e).2).1
    · obtain ⟨z, _, rfl⟩ := List.mem_map.mp hx
      obtain ⟨b, hb, h⟩ := List.mem_flatMap.mp hy
      obtain ⟨w, _, rfl⟩ := List.mem_map.mp h
      rw [(List.cons.inj e).1] at nd
      exact nd.1 hb
/-- the rows of closed, by the ways -/
theorem closed_rows {ks : List (List Str)} {zs : List Str} (g : GoodK ks) (inZ : ∀ k ∈ ks, k0 k ∈ zs ∧ k1 k ∈ zs) (k : List Str) :
    (∃ a ∈ seenK [] (normK ks), ∃ z ∈ (reachF (adjP (normK ks)) none ((seenK [] (normK ks)).length + 1) [(a, none)] [a]).map (·.1), z ≠ a ∧ k = [a, z]) ↔ k ∈ zs.flatMap fun a => ((fromN ks zs.length [a]).drop 1).map fun z => [a, z] := by
  have gn := good_norm g
  have cl : ∀ s ∈ seenK [] (normK ks), ∀ z ∈ adjP (normK ks) s, z ∈ seenK [] (normK ks) := fun s _ z hz => mem_seenK.mpr (.inr ⟨[s, z], (mem_adjP gn).mp hz, by simp⟩)
  have sub : ∀ a ∈ seenK [] (normK ks), a ∈ zs := fun a ha => by
    rcases mem_seenK.mp ha with h | ⟨y, hy, h⟩
    · exact absurd h (by simp)
    · have hy := mem_norm.mp hy
      rw [(g y hy).eq.1] at h
      rcases List.mem_cons.mp h with rfl | h
      · exact (inZ y hy).1
      · rw [List.mem_singleton.mp h]; exact (inZ y hy).2
  rw [List.mem_flatMap]
  constructor
  · rintro ⟨a, ha, z, hz, ne, rfl⟩
    have w := way_norm g |>.mp ((reach_iff cl ha z).mp hz)
    exact ⟨a, sub a ha, mem_dueOne.mpr ⟨z, (from_iff (fun k hk => (inZ k hk).2) (sub a ha) z).mpr w, ne, rfl⟩⟩
  · rintro ⟨a, ha, h⟩
    obtain ⟨z, hz, ne, rfl⟩ := mem_dueOne.mp h
    have w := (from_iff (fun k hk => (inZ k hk).2) ha z).mp hz
    have inS : a ∈ seenK [] (normK ks) := by
      have out : ∀ {y : Str}, Way (adjP ks) a y → y ≠ a → ∃ y', [a, y'] ∈ ks := fun {y} w => by
        induction w with
        | start => exact fun ne => absurd rfl ne
        | @next s y w' h ih =>
          intro ne
          by_cases e : s = a
          · rw [e] at h
            exact ⟨y, (mem_adjP g).mp h⟩
          · exact ih e
      obtain ⟨y, hy⟩ := out w ne
      exact mem_seenK.mpr (.inr ⟨[a, y], mem_norm.mpr hy, by simp⟩)
    exact ⟨a, inS, z, (reach_iff cl inS z).mpr ((way_norm g).mpr w), ne, rfl⟩
end Dl

/-! closed of closed -/
namespace Dl
open PySem PySem.Spec PyProof.Rows L2
theorem Way.trans {adj : Str → List Str} {a s z : Str} (w : Way adj a s) (v : Way adj s z) : Way adj a z := by
  induction v with
  | start => exact w
  | next _ h ih => exact ih.next h
theorem way_closed {ks ls : List (List Str)} (gl : GoodK ls) (rows : ∀ k, k ∈ ls ↔ ∃ a z, k = [a, z] ∧ z ≠ a ∧ Way (adjP ks) a z) {a z : Str} : Way (adjP ls) a z ↔ Way (adjP ks) a z := by
  constructor
  · intro w
    induction w with
    | start => exact .start
    | @next s y _ h ih =>
      obtain ⟨a', z', e, _, v⟩ := (rows _).mp ((mem_adjP gl).mp h)
      have e1 := (List.cons.inj e).1
      have e2 := (List.cons.inj (List.cons.inj e).2).1
      subst e1
      subst e2
      exact ih.trans v
  · intro w
    by_cases e : z = a
    · rw [e]; exact .start
    · exact Way.start.next ((mem_adjP gl).mpr ((rows _).mpr ⟨a, z, rfl, e, w⟩))
/-- a way to another name begins in the pairs -/
theorem way_out {ks : List (List Str)} (g : GoodK ks) {a z : Str} (w : Way (adjP ks) a z) : z ≠ a → ∃ y, [a, y] ∈ ks := by
  induction w with
  | start => exact fun ne => absurd rfl ne
  | @next s y w' h ih =>
    intro ne
    by_cases e : s = a
    · rw [e] at h
      exact ⟨y, (mem_adjP g).mp h⟩
    · exact ih e
theorem due_iff {ks : List (List Str)} {zs : List Str} (g : GoodK ks) (inZ : ∀ k ∈ ks, k0 k ∈ zs ∧ k1 k ∈ zs) (k : List Str) :
    (k ∈ zs.flatMap fun a => ((fromN ks zs.length [a]).drop 1).map fun z => [a, z]) ↔ ∃ a z, k = [a, z] ∧ z ≠ a ∧ Way (adjP ks) a z := by
  rw [List.mem_flatMap]
  constructor
  · rintro ⟨a, ha, h⟩
    obtain ⟨z, hz, ne, rfl⟩ := mem_dueOne.mp h
    exact ⟨a, z, rfl, ne, (from_iff (fun k hk => (inZ k hk).2) ha z).mp hz⟩
  · rintro ⟨a, z, rfl, ne, w⟩
    obtain ⟨y, hy⟩ := way_out g w ne
    have ha : a ∈ zs := (inZ _ hy).1
    exact ⟨a, ha, mem_dueOne.mpr ⟨z, (from_iff (fun k hk => (inZ k hk).2) ha z).mpr w, ne, rfl⟩⟩
/-- the rows of closed, closed once more -/
theorem closed_again {ks ls : List (List Str)} {zs : List Str} (g : GoodK ks) (inZ : ∀ k ∈ ks, k0 k ∈ zs ∧ k1 k ∈ zs) (gl : GoodK ls)
    (rows : ∀ k, k ∈ ls ↔ k ∈ zs.flatMap fun a => ((fromN ks zs.length [a]).drop 1).map fun z => [a, z]) (inL : ∀ k ∈ ls, k0 k ∈ zs ∧ k1 k ∈ zs) (k : List Str) :
    (k ∈ zs.flatMap fun a => ((fromN ls zs.length [a]).drop 1).map fun z => [a, z]) ↔ k ∈ ls := by
  have rows' := fun k => (rows k).trans (due_iff g inZ k)
  rw [due_iff gl inL, rows']
  constructor
  · rintro ⟨a, z, e, ne, w⟩
    exact ⟨a, z, e, ne, (way_closed gl rows').mp w⟩
  · rintro ⟨a, z, e, ne, w⟩
    exact ⟨a, z, e, ne, (way_closed gl rows').mpr w⟩
end Dl

namespace Dl
open PySem PySem.Spec PyProof.Rows L2
structure TxtS (mg : Str → Option Value) : Prop where
  isinstance : mg "isinstance" = none
  bool : mg "bool" = none
  int : mg "int" = none
  tuple : mg "tuple" = none
  list : mg "list" = none
  len : mg "len" = none
def spIs : Sp := fun vs H Q _ => ∃ a b : Bool, vs = [.bl a, .bl b] ∧ a = b ∧ Q (.bl true) H
section
variable {P : Program} {w : World} {K : PySem.W.Frag} {mg : Str → Option Value} {base : Heap} {C : Cs} {CT : Addr}
theorem scLawIs : FnScope ["_law_value", "_law_due"] ["_law_value", "_law_due"] (defScope sLawIs) := ⟨rfl, rfl, rfl, by decide +kernel, rfl, by decide +kernel, by decide +kernel⟩
theorem ok_is {f : Addr} {fd : FuncData} (F : Fun K "_law_is" "_law_is" sLawIs f fd) (T : TxtS mg) : FnOk P w K mg base CX0 1 f fd ["_law_value", "_law_due"] spIs := by
  refine F.ok scLawIs (fun vs H Q E h => ?_) (fun cdv A outer s H vs Q E hr h => ?_)
  · obtain ⟨a, b, rfl, _⟩ := h
    rfl
  · obtain ⟨a, b, rfl, rfl, k⟩ := h
    refine ⟨_, (pss_one (ps_ret (pe_and (pe_callB call_isi (by rfl) T.isinstance (by decide +kernel) (pa_cons (pv 0) (pa_cons (pe_bltn (v := .ty "bool") (by rfl) T.bool (by decide +kernel) rfl) pa_nil))) (pe_one (pe_cmpR op_eq (pv 0) (pv 1) (nomark _)))))), ?_⟩
    refine ⟨_, rfl, _, _, _, _, true, rfl, ClsV.ty "bool", .base (.bl a), kit_ty (by decide +kernel), true, rfl, iteT ?_⟩
    refine ⟨_, rfl, _, rfl, rfl, ?_⟩
    rw [decide_eq_true (rfl : V.bl a = V.bl a)]
    exact k
end
end Dl

/-! x != y by the default __ne__ over an own __eq__, y of any type that isn't in front: my own rule -/
namespace Dl
open PySem PySem.Spec PyProof.Rows L2
section
variable {prog : Program} {w : World} {A : Around} {E : Value → Shared → Prop} {s : Shared} {K : PySem.W.Frag} {x C L f : Addr} {h₀ : Heap} {m : Str → Option Value} {ox : Obj} {od : Option Obj} {b tb : Value}
theorem ne_entry_K (X : K.In s.heap) (I : PySem.W.InstAt s.heap x ox C od) (he : PySem.W.findIn K (.ref C) "__eq__" = some (some (.ref f))) (hf : PySem.W.isFn K (.ref f) = true) (hu : A.units < cLine) {Q : Fin → Shared → Prop}
    (hcall : wpAny (model prog w) A (call (.ref f) [.ref x, b]) (fun v s' => ∃ t, v = .bool t ∧ Q (.done (.ret (.bool (!t)))) s') E s) : wpAny (model prog w) A (Builtin.«object.__ne__» ⟨[.ref x, b], []⟩) Q E s := by
  unfold Builtin.«object.__ne__»
  repeat (first
    | with_reducible refine wpAny_cRoomFor hu ?_
    | (refine wpAny_bind (m := callSpecialIfBound? (.ref x) (Str.ofString "__eq__") [b])
        (PySem.W.ifBound_K X I he hf (wpAny_mono hcall (fun v s' hr => by
          obtain ⟨b, rfl, hq⟩ := hr
          repeat (first | exact hq | exact wpAny_pure hq | exact wpAny_truthy_bool hq | (refine wpAny_bind (m := truthy (.bool _)) (wpAny_truthy_bool ?_)) | wp_step)) fun _ _ e => e)))
    | wp_step)
theorem check_slot_K {M : Model} {id n : String} {rest : List Value} {Q : Unit → Shared → Prop} (X : K.In s.heap) (I : PySem.W.InstAt s.heap x ox C od) (hm : PySem.W.mroIn K C (.type "object") = some true) (hk : builtinKind id = some .slot) (hs : splitId id = some ("object", n))
    (ha : argsOk id ⟨.ref x :: rest, []⟩) (hq : Q () s) : wpAny M A (checkBuiltinCall id ⟨.ref x :: rest, []⟩) Q E s := by
  simp only [checkBuiltinCall, hk, hs]
  refine wpAny_bind ?_
  unfold isInstance
  refine wpAny_bind (I.type.here ((PySem.W.looks_mroIn X hm).here ?_))
  repeat wp_step
  cases hsig : Manifest.signature? id with
  | none => exact wpAny_pure hq
  | some sig =>
    simp only [argsOk, hsig] at ha
    have h2 : Bind.checkArgs id sig ⟨.ref x :: rest, []⟩ = pure () := ha
    show wpAny M A (Bind.checkArgs id sig ⟨.ref x :: rest, []⟩) Q E _
    rw [h2]; exact wpAny_pure hq
theorem ifBoundB_K {M : Model} {args : List Value} {name : Str} {id : String} {Q : Option Value → Shared → Prop} (X : K.In s.heap) (I : PySem.W.InstAt s.heap x ox C od) (hs : PySem.W.findIn K (.ref C) name = some (some (.builtin id))) {B : String} (S : Slot B name id)
    (h : wpAny M A (call (.builtin id) (.ref x :: args)) (fun v => Q (some v)) E s) : wpAny M A (callSpecialIfBound? (.ref x) name args) Q E s := by
  simp only [callSpecialIfBound?, bindSpecialIfBound?]
  refine wpAny_holding (wpAny_bind (wpAny_bind (wpAny_bind (I.type.here ((PySem.W.looks_findIn X hs).here ?_)))))
  simp only [S.bind]
  refine wpAny_bind (wpAny_askSetting (wpAny_ite ?_))
  have fin : wpAny M A (call (.builtin id) ([.ref x] ++ args) >>= fun v => pure (some v)) Q E s := wpAny_bind (wpAny_mono h (fun v s' h' => wpAny_pure h') fun _ _ h' => h')
  split
  · exact wpAny_bind (wpAny_pure (wpAny_pure fin))
  · exact wpAny_tryCatch (wpAny_bind (wpAny_pure (wpAny_pure fin)))
theorem ne_K {Q : Value → Shared → Prop} (hu : A.units + 1 < cLine) (F : PyProof.Rows.Fr h₀ L s.heap m) (X₀ : K.In h₀) (I : PySem.W.InstAt s.heap x ox C od) (hb : PySem.W.Looks (model prog w) s.heap (typeOf b) tb) (hn : PySem.W.notFirst K C tb = true)
    (hne : PySem.W.findIn K (.ref C) "__ne__" = some (some (.builtin "object.__ne__"))) (he : PySem.W.findIn K (.ref C) "__eq__" = some (some (.ref f))) (hf : PySem.W.isFn K (.ref f) = true) (hm : PySem.W.mroIn K C (.type "object") = some true)
    (h : wpAny (model prog w) A.in1 (call (.ref f) [.ref x, b]) (fun v s' => ∃ t, v = .bool t ∧ Q (.bool (!t)) s') E s) : wpAny (model prog w) A (richCompare .NotEq (.ref x) b) Q E s := by
  have X := X₀.keeps F.keep
  have one : wpAny (model prog w) A (tryCompare (.ref x) "__ne__" b) (fun r s' => ∃ v, r = some v ∧ Q v s') E s := by
    unfold tryCompare
    refine wpAny_bind (ifBoundB_K X I hne PySem.F.cmp_object.ne (wpAny_call (codeAny_call_builtin PySem.F.cmp_object.ne.plain PySem.F.cmpEntry_ne
      (check_slot_K X I hm PySem.F.cmpKind_ne PySem.F.cmpSplit_ne (PySem.F.cmpArgs_ne _ _) (ne_entry_K (A := A.in1) X I he hf hu (wpAny_mono h (fun v s' hv => ?_) fun _ _ e => e))))))
    obtain ⟨t, rfl, hq⟩ := hv
    first | exact ⟨t, rfl, wpAny_pure ⟨_, rfl, hq⟩⟩ | exact ⟨t, rfl, wpAny_pure (wpAny_pure ⟨_, rfl, hq⟩)⟩
  unfold richCompare
  simp only [oneThing_ref]
  refine wpAny_holding (wpAny_bind (wpAny_cRoomFor (Nat.lt_of_succ_lt hu) ?_))
  rw [cmpInfo_NotEq]
  dsimp only
  refine wpAny_bind (I.type.here (wpAny_bind (hb.here ?_)))
  split
  · rename_i q
    have e : PySem.W.subIn K tb (.ref C) = some false := by
      rcases Bool.or_eq_true_iff.mp hn with e | e
      · rw [beq_iff_eq.mp e] at q; simp at q
      · exact beq_iff_eq.mp e
    refine wpAny_bind ((PySem.W.looks_subIn X e).here ?_)
    simp only [Bool.false_eq_true, if_false]
    refine wpAny_bind (wpAny_mono one (fun r s' z => ?_) fun _ _ e => e)
    obtain ⟨v, rfl, hq⟩ := z
    exact wpAny_pure hq
  · refine wpAny_bind (wpAny_pure ?_)
    simp only [Bool.false_eq_true, if_false]
    refine wpAny_bind (wpAny_mono one (fun r s' z => ?_) fun _ _ e => e)
    obtain ⟨v, rfl, hq⟩ := z
    exact wpAny_pure hq
end
end Dl
namespace Dl
open PySem PySem.Spec PyProof.Rows L2
section
variable {X : Cx}
/-- the type of a value, looked up -/
theorem look_ty {pins : List (Addr × Obj)} {σ : L2.St} {H : Hp} {s : Shared} {x : V} {u t : Value} (I : Inv X pins σ H s) (rx : RelV x u) (ty : TyOf X.K H x t) : PySem.W.Looks (model X.prog X.w) s.heap (typeOf u) t := by
  have at_ : ∀ {a : Addr} {o : Obj} {t : Value}, s.heap.get? a = some o → o.cls = t → PySem.W.Looks (model X.prog X.w) s.heap (typeOf (.ref a)) t := fun h e A Q E s' k q => wpAny_typeOf_ref (k _ _ h) (by rw [e]; exact q)
  cases ty with
  | non => cases (show u = Value.none from rx); exact .of_pure rfl
  | bl y => cases (show u = Value.bool y from rx); exact .of_pure rfl
  | int i => obtain ⟨t, q⟩ := (show ∃ t, u = Value.int i t from rx); cases q; exact .of_pure rfl
  | str y => obtain ⟨t, q⟩ := (show ∃ t, u = Value.str y t from rx); cases q; exact .of_pure rfl
  | flt y => obtain ⟨t, q⟩ := (show ∃ t, u = Value.float y t from rx); cases q; exact .of_pure rfl
  | @lst a xs ea =>
    cases (show u = Value.ref a from rx)
    obtain ⟨_, _, n, _, h1⟩ := (show ObjOk X.prog X.w H s.heap a (.lst xs) from I.hok a _ ea)
    exact at_ h1 rfl
  | @frz a ob xs ea =>
    cases (show u = Value.ref a from rx)
    obtain ⟨_, _, _, n, _, h1⟩ := (show ObjOk X.prog X.w H s.heap a (.frz ob (.lst xs)) from I.hok a _ ea)
    exact at_ h1 rfl
  | @tup a xs ea =>
    cases (show u = Value.ref a from rx)
    obtain ⟨_, _, _, p⟩ := (show ObjOk X.prog X.w H s.heap a (.tup xs) from I.hok a _ ea)
    obtain ⟨o, h1, h2, _⟩ := p
    exact at_ h1 h2
  | @dK a kvs ea =>
    cases (show u = Value.ref a from rx)
    obtain ⟨_, _, vs, _, p⟩ := (show ObjOk X.prog X.w H s.heap a (.dK kvs) from I.hok a _ ea)
    obtain ⟨o, es, ep, h1, h2, _⟩ := p
    exact at_ h1 h2.1
  | @dT a kvs ea =>
    cases (show u = Value.ref a from rx)
    obtain ⟨_, _, xs, _, o, es, ep, h1, h2, _⟩ := (show ObjOk X.prog X.w H s.heap a (.dT kvs) from I.hok a _ ea)
    exact at_ h1 h2.1
  | @ins a C dx fs ea _ _ _ _ _ =>
    cases (show u = Value.ref a from rx)
    obtain ⟨_, J, _⟩ := ins_get I.hok ea
    obtain ⟨od, J, _⟩ := J.look
    exact J.type
/-- x == y by x's own __eq__, whatever y is -/
def rEqAny (K : PySem.W.Frag) (C : Addr) (sp : Sp) (E : XK) : R2 := fun x y H Q => ∃ a dx fs tb, x = .ref a ∧ H a = some (.ins C dx fs) ∧ TyOf K H y tb ∧ PySem.W.notFirst K C tb = true ∧ sp [.ref a, y] H (fun v H' => ∃ t, v = .bl t ∧ Q (.bl t) H') E
def rNeAny (K : PySem.W.Frag) (C : Addr) (sp : Sp) (E : XK) : R2 := fun x y H Q => ∃ a dx fs tb, x = .ref a ∧ H a = some (.ins C dx fs) ∧ TyOf K H y tb ∧ PySem.W.notFirst K C tb = true ∧ sp [.ref a, y] H (fun v H' => ∃ t, v = .bl t ∧ Q (.bl (!t)) H') E
theorem op_eqAny {CX : CXT} {k : Nat} {C f : Addr} {fd : FuncData} {ps : List Str} {sp : Sp} {E : XK} (F : FnOk X.prog X.w X.K X.mg X.base CX k f fd ps sp) (hs : PySem.W.findIn X.K (.ref C) "__eq__" = some (some (.ref f))) (hf : PySem.W.isFn X.K (.ref f) = true)
    (hr : Room k X.A) (hb : Binds X.K fd ps []) (hx : Passes CX X E) : OpR X (compareOp .Eq) (rEqAny X.K C sp E) := by
  intro pins s σ H x y v u Q I rx ry h
  obtain ⟨a, dx, fs, tb, rfl, ha, ty, hn, hsp⟩ := h
  cases rx
  obtain ⟨mA, J, _⟩ := ins_get I.hok ha
  obtain ⟨od, J, _⟩ := J.look
  obtain ⟨m, hF⟩ := I.fr
  show wpAny (model X.prog X.w) X.A (richCompare .Eq (.ref a) u) (EP X pins σ Q) X.xe s
  refine PySem.W.cmp_K (op := .Eq) (tb := tb) hr.units0 hF I.ok.mod.kin J (look_ty I ry ty) hn hs hf ?_
  refine wpAny_mono (run_at (A := X.A) rfl F hr hb hx I (show Vals [V.ref a, y] [Value.ref a, u] from .cons rfl (.cons ry .nil)) hsp) (fun v s' hv => ?_) fun _ _ y => y
  obtain ⟨z, H', I', rz, t, ez, q⟩ := hv
  subst ez
  cases rz
  exact ⟨.bl t, H', I', rfl, q⟩
theorem op_neAny {CX : CXT} {k : Nat} {C f : Addr} {fd : FuncData} {ps : List Str} {sp : Sp} {E : XK} (F : FnOk X.prog X.w X.K X.mg X.base CX k f fd ps sp) (hne : PySem.W.findIn X.K (.ref C) "__ne__" = some (some (.builtin "object.__ne__"))) (hm : PySem.W.mroIn X.K C (.type "object") = some true)
    (hs : PySem.W.findIn X.K (.ref C) "__eq__" = some (some (.ref f))) (hf : PySem.W.isFn X.K (.ref f) = true) (hr : Room (k + 1) X.A) (hb : Binds X.K fd ps []) (hx : Passes CX X E) : OpR X (compareOp .NotEq) (rNeAny X.K C sp E) := by
  intro pins s σ H x y v u Q I rx ry h
  obtain ⟨a, dx, fs, tb, rfl, ha, ty, hn, hsp⟩ := h
  cases rx
  obtain ⟨mA, J, _⟩ := ins_get I.hok ha
  obtain ⟨od, J, _⟩ := J.look
  obtain ⟨m, hF⟩ := I.fr
  show wpAny (model X.prog X.w) X.A (richCompare .NotEq (.ref a) u) (EP X pins σ Q) X.xe s
  refine ne_K (tb := tb) (by have := hr.units; omega) hF I.ok.mod.kin J (look_ty I ry ty) hn hne hs hf hm ?_
  refine wpAny_mono (run_at (A := X.A.in1) rfl F hr.in1 hb hx I (show Vals [V.ref a, y] [Value.ref a, u] from .cons rfl (.cons ry .nil)) hsp) (fun v s' hv => ?_) fun _ _ y => y
  obtain ⟨z, H', I', rz, t, ez, q⟩ := hv
  subst ez
  cases rz
  exact ⟨t, rfl, .bl (!t), H', I', rfl, q⟩
end
end Dl

namespace Dl
open PySem PySem.Spec PyProof.Rows L2
def spLaw29 (K : PySem.W.Frag) : Sp := fun vs H Q _ => ∃ (a : Addr) (ns : List Int), vs = [.ref a] ∧ SqL K H a (ns.map V.int) ∧ ns.length ≤ 63 ∧ ∀ H', Q (.bl true) H'
theorem NotesAt.ins {K : PySem.W.Frag} {CN : Addr} {H : Hp} {p : Addr} {ks : List (List Str)} (h : NotesAt K CN H p ks) : ∃ dx fs, H p = some (.ins CN dx fs) := by
  obtain ⟨dx, tp, L, h1, _⟩ := h.ex
  exact ⟨dx, _, h1⟩
theorem look_none (m : Str) (v : V) (e : (m == ("pairs" : Str)) = false) : List.lookup m [(("pairs" : Str), v)] = none := by
  rw [List.lookup_cons, e]
  rfl
theorem atI_mem {xs : List V} {j : Int} (h0 : 0 ≤ j) (h1 : j < (xs.length : Nat)) : ∃ v, atI xs j = some v ∧ v ∈ xs := by
  obtain ⟨k, rfl⟩ := Int.eq_ofNat_of_zero_le h0
  have hk : k < xs.length := by omega
  exact ⟨xs[k], by unfold atI; rw [ix_at hk]; exact List.getElem?_eq_getElem hk, List.getElem_mem hk⟩
/-- the rows that the law expects, in its order -/
def dueOne (ks : List (List Str)) (n : Nat) (a : Str) : List (List Str) := ((fromN ks n [a]).drop 1).map fun z => [a, z]
def dueAll (ks : List (List Str)) (n : Nat) (zs : List Str) : List (List Str) := zs.flatMap (dueOne ks n)
theorem from_sub {ks : List (List Str)} {zs : List Str} (inZ : ∀ k ∈ ks, k1 k ∈ zs) {a : Str} (ha : a ∈ zs) (n : Nat) : ∀ y ∈ fromN ks n [a], y ∈ zs := fun y hy => by
  have w := fromN_sound n y hy
  cases w with
  | start => exact ha
  | next _ q =>
    unfold adjP at q
    obtain ⟨k, hk, rfl⟩ := List.mem_map.mp q
    exact inZ k (List.mem_filter.mp hk).1
theorem dueOne_len {ks : List (List Str)} {zs : List Str} (inZ : ∀ k ∈ ks, k1 k ∈ zs) {a : Str} (ha : a ∈ zs) (n : Nat) : (dueOne ks n a).length + 1 ≤ zs.length := by
  have h := List.Nodup.length_le_of_subset (fromN_nodup (ks := ks) (found := [a]) (by simp) n) (from_sub inZ ha n)
  have h2 : 1 ≤ (fromN ks n [a]).length := List.length_pos_of_mem (fromN_keep (ks := ks) (z := a) (found := [a]) (by simp) n)
  unfold dueOne
  rw [List.length_map, List.length_drop]
  omega
theorem dueAll_len {ks : List (List Str)} {zs : List Str} (inZ : ∀ k ∈ ks, k1 k ∈ zs) (n : Nat) : ∀ (ys : List Str), (∀ y ∈ ys, y ∈ zs) → (dueAll ks n ys).length ≤ ys.length * (zs.length - 1)
  | [], _ => by simp [dueAll]
  | y :: r, h => by
    have h1 := dueOne_len inZ (h y (List.mem_cons_self ..)) n
    have h2 := dueAll_len inZ n r fun z hz => h z (List.mem_cons_of_mem _ hz)
    unfold dueAll at h2 ⊢
    rw [List.flatMap_cons, List.length_append, List.length_cons, Nat.add_mul, Nat.one_mul]
    omega
section
variable {P : Program} {w : World} {K : PySem.W.Frag} {mg : Str → Option Value} {base : Heap} {CN CI CE : Addr}
theorem scLaw29 : FnScope ["_law_script", "_law_bag_here", "_law_looks", "_law_pairs_here", "_law_notes_here", "_law_due", "_law_look", "_law_other", "_law_closed", "_law_pool", "_law_about", "_law_name_here", "_law_pair"] ["_law_script"] (defScope sLaw) := ⟨rfl, rfl, rfl, by decide +kernel, rfl, by decide +kernel, by decide +kernel⟩
theorem ok_law29 {f : Addr} {fd : FuncData} (F : Fun K "law" "law" sLaw f fd) (T : TxtL28 mg) (TN : NoteOps P w K mg base CN CI CE) (ic : C8.InsC K CN)
    (gB : Dfn P w K mg base CX0 1 "_law_bag" ["_law_script"] (spBag K)) (gT : Dfn P w K mg base CX0 1 "_law_take" ["_law_bag_here", "_law_size"] spTake)
    (gN : Dfn P w K mg base CX0 3 "_law_names" ["_law_bag_here", "_law_count"] spNames) (gP : Dfn P w K mg base CX0 2 "_law_pairs" ["_law_bag_here", "_law_looks", "_law_count"] spPairs)
    (gF : Dfn P w K mg base CX0 1 "_law_from" ["_law_pairs_here", "_law_name_here", "_law_count"] spFrom) (gNo : Dfn P w K mg base CX0 9 "_law_notes" ["_law_pairs_here"] (spLNotes K CN))
    (gI : Dfn P w K mg base CX0 1 "_law_is" ["_law_value", "_law_due"] spIs)
    (gCl : ∃ fC fdC, Meth K CN "closed" fC ∧ Binds K fdC ["self"] [] ∧ FnOk P w K mg base CX0 8 fC fdC ["self"] (spNClosed K CN))
    (gAb : ∃ fA fdA, Meth K CN "about" fA ∧ Binds K fdA ["self", "look"] [] ∧ FnOk P w K mg base CX0 8 fA fdA ["self", "look"] (spNAbout K CN)) :
    FnOk P w K mg base CX0 10 f fd ["_law_script"] (spLaw29 K) := by
  obtain ⟨fB, dB, mBag, kBag, bBag, GBag⟩ := gB
  obtain ⟨fT, dT, mTake, kTake, bTake, GTake⟩ := gT
  obtain ⟨fN, dN, mNames, kNames, bNames, GNames⟩ := gN
  obtain ⟨fP, dP, mPairs, kPairs, bPairs, GPairs⟩ := gP
  obtain ⟨fF, dF, mFrom, kFrom, bFrom, GFrom⟩ := gF
  obtain ⟨fNo, dNo, mNotes, kNotes, bNotes, GNotes⟩ := gNo
  obtain ⟨fI, dI, mIs, kIs, bIs, GIs⟩ := gI
  obtain ⟨fC, dC, hCl, bCl, GCl⟩ := gCl
  obtain ⟨fA, dA, hAb, bAb, GAb⟩ := gAb
  obtain ⟨fEq, dEq, hEq, iEq, bEq, GEq⟩ := TN.eq
  refine F.ok scLaw29 (fun vs H Q E h => ?_) (fun cdv A outer s H vs Q E hr h => ?_)
  · obtain ⟨a, ns, rfl, _⟩ := h
    rfl
  · obtain ⟨a0, ns, rfl, hS, hlen, k⟩ := h
    have hr9 : Room 9 _ := hr.mono (by decide)
    have hr8 : Room 8 _ := hr.mono (by decide)
    have hr3 : Room 3 _ := hr.mono (by decide)
    have hr2 : Room 2 _ := hr.mono (by decide)
    have hr1 : Room 1 _ := hr.mono (by decide)
    refine ⟨_, (pss_cons (ps_set (i := 1) scLaw29.nd rfl (Or.inl rfl) (pe_call GBag hr1 (by rfl) mBag kBag bBag .nil pass0 (pa_cons (pv 0) pa_nil)))
        (pss_cons (ps_set (i := 2) scLaw29.nd rfl (Or.inl rfl) (pe_call GNames hr3 (by rfl) mNames kNames bNames .nil pass0 (pa_cons (pv 1) (pa_cons (pe_op op_add pe_int (pe_call GTake hr1 (by rfl) mTake kTake bTake .nil pass0 (pa_cons (pv 1) (pa_cons pe_int pa_nil)))) pa_nil))))
        (pss_cons (ps_set (i := 3) scLaw29.nd rfl (Or.inl rfl) (pe_call GPairs hr2 (by rfl) mPairs kPairs bPairs .nil pass0 (pa_cons (pv 1) (pa_cons (pv 2) (pa_cons (pe_call GTake hr1 (by rfl) mTake kTake bTake .nil pass0 (pa_cons (pv 1) (pa_cons pe_int pa_nil))) pa_nil)))))
        (pss_cons (ps_set (i := 4) scLaw29.nd rfl (Or.inl rfl) (pe_call GNotes hr9 (by rfl) mNotes kNotes bNotes .nil pass0 (pa_cons (pv 3) pa_nil)))
        (pss_cons (ps_set (i := 5) scLaw29.nd rfl (Or.inl rfl) (pe_lst pa_nil))
        (pss_cons (ps_for PassesOwn.never rfl (pi_list (pv 2)) (pg_name (i := 6) scLaw29.nd rfl (Or.inr rfl)) (pss_one (ps_for PassesOwn.never rfl (pi_list (pe_call GFrom hr1 (by rfl) mFrom kFrom bFrom .nil pass0 (pa_cons (pv 3) (pa_cons (pv 6) (pa_cons (pe_callB call_len_seq (by rfl) T.len PySem.boot_len (pa_cons (pv 2) pa_nil)) pa_nil))))) (pg_name (i := 7) scLaw29.nd rfl (Or.inl rfl)) (pss_one (ps_expr (pe_bm PySem.F.plainAttrs_list PySem.F.slot_list_append PySem.F.type_list_append mt_append (pv 5) (pa_cons (pe_tup (pa_cons (pv 6) (pa_cons (pv 7) pa_nil))) pa_nil)))))))
        (pss_cons (ps_set (i := 8) scLaw29.nd rfl (Or.inl rfl) (pe_meth0 (pv 4) TN.cl hCl GCl hr8 bCl .nil pass0))
        (pss_cons (ps_if (PW.pt (pw_or (pt_cmpR (op_neD hr.units) (pe_callTy call_list_of (by rfl) T.list (by decide +kernel) (pa_cons (pe_fld (pv 8) rfl) pa_nil)) (pe_callB (cr_sortTxL hr.units) (by rfl) T.sor (by decide +kernel) (pa_cons (pv 5) pa_nil)) (nomark _)) (pw_or1 (pt_cmpR (op_neD hr.units) (pe_callTy call_list_of (by rfl) T.list (by decide +kernel) (pa_cons (pe_fld (pv 4) rfl) pa_nil)) (pe_callB (cr_sortTx rfl hr.units) (by rfl) T.sor (by decide +kernel) (pa_cons (pe_callTy (cr_setTx rfl hr.units) (by rfl) T.set_ (by decide +kernel) (pa_cons (pv 3) pa_nil)) pa_nil)) (nomark _))))) (pss_one (ps_ret pe_bl)) pss_nil)
        (pss_cons (ps_set (i := 9) scLaw29.nd rfl (Or.inl rfl) (pe_op op_cat (pv 2) (pe_lst (pa_cons pe_str pa_nil))))
        (pss_cons (ps_set (i := 6) scLaw29.nd rfl (Or.inr rfl) (pe_ix ix_list (pv 9) (pe_call GTake hr1 (by rfl) mTake kTake bTake .nil pass0 (pa_cons (pv 1) (pa_cons (pe_callB call_len_seq (by rfl) T.len PySem.boot_len (pa_cons (pv 9) pa_nil)) pa_nil))) (fun _ _ => rfl)))
        (pss_cons (ps_set (i := 10) scLaw29.nd rfl (Or.inl rfl) (pe_meth (pv 4) TN.cl hAb GAb hr8 bAb .nil pass0 (pa_cons (pv 6) pa_nil)))
        (pss_cons (ps_if (pt_cmpR (op_neD hr.units) (pe_callTy call_list_of (by rfl) T.list (by decide +kernel) (pa_cons (pe_fld (pv 10) rfl) pa_nil)) (pe_callB (cr_sortTx rfl hr.units) (by rfl) T.sor (by decide +kernel) (pa_cons (pe_callTy (cr_setTx rfl hr.units) (by rfl) T.set_ (by decide +kernel) (pa_cons (pe_lc (own := [("_law_pair", 12)]) (g := gName 12) (tt := tTest (tOp (rIn K false) (tVar 6) (tVar 12))) (te := tVar 12) rfl scLaw29.nd (pi_list (pv 3)) (blkOk_by (N := ["_law_script", "_law_bag_here", "_law_looks", "_law_pairs_here", "_law_notes_here", "_law_due", "_law_look", "_law_other", "_law_closed", "_law_pool", "_law_about", "_law_name_here", "_law_pair"]) (sc := defScope sLaw) (by decide +kernel)) (fun _ _ _ _ _ => (pg_name (i := 12) scLaw29.nd rfl (Or.inl rfl))) (fun _ _ _ _ _ => (pts_one (pt_cmpR (by exact op_in_seq : OpR _ _ (rIn K false)) (pv 6) (pv 12) (by rfl)))) (fun _ _ _ _ _ => (pv 12))) pa_nil)) pa_nil)) (nomark _)) (pss_one (ps_ret pe_bl)) pss_nil)
        (pss_cons (ps_for PassesOwn.never rfl (pi_list (pe_op op_cat (pv 9) (pv 2))) (pg_name (i := 11) scLaw29.nd rfl (Or.inr rfl)) (pss_one (ps_if (pt_cmpR (op_neD hr.units) (pe_callTy call_list_of (by rfl) T.list (by decide +kernel) (pa_cons (pe_fld (pe_meth (pv 4) TN.cl hAb GAb hr8 bAb .nil pass0 (pa_cons (pv 11) pa_nil)) rfl) pa_nil)) (pe_callB (cr_sortTx rfl hr.units) (by rfl) T.sor (by decide +kernel) (pa_cons (pe_callTy (cr_setTx rfl hr.units) (by rfl) T.set_ (by decide +kernel) (pa_cons (pe_lc (own := [("_law_pair", 12)]) (g := gName 12) (tt := tTest (tOp (rIn K false) (tVar 11) (tVar 12))) (te := tVar 12) rfl scLaw29.nd (pi_list (pv 3)) (blkOk_by (N := ["_law_script", "_law_bag_here", "_law_looks", "_law_pairs_here", "_law_notes_here", "_law_due", "_law_look", "_law_other", "_law_closed", "_law_pool", "_law_about", "_law_name_here", "_law_pair"]) (sc := defScope sLaw) (by decide +kernel)) (fun _ _ _ _ _ => (pg_name (i := 12) scLaw29.nd rfl (Or.inl rfl))) (fun _ _ _ _ _ => (pts_one (pt_cmpR (by exact op_in_seq : OpR _ _ (rIn K false)) (pv 11) (pv 12) (by rfl)))) (fun _ _ _ _ _ => (pv 12))) pa_nil)) pa_nil)) (nomark _)) (pss_one (ps_ret pe_bl)) pss_nil)))
        (pss_cons (ps_if (pt_cmpR (op_neD hr.units) (pe_callTy call_list_of (by rfl) T.list (by decide +kernel) (pa_cons (pe_fld (pv 4) rfl) pa_nil)) (pe_callB (cr_sortTx rfl hr.units) (by rfl) T.sor (by decide +kernel) (pa_cons (pe_callTy (cr_setTx rfl hr.units) (by rfl) T.set_ (by decide +kernel) (pa_cons (pv 3) pa_nil)) pa_nil)) (nomark _)) (pss_one (ps_ret pe_bl)) pss_nil)
        (pss_one (ps_ret (pe_and (pe_call GIs hr1 (by rfl) mIs kIs bIs .nil pass0 (pa_cons (pe_cmpR (op_eqAny GEq hEq iEq hr1 bEq pass0) (pe_meth0 (pv 4) TN.cl hCl GCl hr8 bCl .nil pass0) (pv 8) (nomark _)) (pa_cons pe_bl pa_nil))) (pe_one (pe_call GIs hr1 (by rfl) mIs kIs bIs .nil pass0 (pa_cons (pe_cmpR (op_eqAny GEq hEq iEq hr1 bEq pass0) (pe_meth0 (pv 8) TN.cl hCl GCl hr8 bCl .nil pass0) (pv 8) (nomark _)) (pa_cons pe_bl pa_nil))))))))))))))))))))), ?_⟩
    refine ⟨_, rfl, a0, ns, rfl, hS, hlen, fun H1 b L s1 hb0 hL hok => ?_⟩
    refine ⟨_, rfl, _, rfl, b, L, 5, rfl, hL, hok, by decide, by decide, fun L1 n ok1 n0 n1 => ⟨_, _, rfl, rfl, b, L1, 2 + n, rfl, upd_same, ok1, by omega, by omega, fun H2 u L2 zs s2 hun hu hb2 ok2 okz hz => ?_⟩⟩
    have nub : u ≠ b := fun e => by rw [e, upd_same] at hun; cases hun
    have zl : 2 ≤ zs.length ∧ zs.length ≤ 6 := by omega
    clear hL hok s1 s2 ok1 hun hz n0 n1
    refine ⟨_, rfl, _, rfl, _, rfl, b, L2, 9, rfl, hb2, ok2, by decide, by decide, fun L3 n ok3 n0 n1 => ?_⟩
    refine ⟨b, u, L3, zs, n, rfl, upd_same, ok3, by rw [upd_ne nub]; exact hu, nub, okz, zl.1, n0, by omega, fun H4 p L4 M s4 np npb hb4 ok4 hM inL few _ => ?_⟩
    have hu4 := s4 _ _ nub (by rw [upd_ne nub]; exact hu)
    clear s4 np n0 n1 hu hb2 ok2 ok3
    refine ⟨_, rfl, p, M, rfl, hM, by omega, fun H5 x s5 nx hx => ?_⟩
    have hM := hM.of s5
    have hu5 := s5 _ _ hu4
    have hb5 := s5 _ _ hb4
    have inZ : ∀ k ∈ M.map (·.2), k1 k ∈ zs := fun k hk => (inL k hk).2
    refine ⟨Nat.zero_le _, fun d hd => ?_⟩
    have s6 := Same.upd_new hd (o := .lst ([] : List V))
    have hd6 := upd_same (H := H5) (a := d) (o := .lst ([] : List V))
    generalize upd H5 d (.lst ([] : List V)) = H6 at *
    have d0 : H5 d = none := hd
    have lzs : (zs.map V.str).length = zs.length := List.length_map ..
    refine ⟨_, rfl, u, rfl, ⟨_, SqL.of (s6 _ _ hu5)⟩, for_it (walk_list (K := K) (a := u) (xs := zs.map V.str)) (fun i σ H' => ∃ (x6 x7 : Option V) (N : Keyed), σ = [some (.ref a0), some (.ref b), some (.ref u), some (.ref p), some (.ref x), some (.ref d), x6, x7, none, none, none, none, none] ∧ Same H5 H' ∧
        H' d = some (.lst (N.map fun q => V.ref q.1)) ∧ (∀ q ∈ N, H' q.1 = some (.tup (q.2.map V.str))) ∧ N.map (·.2) = dueAll (M.map (·.2)) zs.length (zs.take i))
      ⟨none, none, [], rfl, s6, hd6, fun q hq => absurd hq (by simp), rfl⟩ (fun i σ H' _ ⟨_, _, _, _, s, _⟩ => SqL.of (s _ _ hu5)) ?_ ?_⟩
    · rintro i v σ H7 H8 hi ⟨x6, x7, N, rfl, s7, hN, tN, eN⟩ ⟨rfl, hv⟩
      obtain ⟨a, ha, rfl⟩ : ∃ a, zs[i]? = some a ∧ v = .str a := by
        rw [List.getElem?_map] at hv
        cases e : zs[i]? with
        | none => rw [e] at hv; cases hv
        | some z => rw [e] at hv; exact ⟨z, rfl, (Option.some.inj hv).symm⟩
      have am := List.mem_of_getElem? ha
      have len1 := dueAll_len inZ zs.length (zs.take i) fun y hy => List.mem_of_mem_take hy
      have len2 := dueOne_len inZ am zs.length
      have len3 : (zs.take i).length ≤ 5 := by rw [List.length_take]; omega
      have len4 : (zs.take i).length * (zs.length - 1) ≤ 5 * 5 := Nat.mul_le_mul len3 (by omega)
      rw [← eN, List.length_map] at len1
      refine ⟨_, rfl, _, rfl, _, rfl, u, _, rfl, .inl (SqL.of (s7 _ _ hu5)), p, a, zs.length, M, by rw [lzs]; rfl, hM.of s7, by omega, by omega, fun H9 r s9 nr hr => ?_⟩
      have eD : (fromN (M.map (·.2)) zs.length [a]).drop 1 = (fromN (M.map (·.2)) zs.length [a]).drop 1 := rfl
      unfold dueOne at len2
      rw [List.length_map] at len2
      refine ⟨r, rfl, ⟨_, SqL.of hr⟩, for_it (walk_list (K := K) (a := r) (xs := ((fromN (M.map (·.2)) zs.length [a]).drop 1).map V.str)) (fun j σ H' => ∃ (x7 : Option V) (N' : Keyed), σ = [some (.ref a0), some (.ref b), some (.ref u), some (.ref p), some (.ref x), some (.ref d), some (.str a), x7, none, none, none, none, none] ∧ Same H5 H' ∧ H' r = some (.lst (((fromN (M.map (·.2)) zs.length [a]).drop 1).map V.str)) ∧
          H' d = some (.lst (N'.map fun q => V.ref q.1)) ∧ (∀ q ∈ N', H' q.1 = some (.tup (q.2.map V.str))) ∧ N'.map (·.2) = N.map (·.2) ++ (((fromN (M.map (·.2)) zs.length [a]).drop 1).take j).map fun z => [a, z])
        ⟨x7, N, rfl, s7.trans s9, hr, s9 _ _ hN, fun q hq => s9 _ _ (tN q hq), by simp⟩ (fun j σ H' _ ⟨_, _, _, _, h, _⟩ => SqL.of h) ?_ ?_⟩
      · rintro j v σ H10 H11 hj ⟨x7, N', rfl, s10, hr10, hN', tN', eN'⟩ ⟨rfl, hv⟩
        generalize (fromN (M.map (·.2)) zs.length [a]).drop 1 = ys at *
        obtain ⟨z, hz, rfl⟩ : ∃ z, ys[j]? = some z ∧ v = .str z := by
          rw [List.getElem?_map] at hv
          cases e : ys[j]? with
          | none => rw [e] at hv; cases hv
          | some z => rw [e] at hv; exact ⟨z, rfl, (Option.some.inj hv).symm⟩
        have jl := (List.getElem?_eq_some_iff.mp hz).1
        have nl : N'.length ≤ 40 := by
          have e := congrArg List.length eN'
          rw [List.length_map, List.length_append, List.length_map, List.length_map, List.length_take] at e
          omega
        refine ⟨_, rfl, .inl ⟨rfl, _, SqL.of hN'⟩, _, rfl, _, rfl, by show 2 ≤ sizeLine; decide, fun t ht => ?_⟩
        have s11 := Same.upd_new ht (o := .tup [.str a, .str z])
        have ht11 := upd_same (H := H11) (a := t) (o := .tup [.str a, .str z])
        have ndt : d ≠ t := ne_of_none hN' ht
        refine ⟨d, _, _, rfl, rfl, s11 _ _ hN', by rw [List.length_map]; exact small1000 (by omega), ?_⟩
        refine ⟨_, N' ++ [(t, [a, z])], rfl, fun c o e => ?_, ?_, ?_, fun q hq => ?_, ?_⟩
        · rw [upd_ne (ne_of_none e d0)]
          exact s11 _ _ (s10 _ _ e)
        · rw [upd_ne (ne_of_none hN nr).symm]
          exact s11 _ _ hr10
        · rw [upd_same, List.map_append]
          rfl
        · have ne : q.1 ≠ d := fun e => by
            rcases List.mem_append.mp hq with h | h
            · have z1 := tN' q h
              rw [e, hN'] at z1
              cases z1
            · rw [List.mem_singleton.mp h] at e
              exact ndt e.symm
          rw [upd_ne ne]
          rcases List.mem_append.mp hq with h | h
          · exact s11 _ _ (tN' q h)
          · rw [List.mem_singleton.mp h]; exact ht11
        · rw [List.map_append, eN', take_plus2 hz, List.map_append, List.append_assoc]
          rfl
      · rintro σ H10 ⟨x7, N', rfl, s10, hr10, hN', tN', eN'⟩
        rw [List.length_map, List.take_length] at eN'
        refine ⟨_, _, N', rfl, s10, hN', tN', ?_⟩
        rw [eN', eN, take_plus2 ha]
        unfold dueAll
        rw [List.flatMap_append]
        show _ = _ ++ List.flatMap (dueOne (M.map (·.2)) zs.length) [a]
        rw [List.flatMap_cons, List.flatMap_nil, List.append_nil]
        rfl
    rintro σ H7 ⟨x6, x7, N, rfl, s7, hN, tN, eN⟩
    rw [lzs, List.take_length] at eN
    have hM := hM.of s7
    have hx := hx.of s7
    have hu7 := s7 _ _ hu5
    have hb7 := s7 _ _ hb5
    clear s6 hd6 s5 nx
    have g := hM.good
    have gn := good_norm g
    have wn := norm_len (M.map (·.2))
    rw [List.length_map] at wn
    have seen6 : (seenK [] (normK (M.map (·.2)))).length ≤ 6 := by
      have := List.Nodup.length_le_of_subset (l₂ := zs) (seenK_nodup (ks := normK (M.map (·.2))) (acc := []) (by simp)) (fun y hy => by
        rcases mem_seenK.mp hy with h | ⟨k, hk, h⟩
        · exact absurd h (by simp)
        · have hk := mem_norm.mp hk
          rw [(g k hk).eq.1] at h
          rcases List.mem_cons.mp h with rfl | h
          · exact (inL k hk).1
          · rw [List.mem_singleton.mp h]; exact (inL k hk).2)
      omega
    obtain ⟨dx, tpx, Lx, ix, htpx, ex1, hLx⟩ := hx.ex
    -- closed
    refine ⟨_, rfl, x, dx, _, rfl, ix, look_none "closed" _ (by decide +kernel), x, _, rfl, hx, gn, by omega, by omega, fun H8 c ls s8 _ hc hls => ?_⟩
    have rows : ∀ k, k ∈ ls ↔ k ∈ dueAll (M.map (·.2)) zs.length zs := fun k => (hls k).trans (closed_rows g inL k)
    have hM := hM.of s8
    have hx := hx.of s8
    have hu8 := s8 _ _ hu7
    have hb8 := s8 _ _ hb7
    have hN8 := s8 _ _ hN
    have tN8 : ∀ q ∈ N, H8 q.1 = some (.tup (q.2.map V.str)) := fun q hq => s8 _ _ (tN q hq)
    have ndue : (N.map (·.2)).Nodup := by rw [eN]; exact nodup_due _ _ _ okz.nd
    have gdue : GoodK (N.map (·.2)) := fun k hk => by
      rw [eN] at hk
      obtain ⟨a, ha, h⟩ := List.mem_flatMap.mp hk
      obtain ⟨z, hz, ne, rfl⟩ := mem_dueOne.mp h
      exact ⟨_, _, rfl, okz.valid ha, okz.valid (from_sub inZ ha _ z hz), fun e => ne e.symm⟩
    have nlen : N.length ≤ 30 := by
      have h1 := dueAll_len inZ zs.length zs fun y hy => hy
      have h2 : zs.length * (zs.length - 1) ≤ 6 * 5 := Nat.mul_le_mul zl.2 (by omega)
      rw [← eN, List.length_map] at h1
      omega
    have same : sortK (N.map (·.2)) = normK ls := norm_of ndue (fun k hk => by rw [eN] at hk; exact (rows k).mpr hk) fun k hk => by rw [eN]; exact (rows k).mp hk
    have nlen0 : N.length = (sortK (N.map (·.2))).length := by rw [← List.length_map (f := (·.2)) (as := N)]; exact (List.mergeSort_perm _ _).length_eq.symm
    have gls : GoodK ls := fun k hk => gdue k (by rw [eN]; exact (rows k).mp hk)
    have gc := good_norm gls
    obtain ⟨dc, tpc, Lc, ic8, htpc, ec1, hLc⟩ := hc.ex
    refine ⟨_, rfl, c, CN, dc, _, _, rfl, ic8, TN.cl, TN.nP, pfN _, tpc, _, rfl, .inr (SqT.of htpc), fun l1 hl1 => ?_⟩
    have s9 := Same.upd_new hl1 (o := .lst (Lc.map fun q => V.ref q.1))
    have h19 := upd_same (H := H8) (a := l1) (o := .lst (Lc.map fun q => V.ref q.1))
    generalize upd H8 l1 (.lst (Lc.map fun q => V.ref q.1)) = H9 at *
    refine ⟨_, rfl, d, N, rfl, SqL.of (s9 _ _ hN8), fun q hq => SqT.of (s9 _ _ (tN8 q hq)), fun q hq e => ?_, by omega, fun D p2 perm srt nq => ?_⟩
    · have := (gdue _ (List.mem_map_of_mem hq)).eq.1
      rw [e] at this
      cases this
    have s10 := Same.upd_new nq (o := .lst (D.map fun q => V.ref q.1))
    have h210 := upd_same (H := H9) (a := p2) (o := .lst (D.map fun q => V.ref q.1))
    generalize upd H9 p2 (.lst (D.map fun q => V.ref q.1)) = H10 at *
    rw [same] at srt
    refine ⟨.list ((normK ls).map txData), .list ((normK ls).map txData), .lst (SqL.of (s10 _ _ h19)) (by rw [← ec1]; exact txs_dp fun q hq => Same.tup (s9.trans s10) (hLc q hq)), .lst (SqL.of h210) (by rw [← srt]; exact txs_dp fun q hq => SqT.of ((s9.trans s10) _ _ (tN8 q (perm.mem_iff.mp hq)))), (txs_shaped gc).2, (txs_shaped gc).2, _, rfl, iteZ (by rw [(txs_eqv _ _).2, decide_eq_true rfl]; rfl) ?_⟩
    have s810 := s9.trans s10
    have hM := hM.of s810
    have hx := hx.of s810
    have hc := hc.of s810
    have hu10 := s810 _ _ hu8
    have hb10 := s810 _ _ hb8
    clear s9 s10 h19 h210 hl1 nq perm srt hLc ic8 htpc ec1 hLx ix htpx ex1 s810
    -- the notes as they were
    have sorted_is : ∀ {S D A : Keyed}, (A.map (·.2)).Nodup → (∀ p ∈ A, p ∈ S) → (∀ p ∈ S, p.2 ∈ A.map (·.2)) → D.map (·.2) = sortK (A.map (·.2)) → D.map (·.2) = normK (S.map (·.2)) := fun nd sub all srt => by
      rw [srt]
      exact norm_of nd (fun k hk => by
        obtain ⟨q, hq, rfl⟩ := List.mem_map.mp hk
        exact List.mem_map_of_mem (sub q hq)) fun k hk => by
        obtain ⟨q, hq, rfl⟩ := List.mem_map.mp hk
        exact all q hq
    have nonempty : ∀ {S A : Keyed}, GoodK (S.map (·.2)) → (∀ p ∈ A, p ∈ S) → ∀ p ∈ A, p.2 ≠ [] := fun g sub p hp e => by
      have := (g _ (List.mem_map_of_mem (sub p hp))).eq.1
      rw [e] at this
      cases this
    obtain ⟨dk, tk, Lk, ik, htk, ek, hLk⟩ := hx.ex
    refine ⟨_, rfl, x, CN, dk, _, _, rfl, ik, TN.cl, TN.nP, pfN _, tk, _, rfl, .inr (SqT.of htk), fun l1 hl1 => ?_⟩
    have s11 := Same.upd_new hl1 (o := .lst (Lk.map fun q => V.ref q.1))
    have h1 := upd_same (H := H10) (a := l1) (o := .lst (Lk.map fun q => V.ref q.1))
    generalize upd H10 l1 (.lst (Lk.map fun q => V.ref q.1)) = H11 at *
    refine ⟨_, rfl, p, M, rfl, .inl (SqL.of (s11 _ _ hM.lst)), (hM.of s11).txt, by omega, fun a A na sub all nd => ?_⟩
    dsimp only [cxOf]
    have s12 := Same.upd_new na (o := SetTx P w a A)
    have ha := upd_same (H := H11) (a := a) (o := SetTx P w a A)
    generalize upd H11 a (SetTx P w a A) = H12 at *
    refine ⟨a, A, rfl, ha, fun q hq => (hM.of (s11.trans s12)).txt q (sub q hq), nonempty g sub, fun D p2 perm srt lend nq => ?_⟩
    have s13 := Same.upd_new nq (o := .lst (D.map fun q => V.ref q.1))
    have h2 := upd_same (H := H12) (a := p2) (o := .lst (D.map fun q => V.ref q.1))
    generalize upd H12 p2 (.lst (D.map fun q => V.ref q.1)) = H13 at *
    have keys := sorted_is nd sub all srt
    have sA := s11.trans (s12.trans s13)
    refine ⟨.list ((normK (M.map (·.2))).map txData), .list ((normK (M.map (·.2))).map txData), .lst (SqL.of ((s12.trans s13) _ _ h1)) (by rw [← ek]; exact txs_dp fun q hq => Same.tup sA (hLk q hq)), .lst (SqL.of h2) (by rw [← keys]; exact txs_dp fun q hq => (hM.of sA).txt q (sub q (perm.mem_iff.mp hq))), (txs_shaped gn).2, (txs_shaped gn).2, _, rfl, iteZ (by rw [(txs_eqv _ _).2, decide_eq_true rfl]; rfl) ?_⟩
    have hM := hM.of sA
    have hx := hx.of sA
    have hc := hc.of sA
    have hu13 := sA _ _ hu10
    have hb13 := sA _ _ hb10
    clear s11 s12 s13 h1 h2 hl1 na nd sub all ha perm srt lend nq keys sA hLk ik htk ek
    -- the pool
    refine ⟨_, rfl, by show 1 ≤ sizeLine; decide, fun q1 hq1 => ?_⟩
    have s14 := Same.upd_new hq1 (o := .lst [.str "absent9999"])
    have h14 := upd_same (H := H13) (a := q1) (o := .lst [.str "absent9999"])
    generalize upd H13 q1 (.lst [.str "absent9999"]) = H14 at *
    refine ⟨u, q1, _, _, rfl, rfl, s14 _ _ hu13, h14, Nat.le_of_lt (small1000 (by rw [List.length_map]; simp only [List.length_cons, List.length_nil]; omega)), fun q2 hq2 => ?_⟩
    have ep : zs.map V.str ++ [V.str "absent9999"] = (zs ++ [("absent9999" : Str)]).map V.str := by rw [List.map_append]; rfl
    rw [ep]
    have s15 := s14.trans (Same.upd_new hq2 (o := .lst ((zs ++ [("absent9999" : Str)]).map V.str)))
    have h15 := upd_same (H := H14) (a := q2) (o := .lst ((zs ++ [("absent9999" : Str)]).map V.str))
    generalize upd H14 q2 (.lst ((zs ++ [("absent9999" : Str)]).map V.str)) = H15 at *
    have hM := hM.of s15
    have hx := hx.of s15
    have hc := hc.of s15
    have hu15 := s15 _ _ hu13
    have hb15 := s15 _ _ hb13
    have nq2b : q2 ≠ b := fun e => by rw [e, s14 _ _ hb13] at hq2; cases hq2
    have pl : ((zs ++ [("absent9999" : Str)]).map V.str).length = zs.length + 1 := by rw [List.length_map, List.length_append]; rfl
    clear s14 h14 hq1 ep
    refine ⟨_, rfl, _, rfl, _, rfl, q2, _, rfl, .inl (SqL.of h15), b, L4, _, rfl, hb15, ok4, by omega, by omega, fun L16 j ok16 j0 j1 => ?_⟩
    have t16 := draw_same (H := H15) (b := b) (L := L16)
    obtain ⟨v16, e16, m16⟩ := atI_mem j0 j1
    obtain ⟨look, _, rfl⟩ := List.mem_map.mp m16
    have hM := hM.ofB t16 npb ⟨_, hb15⟩
    have h16 := t16 _ _ nq2b h15
    have keepN : ∀ {y : Addr} {ks : List (List Str)}, NotesAt K CN H15 y ks → NotesAt K CN (upd H15 b (.lst (L16.map V.int))) y ks := fun {y ks} h => by
      obtain ⟨dz, tz, Lz, h1, h2, h3, h4⟩ := h.ex
      refine ⟨dz, tz, Lz, t16 _ _ (fun e => by rw [e, hb15] at h1; cases h1) h1, t16 _ _ (fun e => by rw [e, hb15] at h2; cases h2) h2, h3, fun q hq => ?_⟩
      rcases h4 q hq with (h | ⟨o, h⟩) | h
      · exact .inl (.inl (t16 _ _ (fun e => by rw [e, hb15] at h; cases h) h))
      · exact .inl (.inr ⟨o, t16 _ _ (fun e => by rw [e, hb15] at h; cases h) h⟩)
      · exact .inr h
    have hx := keepN hx
    have hc := keepN hc
    have hu16 := t16 _ _ nub hu15
    refine ⟨q2, _, j, .str look, rfl, rfl, SqL.of h16, e16, ?_⟩
    generalize upd H15 b (.lst (L16.map V.int)) = H16 at *
    obtain ⟨dx, tpx, Lx, ix, _, _, _⟩ := hx.ex
    refine ⟨_, rfl, x, dx, _, rfl, ix, look_none "about" _ (by decide +kernel), _, rfl, x, look, _, rfl, hx, gn, by omega, fun H17 ab s17 _ hab => ?_⟩
    have hM := hM.of s17
    have hx := hx.of s17
    have hc := hc.of s17
    have hu17 := s17 _ _ hu16
    have hq17 := s17 _ _ h16
    obtain ⟨dk, tk, Lk, ik, htk, ek, hLk⟩ := hab.ex
    refine ⟨_, rfl, ab, CN, dk, _, _, rfl, ik, TN.cl, TN.nP, pfN _, tk, _, rfl, .inr (SqT.of htk), fun l1 hl1 => ?_⟩
    have s1 := Same.upd_new hl1 (o := .lst (Lk.map fun q => V.ref q.1))
    have h1 := upd_same (H := H17) (a := l1) (o := .lst (Lk.map fun q => V.ref q.1))
    generalize upd H17 l1 (.lst (Lk.map fun q => V.ref q.1)) = H18 at *
    have hM1 := hM.of s1
    refine ⟨_, rfl, p, rfl, ⟨_, SqL.of hM1.lst⟩, fun G hG => lc_it (walk_list (K := K) (a := p) (xs := M.map fun q => V.ref q.1)) (fun i H' => H' = upd H18 G (.lst (((M.take i).filter fun q => decide (look ∈ q.2)).map fun q => V.ref q.1))) rfl (fun i H' _ e => by rw [e]; exact SqL.of (Same.upd_new hG _ _ hM1.lst)) ?_ ?_⟩
    · rintro i v HA HB hi rfl ⟨rfl, hv⟩
      obtain ⟨z, hz, hzm, rfl⟩ := kf_at hv
      have hi' : i < M.length := (List.getElem?_eq_some_iff.mp hz).1
      have sg : Same H18 (upd H18 G (.lst (((M.take i).filter fun q => decide (look ∈ q.2)).map fun q => V.ref q.1))) := Same.upd_new hG
      refine ⟨rfl, _, rfl, _, rfl, z.1, _, rfl, .inr ((hM1.of sg).txt z hzm), rfl, flat_strs z.2, _, rfl, ?_⟩
      rw [inV_str]
      by_cases m : look ∈ z.2
      · refine iteY (decide_eq_true m) ?_
        refine ⟨_, rfl, _, upd_same, ?_, ?_⟩
        · rw [List.length_map]
          have := List.length_filter_le (fun q : Addr × List Str => decide (look ∈ q.2)) (M.take i)
          rw [List.length_take] at this
          exact small1000 (by omega)
        · rw [upd_upd, take_next hz, List.filter_append, List.filter_cons_of_pos (by simpa using m), List.filter_nil, List.map_append]
          rfl
      · refine iteZ (decide_eq_false m) ?_
        rw [take_next hz, List.filter_append, List.filter_cons_of_neg (by simpa using m), List.filter_nil, List.append_nil]
    rintro HA rfl
    rw [List.length_map, List.take_length]
    have s2 := Same.upd_new hG (o := .lst ((M.filter fun q => decide (look ∈ q.2)).map fun q => V.ref q.1))
    have h2 := upd_same (H := H18) (a := G) (o := .lst ((M.filter fun q => decide (look ∈ q.2)).map fun q => V.ref q.1))
    generalize upd H18 G (.lst ((M.filter fun q => decide (look ∈ q.2)).map fun q => V.ref q.1)) = H19 at *
    have fl := List.length_filter_le (fun q : Addr × List Str => decide (look ∈ q.2)) M
    have fsub : ∀ q ∈ M.filter (fun q => decide (look ∈ q.2)), q ∈ M := fun q hq => (List.mem_filter.mp hq).1
    have fgood : GoodK ((M.filter fun q => decide (look ∈ q.2)).map (·.2)) := fun k hk => by
      obtain ⟨q, hq, rfl⟩ := List.mem_map.mp hk
      exact g _ (List.mem_map_of_mem (fsub q hq))
    have fkeys : normK ((normK (M.map (·.2))).filter fun k => decide (look ∈ k)) = normK ((M.filter fun q => decide (look ∈ q.2)).map (·.2)) := norm_same fun k => by
      rw [List.mem_filter, mem_norm]
      constructor
      · rintro ⟨a1, a2⟩
        obtain ⟨q, hq, rfl⟩ := List.mem_map.mp a1
        exact List.mem_map_of_mem (List.mem_filter.mpr ⟨hq, a2⟩)
      · intro a1
        obtain ⟨q, hq, rfl⟩ := List.mem_map.mp a1
        obtain ⟨b1, b2⟩ := List.mem_filter.mp hq
        exact ⟨List.mem_map_of_mem b1, b2⟩
    rw [fkeys] at ek
    generalize M.filter (fun q => decide (look ∈ q.2)) = S at *
    refine ⟨_, S, rfl, .inl (SqL.of h2), fun q hq => ((hM1.of s2).txt q (fsub q hq)), by omega, fun a A na sub all nd => ?_⟩
    dsimp only [cxOf]
    have s3 := Same.upd_new na (o := SetTx P w a A)
    have ha := upd_same (H := H19) (a := a) (o := SetTx P w a A)
    generalize upd H19 a (SetTx P w a A) = H20 at *
    refine ⟨a, A, rfl, ha, fun q hq => ((hM1.of (s2.trans s3)).txt q (fsub q (sub q hq))), nonempty fgood sub, fun D p2 perm srt lend nq => ?_⟩
    have s4 := Same.upd_new nq (o := .lst (D.map fun q => V.ref q.1))
    have h4 := upd_same (H := H20) (a := p2) (o := .lst (D.map fun q => V.ref q.1))
    generalize upd H20 p2 (.lst (D.map fun q => V.ref q.1)) = H21 at *
    have keys := sorted_is nd sub all srt
    have sA := s1.trans (s2.trans (s3.trans s4))
    have gf := good_norm fgood
    refine ⟨.list ((normK (S.map (·.2))).map txData), .list ((normK (S.map (·.2))).map txData), .lst (SqL.of ((s2.trans (s3.trans s4)) _ _ h1)) (by rw [← ek]; exact txs_dp fun q hq => Same.tup sA (hLk q hq)), .lst (SqL.of h4) (by rw [← keys]; exact txs_dp fun q hq => (hM.of sA).txt q (fsub q (sub q (perm.mem_iff.mp hq)))), (txs_shaped gf).2, (txs_shaped gf).2, _, rfl, iteZ (by rw [(txs_eqv _ _).2, decide_eq_true rfl]; rfl) ?_⟩
    have hM := hM.of sA
    have hx := hx.of sA
    have hc := hc.of sA
    have hu22 := sA _ _ hu17
    have hq22 := sA _ _ hq17
    clear s1 s2 s3 s4 h1 h2 h4 ha hl1 hG na nq fl fsub fgood fkeys gf keys sA sub all nd perm srt lend hLk ik htk ek hM1 hab
    refine ⟨_, rfl, _, rfl, q2, u, _, _, rfl, rfl, hq22, hu22, Nat.le_of_lt (small1000 (by rw [pl, lzs]; omega)), fun q3 hq3 => ?_⟩
    have ep : (zs ++ [("absent9999" : Str)]).map V.str ++ zs.map V.str = ((zs ++ [("absent9999" : Str)]) ++ zs).map V.str := by rw [List.map_append (l₂ := zs)]
    rw [ep]
    have s23 := Same.upd_new hq3 (o := .lst (((zs ++ [("absent9999" : Str)]) ++ zs).map V.str))
    have h23 := upd_same (H := H21) (a := q3) (o := HO.lst (((zs ++ [("absent9999" : Str)]) ++ zs).map V.str))
    generalize upd H21 q3 (.lst (((zs ++ [("absent9999" : Str)]) ++ zs).map V.str)) = H22 at *
    have hM := hM.of s23
    have hx := hx.of s23
    have hc := hc.of s23
    refine ⟨q3, rfl, ⟨_, SqL.of h23⟩, for_it (walk_list (K := K) (a := q3) (xs := ((zs ++ [("absent9999" : Str)]) ++ zs).map V.str)) (fun i σ H' => ∃ (x11 : Option V), σ = [some (.ref a0), some (.ref b), some (.ref u), some (.ref p), some (.ref x), some (.ref d), some (.str look), x7, some (.ref c), some (.ref q2), some (.ref ab), x11, none] ∧ Same H22 H')
      ⟨none, rfl, Same.refl _⟩ (fun i σ H' _ ⟨_, _, s⟩ => SqL.of (s _ _ h23)) ?_ ?_⟩
    · rintro i v σ H24 H25 hi ⟨x11, rfl, s25⟩ ⟨rfl, hv⟩
      obtain ⟨nm, _, rfl⟩ : ∃ nm, nm ∈ (zs ++ [("absent9999" : Str)]) ++ zs ∧ v = .str nm := by
        obtain ⟨nm, h, e⟩ := List.mem_map.mp (List.mem_of_getElem? hv)
        exact ⟨nm, h, e.symm⟩
      have hM := hM.of s25
      have hx := hx.of s25
      obtain ⟨dx, tpx, Lx, ix, _, _, _⟩ := hx.ex
      refine ⟨_, rfl, x, dx, _, rfl, ix, look_none "about" _ (by decide +kernel), _, rfl, x, nm, _, rfl, hx, gn, by omega, fun H26 ab2 s26 _ hab => ?_⟩
      have hM := hM.of s26
      obtain ⟨dk, tk, Lk, ik, htk, ek, hLk⟩ := hab.ex
      refine ⟨ab2, CN, dk, _, _, rfl, ik, TN.cl, TN.nP, pfN _, tk, _, rfl, .inr (SqT.of htk), fun l1 hl1 => ?_⟩
      have s1 := Same.upd_new hl1 (o := .lst (Lk.map fun q => V.ref q.1))
      have h1 := upd_same (H := H26) (a := l1) (o := .lst (Lk.map fun q => V.ref q.1))
      generalize upd H26 l1 (.lst (Lk.map fun q => V.ref q.1)) = H30 at *
      have hM1 := hM.of s1
      refine ⟨_, rfl, p, rfl, ⟨_, SqL.of hM1.lst⟩, fun G hG => lc_it (walk_list (K := K) (a := p) (xs := M.map fun q => V.ref q.1)) (fun i H' => H' = upd H30 G (.lst (((M.take i).filter fun q => decide (nm ∈ q.2)).map fun q => V.ref q.1))) rfl (fun i H' _ e => by rw [e]; exact SqL.of (Same.upd_new hG _ _ hM1.lst)) ?_ ?_⟩
      · rintro i v HA HB hi rfl ⟨rfl, hv⟩
        obtain ⟨z, hz, hzm, rfl⟩ := kf_at hv
        have hi' : i < M.length := (List.getElem?_eq_some_iff.mp hz).1
        have sg : Same H30 (upd H30 G (.lst (((M.take i).filter fun q => decide (nm ∈ q.2)).map fun q => V.ref q.1))) := Same.upd_new hG
        refine ⟨rfl, _, rfl, _, rfl, z.1, _, rfl, .inr ((hM1.of sg).txt z hzm), rfl, flat_strs z.2, _, rfl, ?_⟩
        rw [inV_str]
        by_cases m : nm ∈ z.2
        · refine iteY (decide_eq_true m) ?_
          refine ⟨_, rfl, _, upd_same, ?_, ?_⟩
          · rw [List.length_map]
            have := List.length_filter_le (fun q : Addr × List Str => decide (nm ∈ q.2)) (M.take i)
            rw [List.length_take] at this
            exact small1000 (by omega)
          · rw [upd_upd, take_next hz, List.filter_append, List.filter_cons_of_pos (by simpa using m), List.filter_nil, List.map_append]
            rfl
        · refine iteZ (decide_eq_false m) ?_
          rw [take_next hz, List.filter_append, List.filter_cons_of_neg (by simpa using m), List.filter_nil, List.append_nil]
      rintro HA rfl
      rw [List.length_map, List.take_length]
      have s2 := Same.upd_new hG (o := .lst ((M.filter fun q => decide (nm ∈ q.2)).map fun q => V.ref q.1))
      have h2 := upd_same (H := H30) (a := G) (o := .lst ((M.filter fun q => decide (nm ∈ q.2)).map fun q => V.ref q.1))
      generalize upd H30 G (.lst ((M.filter fun q => decide (nm ∈ q.2)).map fun q => V.ref q.1)) = H31 at *
      have fl := List.length_filter_le (fun q : Addr × List Str => decide (nm ∈ q.2)) M
      have fsub : ∀ q ∈ M.filter (fun q => decide (nm ∈ q.2)), q ∈ M := fun q hq => (List.mem_filter.mp hq).1
      have fgood : GoodK ((M.filter fun q => decide (nm ∈ q.2)).map (·.2)) := fun k hk => by
        obtain ⟨q, hq, rfl⟩ := List.mem_map.mp hk
        exact g _ (List.mem_map_of_mem (fsub q hq))
      have fkeys : normK ((normK (M.map (·.2))).filter fun k => decide (nm ∈ k)) = normK ((M.filter fun q => decide (nm ∈ q.2)).map (·.2)) := norm_same fun k => by
        rw [List.mem_filter, mem_norm]
        constructor
        · rintro ⟨a1, a2⟩
          obtain ⟨q, hq, rfl⟩ := List.mem_map.mp a1
          exact List.mem_map_of_mem (List.mem_filter.mpr ⟨hq, a2⟩)
        · intro a1
          obtain ⟨q, hq, rfl⟩ := List.mem_map.mp a1
          obtain ⟨b1, b2⟩ := List.mem_filter.mp hq
          exact ⟨List.mem_map_of_mem b1, b2⟩
      rw [fkeys] at ek
      generalize M.filter (fun q => decide (nm ∈ q.2)) = S at *
      refine ⟨_, S, rfl, .inl (SqL.of h2), fun q hq => ((hM1.of s2).txt q (fsub q hq)), by omega, fun a A na sub all nd => ?_⟩
      dsimp only [cxOf]
      have s3 := Same.upd_new na (o := SetTx P w a A)
      have ha := upd_same (H := H31) (a := a) (o := SetTx P w a A)
      generalize upd H31 a (SetTx P w a A) = H32 at *
      refine ⟨a, A, rfl, ha, fun q hq => ((hM1.of (s2.trans s3)).txt q (fsub q (sub q hq))), nonempty fgood sub, fun D p2 perm srt lend nq => ?_⟩
      have s4 := Same.upd_new nq (o := .lst (D.map fun q => V.ref q.1))
      have h4 := upd_same (H := H32) (a := p2) (o := .lst (D.map fun q => V.ref q.1))
      generalize upd H32 p2 (.lst (D.map fun q => V.ref q.1)) = H33 at *
      have keys := sorted_is nd sub all srt
      have sA := s1.trans (s2.trans (s3.trans s4))
      have gf := good_norm fgood
      refine ⟨.list ((normK (S.map (·.2))).map txData), .list ((normK (S.map (·.2))).map txData), .lst (SqL.of ((s2.trans (s3.trans s4)) _ _ h1)) (by rw [← ek]; exact txs_dp fun q hq => Same.tup sA (hLk q hq)), .lst (SqL.of h4) (by rw [← keys]; exact txs_dp fun q hq => (hM.of sA).txt q (fsub q (sub q (perm.mem_iff.mp hq)))), (txs_shaped gf).2, (txs_shaped gf).2, _, rfl, iteZ (by rw [(txs_eqv _ _).2, decide_eq_true rfl]; rfl) ?_⟩
      exact ⟨_, rfl, s25.trans (s26.trans sA)⟩
    rintro σ H24 ⟨x11, rfl, s24⟩
    have hM := hM.of s24
    have hx := hx.of s24
    have hc := hc.of s24
    obtain ⟨dk, tk, Lk, ik, htk, ek, hLk⟩ := hx.ex
    refine ⟨_, rfl, x, CN, dk, _, _, rfl, ik, TN.cl, TN.nP, pfN _, tk, _, rfl, .inr (SqT.of htk), fun l1 hl1 => ?_⟩
    have s11 := Same.upd_new hl1 (o := .lst (Lk.map fun q => V.ref q.1))
    have h1 := upd_same (H := H24) (a := l1) (o := .lst (Lk.map fun q => V.ref q.1))
    generalize upd H24 l1 (.lst (Lk.map fun q => V.ref q.1)) = H41 at *
    refine ⟨_, rfl, p, M, rfl, .inl (SqL.of (s11 _ _ hM.lst)), (hM.of s11).txt, by omega, fun a A na sub all nd => ?_⟩
    dsimp only [cxOf]
    have s12 := Same.upd_new na (o := SetTx P w a A)
    have ha := upd_same (H := H41) (a := a) (o := SetTx P w a A)
    generalize upd H41 a (SetTx P w a A) = H42 at *
    refine ⟨a, A, rfl, ha, fun q hq => (hM.of (s11.trans s12)).txt q (sub q hq), nonempty g sub, fun D p2 perm srt lend nq => ?_⟩
    have s13 := Same.upd_new nq (o := .lst (D.map fun q => V.ref q.1))
    have h2 := upd_same (H := H42) (a := p2) (o := .lst (D.map fun q => V.ref q.1))
    generalize upd H42 p2 (.lst (D.map fun q => V.ref q.1)) = H43 at *
    have keys := sorted_is nd sub all srt
    have sA := s11.trans (s12.trans s13)
    refine ⟨.list ((normK (M.map (·.2))).map txData), .list ((normK (M.map (·.2))).map txData), .lst (SqL.of ((s12.trans s13) _ _ h1)) (by rw [← ek]; exact txs_dp fun q hq => Same.tup sA (hLk q hq)), .lst (SqL.of h2) (by rw [← keys]; exact txs_dp fun q hq => (hM.of sA).txt q (sub q (perm.mem_iff.mp hq))), (txs_shaped gn).2, (txs_shaped gn).2, _, rfl, iteZ (by rw [(txs_eqv _ _).2, decide_eq_true rfl]; rfl) ?_⟩
    have hM := hM.of sA
    have hx := hx.of sA
    have hc := hc.of sA
    clear s11 s12 s13 h1 h2 hl1 na nd sub all ha perm srt lend nq keys sA hLk ik htk ek
    clear hM
    have rows1 := rows
    have nfx : PySem.W.notFirst K CN (.ref CN) = true := by unfold PySem.W.notFirst; simp
    have own_ty : ∀ {H' : Hp} {q : Addr} {ks : List (List Str)}, NotesAt K CN H' q ks → TyOf K H' (.ref q) (.ref CN) := fun h => by
      obtain ⟨d, f, e⟩ := h.ins
      exact TyOf.ins e ic.cl ic.ha ic.hn ic.htk ic.hm
    obtain ⟨dk, tk, Lk, ik, htk, ek, hLk⟩ := hx.ex
    refine ⟨_, rfl, x, dk, _, rfl, ik, look_none "closed" _ (by decide +kernel), x, _, rfl, hx, gn, by omega, by omega, fun H50 c2 ls2 s50 _ hc2 hls2 => ?_⟩
    have e2 : normK ls2 = normK ls := norm_same fun k => ((hls2 k).trans (closed_rows g inL k)).trans (rows k).symm
    rw [e2] at hc2
    have hc := hc.of s50
    obtain ⟨dc2, fc2, ic2⟩ := hc2.ins
    refine ⟨_, rfl, c2, dc2, _, _, rfl, ic2, own_ty hc, nfx, .inr ⟨c2, c, _, _, rfl, hc2, hc, gc, gc, _, rfl, _, _, rfl, decide_eq_true rfl, true, rfl, iteT ?_⟩⟩
    -- closed.closed() == closed
    obtain ⟨dc, tc, Lc, icc, htc, ec, hLc⟩ := hc.ex
    have lc : (normK ls).length ≤ 30 := by
      rw [← same, ← nlen0]; exact nlen
    have inLs : ∀ k ∈ ls, k0 k ∈ zs ∧ k1 k ∈ zs := fun k hk => by
      obtain ⟨a, ha, h⟩ := List.mem_flatMap.mp ((rows k).mp hk)
      obtain ⟨z, hz, ne, rfl⟩ := mem_dueOne.mp h
      exact ⟨ha, from_sub inZ ha _ z hz⟩
    have seen7 : (seenK [] (normK ls)).length ≤ 7 := by
      have := List.Nodup.length_le_of_subset (l₂ := zs) (seenK_nodup (ks := normK ls) (acc := []) (by simp)) (fun y hy => by
        rcases mem_seenK.mp hy with h | ⟨k, hk, h⟩
        · exact absurd h (by simp)
        · have hk := mem_norm.mp hk
          rw [(gls k hk).eq.1] at h
          rcases List.mem_cons.mp h with rfl | h
          · exact (inLs k hk).1
          · rw [List.mem_singleton.mp h]; exact (inLs k hk).2)
      omega
    refine ⟨_, rfl, c, dc, _, rfl, icc, look_none "closed" _ (by decide +kernel), c, _, rfl, hc, gc, by omega, seen7, fun H51 c3 ls3 s51 _ hc3 hls3 => ?_⟩
    have e3 : normK ls3 = normK ls := norm_same fun k => ((hls3 k).trans (closed_rows gls inLs k)).trans (closed_again g inL gls rows inLs k)
    rw [e3] at hc3
    have hc := hc.of s51
    obtain ⟨dc3, fc3, ic3⟩ := hc3.ins
    refine ⟨_, rfl, c3, dc3, _, _, rfl, ic3, own_ty hc, nfx, .inr ⟨c3, c, _, _, rfl, hc3, hc, gc, gc, _, rfl, _, _, rfl, decide_eq_true rfl, ?_⟩⟩
    exact k _
end
end Dl

namespace Dl
open PySem PySem.Spec PyProof.Rows L2
theorem all_mk {l : PySem.W.OpenLaw} {w : World} {K : PySem.W.Frag} {h : Heap} {mg : Str → Option Value} {fa f_is_name f_check_name f_reached f_law_bag f_law_take f_law_is f_law_name f_law_names f_law_pairs f_law_notes f_law_from f_law C_InvalidName f_InvalidName C_InvalidNote f_InvalidNote C_Notes f_Notes_init f_Notes_add f_Notes_eq f_Notes_about f_Notes_closed : Addr} (X : K.In h) (G : h.Ns mainGlobals mg) (hfa : mg "law" = some (.ref fa))
    {od_is_name an_is_name od_check_name an_check_name od_reached an_reached od_law_bag an_law_bag od_law_take an_law_take od_law_is an_law_is od_law_name an_law_name od_law_names an_law_names od_law_pairs an_law_pairs od_law_notes an_law_notes od_law_from an_law_from od_law an_law od_InvalidName an_InvalidName od_InvalidNote an_InvalidNote od_Notes_init an_Notes_init od_Notes_add an_Notes_add od_Notes_eq an_Notes_eq od_Notes_about an_Notes_about od_Notes_closed an_Notes_closed : Option Addr} {sl_is_name sl_check_name sl_reached sl_law_bag sl_law_take sl_law_is sl_law_name sl_law_names sl_law_pairs sl_law_notes sl_law_from sl_law sl_InvalidName sl_InvalidNote sl_Notes_init sl_Notes_add sl_Notes_eq sl_Notes_about sl_Notes_closed : Array (Option Value)} {oc_is_name kV_is_name dc_is_name pm_is_name cd_is_name ct_is_name oc_check_name kV_check_name dc_check_name pm_check_name cd_check_name ct_check_name oc_reached kV_reached dc_reached pm_reached cd_reached ct_reached oc_law_bag kV_law_bag dc_law_bag pm_law_bag cd_law_bag ct_law_bag oc_law_take kV_law_take dc_law_take pm_law_take cd_law_take ct_law_take oc_law_is kV_law_is dc_law_is pm_law_is cd_law_is ct_law_is oc_law_name kV_law_name dc_law_name pm_law_name cd_law_name ct_law_name oc_law_names kV_law_names dc_law_names pm_law_names cd_law_names ct_law_names oc_law_pairs kV_law_pairs dc_law_pairs pm_law_pairs cd_law_pairs ct_law_pairs oc_law_notes kV_law_notes dc_law_notes pm_law_notes cd_law_notes ct_law_notes oc_law_from kV_law_from dc_law_from pm_law_from cd_law_from ct_law_from oc_law kV_law dc_law pm_law cd_law ct_law oc_InvalidName kV_InvalidName dc_InvalidName pm_InvalidName cd_InvalidName ct_InvalidName oc_InvalidNote kV_InvalidNote dc_InvalidNote pm_InvalidNote cd_InvalidNote ct_InvalidNote oc_Notes_init kV_Notes_init dc_Notes_init pm_Notes_init cd_Notes_init ct_Notes_init oc_Notes_add kV_Notes_add dc_Notes_add pm_Notes_add cd_Notes_add ct_Notes_add oc_Notes_eq kV_Notes_eq dc_Notes_eq pm_Notes_eq cd_Notes_eq ct_Notes_eq oc_Notes_about kV_Notes_about dc_Notes_about pm_Notes_about cd_Notes_about ct_Notes_about oc_Notes_closed kV_Notes_closed dc_Notes_closed pm_Notes_closed cd_Notes_closed ct_Notes_closed : Value} {t_LONGEST t_SIGNS : Tok}
    {nm_InvalidName q_InvalidName : Str} {N_InvalidName : Addr} {bs_InvalidName bm_InvalidName : List Value} {sn_InvalidName : List Str} {sub_InvalidName : List Value} {ab_InvalidName : Bool} {col_InvalidName : Option Bool} {dd_InvalidName : Option Addr} {m0_InvalidName m1_InvalidName m2_InvalidName m3_InvalidName m5_InvalidName : Option Value}
    {nm_InvalidNote q_InvalidNote : Str} {N_InvalidNote : Addr} {bs_InvalidNote bm_InvalidNote : List Value} {sn_InvalidNote : List Str} {sub_InvalidNote : List Value} {ab_InvalidNote : Bool} {col_InvalidNote : Option Bool} {dd_InvalidNote : Option Addr} {m0_InvalidNote m1_InvalidNote m2_InvalidNote m3_InvalidNote m5_InvalidNote : Option Value}
    (a_is_name : PySem.W.nsIn K mainGlobals "is_name" = some (some (.ref f_is_name)))
    (l_is_name : K.lookup f_is_name = some ⟨oc_is_name, od_is_name, .func (PySem.W.fnOf "is_name" "is_name" (defArgs sIsName) (defBody sIsName) (defScope sIsName) .none kV_is_name dc_is_name pm_is_name an_is_name cd_is_name ct_is_name), sl_is_name⟩)
    (c_is_name : PySem.W.codeIn K cd_is_name "is_name" = true)
    (k_is_name : PySem.W.keepIn K (.ref f_is_name) = true)
    (a_check_name : PySem.W.nsIn K mainGlobals "check_name" = some (some (.ref f_check_name)))
    (l_check_name : K.lookup f_check_name = some ⟨oc_check_name, od_check_name, .func (PySem.W.fnOf "check_name" "check_name" (defArgs sCheckName) (defBody sCheckName) (defScope sCheckName) .none kV_check_name dc_check_name pm_check_name an_check_name cd_check_name ct_check_name), sl_check_name⟩)
    (c_check_name : PySem.W.codeIn K cd_check_name "check_name" = true)
    (k_check_name : PySem.W.keepIn K (.ref f_check_name) = true)
    (a_reached : PySem.W.nsIn K mainGlobals "reached" = some (some (.ref f_reached)))
    (l_reached : K.lookup f_reached = some ⟨oc_reached, od_reached, .func (PySem.W.fnOf "reached" "reached" (defArgs sReached) (defBody sReached) (defScope sReached) .none kV_reached dc_reached pm_reached an_reached cd_reached ct_reached), sl_reached⟩)
    (c_reached : PySem.W.codeIn K cd_reached "reached" = true)
    (k_reached : PySem.W.keepIn K (.ref f_reached) = true)
    (a_law_bag : PySem.W.nsIn K mainGlobals "_law_bag" = some (some (.ref f_law_bag)))
    (l_law_bag : K.lookup f_law_bag = some ⟨oc_law_bag, od_law_bag, .func (PySem.W.fnOf "_law_bag" "_law_bag" (defArgs sBag) (defBody sBag) (defScope sBag) .none kV_law_bag dc_law_bag pm_law_bag an_law_bag cd_law_bag ct_law_bag), sl_law_bag⟩)
    (c_law_bag : PySem.W.codeIn K cd_law_bag "_law_bag" = true)
    (k_law_bag : PySem.W.keepIn K (.ref f_law_bag) = true)
    (a_law_take : PySem.W.nsIn K mainGlobals "_law_take" = some (some (.ref f_law_take)))
    (l_law_take : K.lookup f_law_take = some ⟨oc_law_take, od_law_take, .func (PySem.W.fnOf "_law_take" "_law_take" (defArgs sTake) (defBody sTake) (defScope sTake) .none kV_law_take dc_law_take pm_law_take an_law_take cd_law_take ct_law_take), sl_law_take⟩)
    (c_law_take : PySem.W.codeIn K cd_law_take "_law_take" = true)
    (k_law_take : PySem.W.keepIn K (.ref f_law_take) = true)
    (a_law_is : PySem.W.nsIn K mainGlobals "_law_is" = some (some (.ref f_law_is)))
    (l_law_is : K.lookup f_law_is = some ⟨oc_law_is, od_law_is, .func (PySem.W.fnOf "_law_is" "_law_is" (defArgs sLawIs) (defBody sLawIs) (defScope sLawIs) .none kV_law_is dc_law_is pm_law_is an_law_is cd_law_is ct_law_is), sl_law_is⟩)
    (c_law_is : PySem.W.codeIn K cd_law_is "_law_is" = true)
    (k_law_is : PySem.W.keepIn K (.ref f_law_is) = true)
    (a_law_name : PySem.W.nsIn K mainGlobals "_law_name" = some (some (.ref f_law_name)))
    (l_law_name : K.lookup f_law_name = some ⟨oc_law_name, od_law_name, .func (PySem.W.fnOf "_law_name" "_law_name" (defArgs sLawName) (defBody sLawName) (defScope sLawName) .none kV_law_name dc_law_name pm_law_name an_law_name cd_law_name ct_law_name), sl_law_name⟩)
    (c_law_name : PySem.W.codeIn K cd_law_name "_law_name" = true)
    (k_law_name : PySem.W.keepIn K (.ref f_law_name) = true)
    (a_law_names : PySem.W.nsIn K mainGlobals "_law_names" = some (some (.ref f_law_names)))
    (l_law_names : K.lookup f_law_names = some ⟨oc_law_names, od_law_names, .func (PySem.W.fnOf "_law_names" "_law_names" (defArgs sLawNames) (defBody sLawNames) (defScope sLawNames) .none kV_law_names dc_law_names pm_law_names an_law_names cd_law_names ct_law_names), sl_law_names⟩)
    (c_law_names : PySem.W.codeIn K cd_law_names "_law_names" = true)
    (k_law_names : PySem.W.keepIn K (.ref f_law_names) = true)
    (a_law_pairs : PySem.W.nsIn K mainGlobals "_law_pairs" = some (some (.ref f_law_pairs)))
    (l_law_pairs : K.lookup f_law_pairs = some ⟨oc_law_pairs, od_law_pairs, .func (PySem.W.fnOf "_law_pairs" "_law_pairs" (defArgs sLawPairs) (defBody sLawPairs) (defScope sLawPairs) .none kV_law_pairs dc_law_pairs pm_law_pairs an_law_pairs cd_law_pairs ct_law_pairs), sl_law_pairs⟩)
    (c_law_pairs : PySem.W.codeIn K cd_law_pairs "_law_pairs" = true)
    (k_law_pairs : PySem.W.keepIn K (.ref f_law_pairs) = true)
    (a_law_notes : PySem.W.nsIn K mainGlobals "_law_notes" = some (some (.ref f_law_notes)))
    (l_law_notes : K.lookup f_law_notes = some ⟨oc_law_notes, od_law_notes, .func (PySem.W.fnOf "_law_notes" "_law_notes" (defArgs sLawNotes) (defBody sLawNotes) (defScope sLawNotes) .none kV_law_notes dc_law_notes pm_law_notes an_law_notes cd_law_notes ct_law_notes), sl_law_notes⟩)
    (c_law_notes : PySem.W.codeIn K cd_law_notes "_law_notes" = true)
    (k_law_notes : PySem.W.keepIn K (.ref f_law_notes) = true)
    (a_law_from : PySem.W.nsIn K mainGlobals "_law_from" = some (some (.ref f_law_from)))
    (l_law_from : K.lookup f_law_from = some ⟨oc_law_from, od_law_from, .func (PySem.W.fnOf "_law_from" "_law_from" (defArgs sLawFrom) (defBody sLawFrom) (defScope sLawFrom) .none kV_law_from dc_law_from pm_law_from an_law_from cd_law_from ct_law_from), sl_law_from⟩)
    (c_law_from : PySem.W.codeIn K cd_law_from "_law_from" = true)
    (k_law_from : PySem.W.keepIn K (.ref f_law_from) = true)
    (a_law : PySem.W.nsIn K mainGlobals "law" = some (some (.ref f_law)))
    (l_law : K.lookup f_law = some ⟨oc_law, od_law, .func (PySem.W.fnOf "law" "law" (defArgs sLaw) (defBody sLaw) (defScope sLaw) .none kV_law dc_law pm_law an_law cd_law ct_law), sl_law⟩)
    (c_law : PySem.W.codeIn K cd_law "law" = true)
    (k_law : PySem.W.keepIn K (.ref f_law) = true)
    (a_InvalidName : PySem.W.nsIn K mainGlobals "InvalidName" = some (some (.ref C_InvalidName)))
    (x_InvalidName : K.lookup C_InvalidName = some (excClassObj nm_InvalidName q_InvalidName C_InvalidName N_InvalidName bs_InvalidName bm_InvalidName true sn_InvalidName sub_InvalidName ab_InvalidName col_InvalidName dd_InvalidName m0_InvalidName m1_InvalidName m2_InvalidName m3_InvalidName m5_InvalidName "ValueError.__new__"))
    (hb_InvalidName : PySem.HandSPX.refsVE bm_InvalidName = true)
    (sa_InvalidName : PySem.W.findIn K (.ref C_InvalidName) "__setattr__" = some (some (.builtin "object.__setattr__")))
    (e_InvalidName : PySem.W.subIn K (.ref C_InvalidName) (.type "BaseException") = some true)
    (tc_InvalidName : PySem.W.typeIn K (.ref C_InvalidName) = some (.type "type"))
    (kc_InvalidName : PySem.W.keepIn K (.ref C_InvalidName) = true)
    (no_InvalidName : PySem.W.findIn K (.ref C_InvalidName) "name" = some none)
    (i_InvalidName : PySem.W.findIn K (.ref C_InvalidName) "__init__" = some (some (.ref f_InvalidName)))
    (ti_InvalidName : PySem.W.typeIn K (.ref f_InvalidName) = some (.type "function"))
    (l_InvalidName : K.lookup f_InvalidName = some ⟨oc_InvalidName, od_InvalidName, .func (PySem.W.fnOf "__init__" "InvalidName.__init__" (defArgs sInv) (defBody sInv) (defScope sInv) .none kV_InvalidName dc_InvalidName pm_InvalidName an_InvalidName cd_InvalidName ct_InvalidName), sl_InvalidName⟩)
    (c_InvalidName : PySem.W.codeIn K cd_InvalidName "InvalidName.__init__" = true)
    (k_InvalidName : PySem.W.keepIn K (.ref f_InvalidName) = true)
    (a_InvalidNote : PySem.W.nsIn K mainGlobals "InvalidNote" = some (some (.ref C_InvalidNote)))
    (x_InvalidNote : K.lookup C_InvalidNote = some (excClassObj nm_InvalidNote q_InvalidNote C_InvalidNote N_InvalidNote bs_InvalidNote bm_InvalidNote true sn_InvalidNote sub_InvalidNote ab_InvalidNote col_InvalidNote dd_InvalidNote m0_InvalidNote m1_InvalidNote m2_InvalidNote m3_InvalidNote m5_InvalidNote "ValueError.__new__"))
    (hb_InvalidNote : PySem.HandSPX.refsVE bm_InvalidNote = true)
    (sa_InvalidNote : PySem.W.findIn K (.ref C_InvalidNote) "__setattr__" = some (some (.builtin "object.__setattr__")))
    (e_InvalidNote : PySem.W.subIn K (.ref C_InvalidNote) (.type "BaseException") = some true)
    (tc_InvalidNote : PySem.W.typeIn K (.ref C_InvalidNote) = some (.type "type"))
    (kc_InvalidNote : PySem.W.keepIn K (.ref C_InvalidNote) = true)
    (no_InvalidNote : PySem.W.findIn K (.ref C_InvalidNote) "before" = some none)
    (i_InvalidNote : PySem.W.findIn K (.ref C_InvalidNote) "__init__" = some (some (.ref f_InvalidNote)))
    (ti_InvalidNote : PySem.W.typeIn K (.ref f_InvalidNote) = some (.type "function"))
    (l_InvalidNote : K.lookup f_InvalidNote = some ⟨oc_InvalidNote, od_InvalidNote, .func (PySem.W.fnOf "__init__" "InvalidNote.__init__" (defArgs sInvalidNoteInit) (defBody sInvalidNoteInit) (defScope sInvalidNoteInit) .none kV_InvalidNote dc_InvalidNote pm_InvalidNote an_InvalidNote cd_InvalidNote ct_InvalidNote), sl_InvalidNote⟩)
    (c_InvalidNote : PySem.W.codeIn K cd_InvalidNote "InvalidNote.__init__" = true)
    (k_InvalidNote : PySem.W.keepIn K (.ref f_InvalidNote) = true)
    (a_Notes : PySem.W.nsIn K mainGlobals "Notes" = some (some (.ref C_Notes)))
    (pg_Notes : PySem.W.plainGet K C_Notes Str.empty = true)
    (hd_Notes : PySem.W.hasDictIn K C_Notes = true)
    (po_Notes : PySem.W.plainOver K C_Notes = true)
    (sa_Notes : PySem.W.findIn K (.ref C_Notes) "__setattr__" = some (some (.builtin "object.__setattr__")))
    (mk_Notes : PySem.W.makesIn K C_Notes = true)
    (kc_Notes : PySem.W.keepIn K (.ref C_Notes) = true)
    (n_Notes_pairs : PySem.W.findIn K (.ref C_Notes) "pairs" = some none)
    (i_Notes_init : PySem.W.findIn K (.ref C_Notes) "__init__" = some (some (.ref f_Notes_init)))
    (fn_Notes_init : PySem.W.isFn K (.ref f_Notes_init) = true)
    (l_Notes_init : K.lookup f_Notes_init = some ⟨oc_Notes_init, od_Notes_init, .func (PySem.W.fnOf "__init__" "Notes.__init__" (defArgs sNotesInit) (defBody sNotesInit) (defScope sNotesInit) .none kV_Notes_init dc_Notes_init pm_Notes_init an_Notes_init cd_Notes_init ct_Notes_init), sl_Notes_init⟩)
    (c_Notes_init : PySem.W.codeIn K cd_Notes_init "Notes.__init__" = true)
    (k_Notes_init : PySem.W.keepIn K (.ref f_Notes_init) = true)
    (i_Notes_add : PySem.W.findIn K (.ref C_Notes) "__add__" = some (some (.ref f_Notes_add)))
    (fn_Notes_add : PySem.W.isFn K (.ref f_Notes_add) = true)
    (l_Notes_add : K.lookup f_Notes_add = some ⟨oc_Notes_add, od_Notes_add, .func (PySem.W.fnOf "__add__" "Notes.__add__" (defArgs sNotesAdd) (defBody sNotesAdd) (defScope sNotesAdd) .none kV_Notes_add dc_Notes_add pm_Notes_add an_Notes_add cd_Notes_add ct_Notes_add), sl_Notes_add⟩)
    (c_Notes_add : PySem.W.codeIn K cd_Notes_add "Notes.__add__" = true)
    (k_Notes_add : PySem.W.keepIn K (.ref f_Notes_add) = true)
    (i_Notes_eq : PySem.W.findIn K (.ref C_Notes) "__eq__" = some (some (.ref f_Notes_eq)))
    (fn_Notes_eq : PySem.W.isFn K (.ref f_Notes_eq) = true)
    (l_Notes_eq : K.lookup f_Notes_eq = some ⟨oc_Notes_eq, od_Notes_eq, .func (PySem.W.fnOf "__eq__" "Notes.__eq__" (defArgs sNotesEq) (defBody sNotesEq) (defScope sNotesEq) .none kV_Notes_eq dc_Notes_eq pm_Notes_eq an_Notes_eq cd_Notes_eq ct_Notes_eq), sl_Notes_eq⟩)
    (c_Notes_eq : PySem.W.codeIn K cd_Notes_eq "Notes.__eq__" = true)
    (k_Notes_eq : PySem.W.keepIn K (.ref f_Notes_eq) = true)
    (i_Notes_about : PySem.W.findIn K (.ref C_Notes) "about" = some (some (.ref f_Notes_about)))
    (fn_Notes_about : PySem.W.isFn K (.ref f_Notes_about) = true)
    (l_Notes_about : K.lookup f_Notes_about = some ⟨oc_Notes_about, od_Notes_about, .func (PySem.W.fnOf "about" "Notes.about" (defArgs sNotesAbout) (defBody sNotesAbout) (defScope sNotesAbout) .none kV_Notes_about dc_Notes_about pm_Notes_about an_Notes_about cd_Notes_about ct_Notes_about), sl_Notes_about⟩)
    (c_Notes_about : PySem.W.codeIn K cd_Notes_about "Notes.about" = true)
    (k_Notes_about : PySem.W.keepIn K (.ref f_Notes_about) = true)
    (i_Notes_closed : PySem.W.findIn K (.ref C_Notes) "closed" = some (some (.ref f_Notes_closed)))
    (fn_Notes_closed : PySem.W.isFn K (.ref f_Notes_closed) = true)
    (l_Notes_closed : K.lookup f_Notes_closed = some ⟨oc_Notes_closed, od_Notes_closed, .func (PySem.W.fnOf "closed" "Notes.closed" (defArgs sNotesClosed) (defBody sNotesClosed) (defScope sNotesClosed) .none kV_Notes_closed dc_Notes_closed pm_Notes_closed an_Notes_closed cd_Notes_closed ct_Notes_closed), sl_Notes_closed⟩)
    (c_Notes_closed : PySem.W.codeIn K cd_Notes_closed "Notes.closed" = true)
    (k_Notes_closed : PySem.W.keepIn K (.ref f_Notes_closed) = true)
    (q_after : PySem.W.findIn K (.ref C_InvalidNote) "after" = some none)
    (q_get : PySem.W.specialIn K (.builtin "object.__class__") "__get__" = some (some (.builtin "getset_descriptor.__get__")))
    (q_takes : PySem.W.takesIn K (.builtin "object.__class__") = some true)
    (q_cls : PySem.W.findIn K (.ref C_Notes) "__class__" = some (some (.builtin "object.__class__")))
    (q_mro : PySem.W.mroIn K C_Notes (.type "object") = some true)
    (q_me : PySem.W.kitOne K (.ref C_Notes) (.ref C_Notes) = some true)
    (q_self : PySem.W.selfFirst K C_Notes = true)
    (z_len : PySem.W.nsIn K mainGlobals "len" = some none)
    (z_int : PySem.W.nsIn K mainGlobals "int" = some none)
    (z_abs : PySem.W.nsIn K mainGlobals "abs" = some none)
    (z_isinstance : PySem.W.nsIn K mainGlobals "isinstance" = some none)
    (z_str : PySem.W.nsIn K mainGlobals "str" = some none)
    (z_all : PySem.W.nsIn K mainGlobals "all" = some none)
    (z_list : PySem.W.nsIn K mainGlobals "list" = some none)
    (z_range : PySem.W.nsIn K mainGlobals "range" = some none)
    (z_tuple : PySem.W.nsIn K mainGlobals "tuple" = some none)
    (z_sorted : PySem.W.nsIn K mainGlobals "sorted" = some none)
    (z_set : PySem.W.nsIn K mainGlobals "set" = some none)
    (z_bool : PySem.W.nsIn K mainGlobals "bool" = some none)
    (v_LONGEST : PySem.W.nsIn K mainGlobals "LONGEST" = some (some (.int 12 t_LONGEST)))
    (v_SIGNS : PySem.W.nsIn K mainGlobals "SIGNS" = some (some (.str SG t_SIGNS))) :
    ∃ fd : FuncData, (∀ (s : Shared) (v : Value), BindsTo s fd ⟨[v], []⟩ [("_law_script", v)]) ∧ ∀ base : Heap, K.In base → base.Ns mainGlobals mg → FnOk l.prog w K mg base CX0 10 fa fd ["_law_script"] (spLaw29 K) := by
  have e := hfa.symm.trans (PySem.W.mg_of X G a_law)
  cases e
  have n_len := PySem.W.mg_none_of X G z_len
  have n_int := PySem.W.mg_none_of X G z_int
  have n_abs := PySem.W.mg_none_of X G z_abs
  have n_isinstance := PySem.W.mg_none_of X G z_isinstance
  have n_str := PySem.W.mg_none_of X G z_str
  have n_all := PySem.W.mg_none_of X G z_all
  have n_list := PySem.W.mg_none_of X G z_list
  have n_range := PySem.W.mg_none_of X G z_range
  have n_tuple := PySem.W.mg_none_of X G z_tuple
  have n_sorted := PySem.W.mg_none_of X G z_sorted
  have n_set := PySem.W.mg_none_of X G z_set
  have n_bool := PySem.W.mg_none_of X G z_bool
  have TB : TxtB mg := ⟨n_len, n_int, n_abs⟩
  have TN : TxtN mg := ⟨n_isinstance, n_str, n_len, n_all, ⟨_, PySem.W.mg_of X G v_LONGEST⟩, ⟨_, PySem.W.mg_of X G v_SIGNS⟩⟩
  have TM : TxtM mg := ⟨n_range, n_len, n_str⟩
  have TS : TxtS mg := ⟨n_isinstance, n_bool, n_int, n_tuple, n_list, n_len⟩
  have TL : TxtL28 mg := ⟨n_isinstance, n_bool, n_int, n_tuple, n_list, n_len, n_range, n_set, n_sorted, n_str⟩
  have cl : Cls K C_Notes := ⟨pg_Notes, hd_Notes, po_Notes, sa_Notes⟩
  have TR : TxtRe mg := ⟨n_len, n_list⟩
  have ic : C8.InsC K C_Notes := ⟨cl, q_cls, q_get, q_takes, q_mro, q_me⟩
  have TNo : TxtNotes K mg C_Notes := ⟨cl, n_Notes_pairs, n_tuple, n_sorted, n_set⟩
  have E_I : ErrC K mg "InvalidName" "name" C_InvalidName f_InvalidName := ⟨⟨⟨_, _, _, _, _, _, _, _, _, _, _, _, _, _, _, x_InvalidName, hb_InvalidName⟩, sa_InvalidName, e_InvalidName, tc_InvalidName, kc_InvalidName⟩, PySem.W.mg_of X G a_InvalidName, i_InvalidName, ti_InvalidName, no_InvalidName⟩
  have E_N : ErrN K mg C_InvalidNote f_InvalidNote := ⟨⟨⟨_, _, _, _, _, _, _, _, _, _, _, _, _, _, _, x_InvalidNote, hb_InvalidNote⟩, sa_InvalidNote, e_InvalidNote, tc_InvalidNote, kc_InvalidNote⟩, PySem.W.mg_of X G a_InvalidNote, i_InvalidNote, ti_InvalidNote, no_InvalidNote, q_after⟩
  have F_InvalidName := fun_mk (st := sInv) l_InvalidName c_InvalidName k_InvalidName
  have b_InvalidName := F_InvalidName.binds (ps := ["self", "name"]) fun _ _ _ _ _ _ us hl => match us, hl with | [_, _], _ => rfl
  have F_InvalidNote := fun_mk (st := sInvalidNoteInit) l_InvalidNote c_InvalidNote k_InvalidNote
  have b_InvalidNote := F_InvalidNote.binds (ps := ["self", "before", "after"]) fun _ _ _ _ _ _ us hl => match us, hl with | [_, _, _], _ => rfl
  have F_is_name := fun_mk (st := sIsName) l_is_name c_is_name k_is_name
  have b_is_name := F_is_name.binds (ps := ["value"]) fun _ _ _ _ _ _ us hl => match us, hl with | [_], _ => rfl
  have F_check_name := fun_mk (st := sCheckName) l_check_name c_check_name k_check_name
  have b_check_name := F_check_name.binds (ps := ["name"]) fun _ _ _ _ _ _ us hl => match us, hl with | [_], _ => rfl
  have F_reached := fun_mk (st := sReached) l_reached c_reached k_reached
  have b_reached := F_reached.binds (ps := ["leads", "start", "end"]) fun _ _ _ _ _ _ us hl => match us, hl with | [_, _, _], _ => rfl
  have F_law_bag := fun_mk (st := sBag) l_law_bag c_law_bag k_law_bag
  have b_law_bag := F_law_bag.binds (ps := ["_law_script"]) fun _ _ _ _ _ _ us hl => match us, hl with | [_], _ => rfl
  have F_law_take := fun_mk (st := sTake) l_law_take c_law_take k_law_take
  have b_law_take := F_law_take.binds (ps := ["_law_bag_here", "_law_size"]) fun _ _ _ _ _ _ us hl => match us, hl with | [_, _], _ => rfl
  have F_law_is := fun_mk (st := sLawIs) l_law_is c_law_is k_law_is
  have b_law_is := F_law_is.binds (ps := ["_law_value", "_law_due"]) fun _ _ _ _ _ _ us hl => match us, hl with | [_, _], _ => rfl
  have F_law_name := fun_mk (st := sLawName) l_law_name c_law_name k_law_name
  have b_law_name := F_law_name.binds (ps := ["_law_bag_here", "_law_used"]) fun _ _ _ _ _ _ us hl => match us, hl with | [_, _], _ => rfl
  have F_law_names := fun_mk (st := sLawNames) l_law_names c_law_names k_law_names
  have b_law_names := F_law_names.binds (ps := ["_law_bag_here", "_law_count"]) fun _ _ _ _ _ _ us hl => match us, hl with | [_, _], _ => rfl
  have F_law_pairs := fun_mk (st := sLawPairs) l_law_pairs c_law_pairs k_law_pairs
  have b_law_pairs := F_law_pairs.binds (ps := ["_law_bag_here", "_law_looks", "_law_count"]) fun _ _ _ _ _ _ us hl => match us, hl with | [_, _, _], _ => rfl
  have F_law_notes := fun_mk (st := sLawNotes) l_law_notes c_law_notes k_law_notes
  have b_law_notes := F_law_notes.binds (ps := ["_law_pairs_here"]) fun _ _ _ _ _ _ us hl => match us, hl with | [_], _ => rfl
  have F_law_from := fun_mk (st := sLawFrom) l_law_from c_law_from k_law_from
  have b_law_from := F_law_from.binds (ps := ["_law_pairs_here", "_law_name_here", "_law_count"]) fun _ _ _ _ _ _ us hl => match us, hl with | [_, _, _], _ => rfl
  have F_Notes_init := fun_mk (st := sNotesInit) l_Notes_init c_Notes_init k_Notes_init
  have F_Notes_add := fun_mk (st := sNotesAdd) l_Notes_add c_Notes_add k_Notes_add
  have b_Notes_add := F_Notes_add.binds (ps := ["self", "other"]) fun _ _ _ _ _ _ us hl => match us, hl with | [_, _], _ => rfl
  have F_Notes_eq := fun_mk (st := sNotesEq) l_Notes_eq c_Notes_eq k_Notes_eq
  have b_Notes_eq := F_Notes_eq.binds (ps := ["self", "other"]) fun _ _ _ _ _ _ us hl => match us, hl with | [_, _], _ => rfl
  have F_Notes_about := fun_mk (st := sNotesAbout) l_Notes_about c_Notes_about k_Notes_about
  have b_Notes_about := F_Notes_about.binds (ps := ["self", "look"]) fun _ _ _ _ _ _ us hl => match us, hl with | [_, _], _ => rfl
  have F_Notes_closed := fun_mk (st := sNotesClosed) l_Notes_closed c_Notes_closed k_Notes_closed
  have b_Notes_closed := F_Notes_closed.binds (ps := ["self"]) fun _ _ _ _ _ _ us hl => match us, hl with | [_], _ => rfl
  have mN := PySem.W.mg_of X G a_Notes
  have main : ∀ base : Heap, NoteOps l.prog w K mg base C_Notes C_InvalidName C_InvalidNote := fun base => by
    have xI : Ex l.prog w K mg base "InvalidName" "name" C_InvalidName := ⟨_, _, E_I, b_InvalidName, ok_einv F_InvalidName E_I⟩
    have xN : NoteX l.prog w K mg base C_InvalidNote := ⟨_, _, E_N, b_InvalidNote, ok_enote F_InvalidNote E_N⟩
    have gN : Dfn l.prog w K mg base CX0 1 "is_name" ["value"] (spIsName K) := ⟨_, _, PySem.W.mg_of X G a_is_name, F_is_name.kp, b_is_name, ok_isname F_is_name TN⟩
    have gCN : Dfn l.prog w K mg base (L2.CX l.prog w) 3 "check_name" ["name"] (spCheckName C_InvalidName) := ⟨_, _, PySem.W.mg_of X G a_check_name, F_check_name.kp, b_check_name, ok_checkname F_check_name gN xI⟩
    have TM0 : NoteM l.prog w K mg base C_Notes C_InvalidName C_InvalidNote := ⟨cl, n_Notes_pairs, mN, _, ⟨mk_Notes, i_Notes_init, fn_Notes_init, kc_Notes⟩, ok_notes F_Notes_init TNo gCN xN⟩
    exact ⟨TM0, q_self, ⟨_, _, i_Notes_add, fn_Notes_add, b_Notes_add, ok_nadd F_Notes_add TM0⟩, ⟨_, _, i_Notes_eq, fn_Notes_eq, b_Notes_eq, ok_neq F_Notes_eq TM0 n_isinstance ic⟩⟩
  refine ⟨_, fun s v => .of_eq rfl, fun base _ _ => ok_law29 (CI := C_InvalidName) (CE := C_InvalidNote) (fun_mk (st := sLaw) l_law c_law k_law) TL (main base) ic ?_ ?_ ?_ ?_ ?_ ?_ ?_ ?_ ?_⟩
  · exact ⟨_, _, PySem.W.mg_of X G a_law_bag, F_law_bag.kp, b_law_bag, ok_bag F_law_bag TB⟩
  · exact ⟨_, _, PySem.W.mg_of X G a_law_take, F_law_take.kp, b_law_take, ok_take F_law_take TB⟩
  · have gT : Dfn l.prog w K mg base CX0 1 "_law_take" ["_law_bag_here", "_law_size"] spTake := ⟨_, _, PySem.W.mg_of X G a_law_take, F_law_take.kp, b_law_take, ok_take F_law_take TB⟩
    have g1 : Dfn l.prog w K mg base CX0 2 "_law_name" ["_law_bag_here", "_law_used"] spName := ⟨_, _, PySem.W.mg_of X G a_law_name, F_law_name.kp, b_law_name, ok_name F_law_name TM gT⟩
    exact ⟨_, _, PySem.W.mg_of X G a_law_names, F_law_names.kp, b_law_names, ok_names F_law_names TM g1⟩
  · have gT : Dfn l.prog w K mg base CX0 1 "_law_take" ["_law_bag_here", "_law_size"] spTake := ⟨_, _, PySem.W.mg_of X G a_law_take, F_law_take.kp, b_law_take, ok_take F_law_take TB⟩
    exact ⟨_, _, PySem.W.mg_of X G a_law_pairs, F_law_pairs.kp, b_law_pairs, ok_pairs F_law_pairs TL gT⟩
  · exact ⟨_, _, PySem.W.mg_of X G a_law_from, F_law_from.kp, b_law_from, ok_lfrom F_law_from TL⟩
  · exact ⟨_, _, PySem.W.mg_of X G a_law_notes, F_law_notes.kp, b_law_notes, ok_lnotes F_law_notes (main base)⟩
  · exact ⟨_, _, PySem.W.mg_of X G a_law_is, F_law_is.kp, b_law_is, ok_is F_law_is TS⟩
  · exact ⟨_, _, ⟨i_Notes_closed, fn_Notes_closed, F_Notes_closed.kp⟩, b_Notes_closed, ok_nclosed F_Notes_closed (main base).toNoteM ⟨_, _, PySem.W.mg_of X G a_reached, F_reached.kp, b_reached, ok_reached F_reached TR⟩⟩
  · exact ⟨_, _, ⟨i_Notes_about, fn_Notes_about, F_Notes_about.kp⟩, b_Notes_about, ok_nabout F_Notes_about (main base).toNoteM⟩
theorem walk {l : PySem.W.OpenLaw} {q : Program} {loose : List Str} {XP : (Str → Option Value) → Heap → Prop} {YP : World → Heap → Prop} {d : DefRec} {K : Params → PySem.W.Frag} (hn : l.most = some 63) (hdf : d.params.defaults = [])
    (hY : ∀ (w : World) (h : Heap), YP w h → (K w.params).In h)
    (F : ∀ (w : World) (mg : Str → Option Value) (fa : Addr) (h : Heap), (K w.params).In h → h.Ns mainGlobals mg → mg d.name = some (.ref fa) →
      ∃ fd : FuncData, (∀ (s : Shared) (u : Value), BindsTo s fd ⟨[u], []⟩ [("_law_script", u)]) ∧ ∀ base : Heap, (K w.params).In base → base.Ns mainGlobals mg → FnOk l.prog w (K w.params) mg base CX0 10 fa fd ["_law_script"] (spLaw29 (K w.params))) :
    PySem.W.WalkO q loose XP YP l.row.toRowW d [] (fun f vs => PySem.call f vs) :=
  walk_of (n := 63) (k := 10) (x := "_law_script") (CX := fun _ => CX0) (sp := fun w => spLaw29 (K w.params)) hn (by decide) hdf ⟨rfl, by decide, by decide⟩ hY F
    (fun _ _ a ns hl _ hS => ⟨a, ns, rfl, hS, hl, fun _ => rfl⟩) fun _ _ _ _ _ z => z
end Dl

open PySem PySem.W PyProof.Rows in
set_option maxRecDepth 100000 in
set_option maxHeartbeats 0 in
theorem PySem.Challenge.cw_dimmerlog_k29_closed_notes_holds : PySem.Challenge.rw_dimmerlog_k29_closed_notes.Holds := by
  w_on; o_law; k_head; (case hw => w_witness2)
  k_fill
  refine Dl.walk (l := PySem.Challenge.rw_dimmerlog_k29_closed_notes) rfl rfl (fun w h Y => PySem.W.kIn_of Y) ?F
  case F =>
    intro w mg fa h KX G hmg
    refine' Dl.all_mk KX G hmg ?a_is_name ?l_is_name ?c_is_name ?k_is_name ?a_check_name ?l_check_name ?c_check_name ?k_check_name ?a_reached ?l_reached ?c_reached ?k_reached ?a_law_bag ?l_law_bag ?c_law_bag ?k_law_bag ?a_law_take ?l_law_take ?c_law_take ?k_law_take ?a_law_is ?l_law_is ?c_law_is ?k_law_is ?a_law_name ?l_law_name ?c_law_name ?k_law_name ?a_law_names ?l_law_names ?c_law_names ?k_law_names ?a_law_pairs ?l_law_pairs ?c_law_pairs ?k_law_pairs ?a_law_notes ?l_law_notes ?c_law_notes ?k_law_notes ?a_law_from ?l_law_from ?c_law_from ?k_law_from ?a_law ?l_law ?c_law ?k_law ?a_InvalidName ?x_InvalidName ?hb_InvalidName ?sa_InvalidName ?e_InvalidName ?tc_InvalidName ?kc_InvalidName ?no_InvalidName ?i_InvalidName ?ti_InvalidName ?l_InvalidName ?c_InvalidName ?k_InvalidName ?a_InvalidNote ?x_InvalidNote ?hb_InvalidNote ?sa_InvalidNote ?e_InvalidNote ?tc_InvalidNote ?kc_InvalidNote ?no_InvalidNote ?i_InvalidNote ?ti_InvalidNote ?l_InvalidNote ?c_InvalidNote ?k_InvalidNote ?a_Notes ?pg_Notes ?hd_Notes ?po_Notes ?sa_Notes ?mk_Notes ?kc_Notes ?n_Notes_pairs ?i_Notes_init ?fn_Notes_init ?l_Notes_init ?c_Notes_init ?k_Notes_init ?i_Notes_add ?fn_Notes_add ?l_Notes_add ?c_Notes_add ?k_Notes_add ?i_Notes_eq ?fn_Notes_eq ?l_Notes_eq ?c_Notes_eq ?k_Notes_eq ?i_Notes_about ?fn_Notes_about ?l_Notes_about ?c_Notes_about ?k_Notes_about ?i_Notes_closed ?fn_Notes_closed ?l_Notes_closed ?c_Notes_closed ?k_Notes_closed ?q_after ?q_get ?q_takes ?q_cls ?q_mro ?q_me ?q_self ?z_len ?z_int ?z_abs ?z_isinstance ?z_str ?z_all ?z_list ?z_range ?z_tuple ?z_sorted ?z_set ?z_bool ?v_LONGEST ?v_SIGNS
    (case a_is_name => k_is)
    (case l_is_name => k_is)
    (case c_is_name => k_is)
    (case k_is_name => k_is)
    (case a_check_name => k_is)
    (case l_check_name => k_is)
    (case c_check_name => k_is)
    (case k_check_name => k_is)
    (case a_reached => k_is)
    (case l_reached => k_is)
    (case c_reached => k_is)
    (case k_reached => k_is)
    (case a_law_bag => k_is)
    (case l_law_bag => k_is)
    (case c_law_bag => k_is)
    (case k_law_bag => k_is)
    (case a_law_take => k_is)
    (case l_law_take => k_is)
    (case c_law_take => k_is)
    (case k_law_take => k_is)
    (case a_law_is => k_is)
    (case l_law_is => k_is)
    (case c_law_is => k_is)
    (case k_law_is => k_is)
    (case a_law_name => k_is)
    (case l_law_name => k_is)
    (case c_law_name => k_is)
    (case k_law_name => k_is)
    (case a_law_names => k_is)
    (case l_law_names => k_is)
    (case c_law_names => k_is)
    (case k_law_names => k_is)
    (case a_law_pairs => k_is)
    (case l_law_pairs => k_is)
    (case c_law_pairs => k_is)
    (case k_law_pairs => k_is)
    (case a_law_notes => k_is)
    (case l_law_notes => k_is)
    (case c_law_notes => k_is)
    (case k_law_notes => k_is)
    (case a_law_from => k_is)
    (case l_law_from => k_is)
    (case c_law_from => k_is)
    (case k_law_from => k_is)
    (case a_law => k_is)
    (case l_law => k_is)
    (case c_law => k_is)
    (case k_law => k_is)
    (case a_InvalidName => k_is)
    (case x_InvalidName => k_is)
    (case hb_InvalidName => (first | rfl | decide +kernel))
    (case sa_InvalidName => k_is)
    (case e_InvalidName => k_is)
    (case tc_InvalidName => k_is)
    (case kc_InvalidName => k_is)
    (case no_InvalidName => k_is)
    (case i_InvalidName => k_is)
    (case ti_InvalidName => k_is)
    (case l_InvalidName => k_is)
    (case c_InvalidName => k_is)
    (case k_InvalidName => k_is)
    (case a_InvalidNote => k_is)
    (case x_InvalidNote => k_is)
    (case hb_InvalidNote => (first | rfl | decide +kernel))
    (case sa_InvalidNote => k_is)
    (case e_InvalidNote => k_is)
    (case tc_InvalidNote => k_is)
    (case kc_InvalidNote => k_is)
    (case no_InvalidNote => k_is)
    (case i_InvalidNote => k_is)
    (case ti_InvalidNote => k_is)
    (case l_InvalidNote => k_is)
    (case c_InvalidNote => k_is)
    (case k_InvalidNote => k_is)
    (case a_Notes => k_is)
    (case pg_Notes => k_is)
    (case hd_Notes => k_is)
    (case po_Notes => k_is)
    (case sa_Notes => k_is)
    (case mk_Notes => k_is)
    (case kc_Notes => k_is)
    (case n_Notes_pairs => k_is)
    (case i_Notes_init => k_is)
    (case fn_Notes_init => k_is)
    (case l_Notes_init => k_is)
    (case c_Notes_init => k_is)
    (case k_Notes_init => k_is)
    (case i_Notes_add => k_is)
    (case fn_Notes_add => k_is)
    (case l_Notes_add => k_is)
    (case c_Notes_add => k_is)
    (case k_Notes_add => k_is)
    (case i_Notes_eq => k_is)
    (case fn_Notes_eq => k_is)
    (case l_Notes_eq => k_is)
    (case c_Notes_eq => k_is)
    (case k_Notes_eq => k_is)
    (case i_Notes_about => k_is)
    (case fn_Notes_about => k_is)
    (case l_Notes_about => k_is)
    (case c_Notes_about => k_is)
    (case k_Notes_about => k_is)
    (case i_Notes_closed => k_is)
    (case fn_Notes_closed => k_is)
    (case l_Notes_closed => k_is)
    (case c_Notes_closed => k_is)
    (case k_Notes_closed => k_is)
    (case q_after => k_is)
    (case q_get => (first | k_is | rfl))
    (case q_takes => (first | k_is | rfl))
    (case q_cls => k_is)
    (case q_mro => (first | k_is | rfl))
    (case q_me => (first | k_is | rfl))
    (case q_self => (first | k_is | rfl))
    (case z_len => k_is)
    (case z_int => k_is)
    (case z_abs => k_is)
    (case z_isinstance => k_is)
    (case z_str => k_is)
    (case z_all => k_is)
    (case z_list => k_is)
    (case z_range => k_is)
    (case z_tuple => k_is)
    (case z_sorted => k_is)
    (case z_set => k_is)
    (case z_bool => k_is)
    (case v_LONGEST => k_is)
    (case v_SIGNS => k_is)
