import PyProof.Rows.All
import Wide.All
import OpenK.AllK
import Wide.FinOn
import HandS.ForMost
import HandS.Exc
import HandS.TryOnly
import HandS.ExcOwn
import HandS.WordsExc
import HandS.ExcInit
import HandS.ExcField
import HandS.IsInst
import HandS.Walk
import HandS.Conv
import HandS.Wide
import HandS.TryMany
import HandS.CallSlots
import HandS.Flow
import HandS.Deep
import HandS.Star
import HandS.MethStar
import HandS.ExcIs
import HandS.Rev
import HandS.More
import KE.GoesEnum
import KE.GoesMore
import HandS.ListEq
import HandS.DictEq
import HandS.DeepEq
import HandS.OwnEq
import HandS.Codes
import KE.KExcIs
import HandS.DictComp
import HandS.Dict
import HandS.NoneIn
import HandS.TupSets
import HandS.Text
import HandS.Property
import KE.SortData
import HandS.TupAny
import PyProof.P3In
import HandS.FStr
import KE.KOpsOwn
import HandS.RevTup
import HandS.Finally
import KE.KDictList
import KE.KDictSum
import PySem.Challenge.RW_dimmerlog_k46_checked_arrangements
set_option Elab.async false
set_option linter.all false
set_option maxRecDepth 100000
set_option maxHeartbeats 4000000
namespace Dl
open PySem L2
def top (i : Nat) : Stmt := PySem.Challenge.pw_dimmerlog_k46_checked_arrangements.main.body.getD i (.Pass ⟨0, 0, 0, 0⟩)
abbrev sWall : Stmt := top 0
abbrev sInv : Stmt := inClass (top 3) 0
abbrev sDup : Stmt := inClass (top 4) 0
abbrev sUnk : Stmt := inClass (top 5) 0
abbrev sInvalidNoteInit : Stmt := inClass (top 6) 0
abbrev sLine : Stmt := inClass (top 7) 0
abbrev sMany : Stmt := inClass (top 8) 0
abbrev sIsName : Stmt := top 12
abbrev sCheckName : Stmt := top 13
abbrev sCheckNew : Stmt := top 14
abbrev sCheckKnown : Stmt := top 15
abbrev sCheckAll : Stmt := top 16
abbrev sDistinct : Stmt := top 17
abbrev sNotesInit : Stmt := inClass (top 19) 0
abbrev sNotesAdd : Stmt := inClass (top 19) 1
abbrev sNotesSub : Stmt := inClass (top 19) 2
abbrev sNotesNeg : Stmt := inClass (top 19) 3
abbrev sNotesContains : Stmt := inClass (top 19) 4
abbrev sNotesIter : Stmt := inClass (top 19) 5
abbrev sNotesLen : Stmt := inClass (top 19) 6
abbrev sNotesEq : Stmt := inClass (top 19) 7
abbrev sNotesStr : Stmt := inClass (top 19) 8
abbrev sNotesAbout : Stmt := inClass (top 19) 9
abbrev sNotesClosed : Stmt := inClass (top 19) 10
abbrev sPairsIn : Stmt := top 20
abbrev sArrangementHolds : Stmt := top 22
abbrev sAscend : Stmt := top 23
abbrev sTabInit : Stmt := inClass (top 26) 0
abbrev sTableRead : Stmt := inClass (top 26) 1
abbrev sTableStr : Stmt := inClass (top 26) 2
abbrev sTableGetitem : Stmt := inClass (top 26) 3
abbrev sTableIter : Stmt := inClass (top 26) 4
abbrev sTableLen : Stmt := inClass (top 26) 5
abbrev sTableEq : Stmt := inClass (top 26) 6
abbrev sTableShown : Stmt := inClass (top 26) 7
abbrev sTableSeen : Stmt := inClass (top 26) 8
abbrev sTableRows : Stmt := inClass (top 26) 9
abbrev sTableWithout : Stmt := inClass (top 26) 10
abbrev sTableOnly : Stmt := inClass (top 26) 11
abbrev sTableWithLook : Stmt := inClass (top 26) 12
abbrev sTableExchanged : Stmt := inClass (top 26) 13
abbrev sTableAlike : Stmt := inClass (top 26) 14
abbrev sTableGroups : Stmt := inClass (top 26) 15
abbrev sCheckShown : Stmt := top 27
abbrev sChosen : Stmt := top 28
abbrev sReadLamps : Stmt := top 29
abbrev sReadLook : Stmt := top 30
abbrev sArrangementInit : Stmt := inClass (top 32) 0
abbrev sArrangementCall : Stmt := inClass (top 32) 1
abbrev sArrangementAdd : Stmt := inClass (top 32) 2
abbrev sArrangementRadd : Stmt := inClass (top 32) 3
abbrev sArrangementNeg : Stmt := inClass (top 32) 4
abbrev sArrangementEq : Stmt := inClass (top 32) 5
abbrev sContains : Stmt := top 33
abbrev sMoved : Stmt := top 34
abbrev sTurned : Stmt := top 35
abbrev sBag : Stmt := top 37
abbrev sTake : Stmt := top 38
abbrev sLawIs : Stmt := top 39
abbrev sLawName : Stmt := top 40
abbrev sLawNames : Stmt := top 41
abbrev sLawFlipped : Stmt := top 42
abbrev sLawGiven : Stmt := top 43
abbrev sLawPairs : Stmt := top 44
abbrev sLawNotes : Stmt := top 45
abbrev sLawGlowing : Stmt := top 46
abbrev sLawDrawnSettings : Stmt := top 47
abbrev sLawDrawnStretches : Stmt := top 48
abbrev sLawDueHolds : Stmt := top 49
abbrev sLawBend : Stmt := top 50
abbrev sLaw : Stmt := top 51
end Dl

/-! The bag of draws: _law_bag, _law_take. -/
namespace Dl
open PySem L2

/-! ### the mathematics of the bag -/
structure BagOk (L : List Int) : Prop where
  ex : ∃ (s d : Int) (r : List Int), L = s :: d :: r ∧ 0 ≤ s ∧ s < 2147483647 ∧ 0 ≤ d ∧ ∀ x ∈ r, 0 ≤ x
theorem BagOk.put0 {d : Int} {r : List Int} (x : Int) (hd : 0 ≤ d) (hr : ∀ x ∈ r, 0 ≤ x) : BagOk (x % 2147483647 :: d :: r) :=
  ⟨_, _, _, rfl, Int.emod_nonneg _ (by decide), Int.emod_lt_of_pos _ (by decide), hd, hr⟩

/-- the names that the two defs read -/
structure TxtB (mg : Str → Option Value) : Prop where
  len : mg "len" = none
  int : mg "int" = none
  abs : mg "abs" = none

def spTake : Sp := fun vs H Q _ => ∃ (b : Addr) (L : List Int) (n : Int), vs = [.ref b, .int n] ∧ H b = some (.lst (L.map V.int)) ∧ BagOk L ∧ 1 ≤ n ∧ n < 19342813113834066795298816 ∧
  ∀ (L' : List Int) (r : Int), BagOk L' → 0 ≤ r → r < n → Q (.int r) (upd H b (.lst (L'.map V.int)))
section
variable {P : Program} {w : World} {K : PySem.W.Frag} {mg : Str → Option Value} {base : Heap}
theorem scTake : FnScope ["_law_bag_here", "_law_size", "_law_cell", "_law_digit"] ["_law_bag_here", "_law_size"] (defScope sTake) := ⟨rfl, rfl, rfl, by decide +kernel, rfl, by decide +kernel, by decide +kernel⟩
theorem upd_upd {H : Hp} {a : Addr} {o u : HO} : upd (upd H a o) a u = upd H a u := by
  funext b
  by_cases h : b = a
  · subst h; rw [upd_same, upd_same]
  · rw [upd_ne h, upd_ne h, upd_ne h]
theorem upd_id {H : Hp} {a : Addr} {o : HO} (h : H a = some o) : upd H a o = H := by
  funext b
  by_cases e : b = a
  · subst e; rw [upd_same, h]
  · rw [upd_ne e]
theorem ix_at {n j : Nat} (h : j < n) : ixN n (j : Int) = some j := by
  unfold ixN
  rw [if_pos (by omega), if_pos (by omega)]; simp
theorem ok_take {f : Addr} {fd : FuncData} (F : Fun K "_law_take" "_law_take" sTake f fd) (T : TxtB mg) : FnOk P w K mg base CX0 1 f fd ["_law_bag_here", "_law_size"] spTake := by
  refine F.ok scTake (fun vs H Q E h => ?_) (fun cdv A outer s H vs Q E hr h => ?_)
  · obtain ⟨b, L, n, rfl, _⟩ := h
    rfl
  · obtain ⟨b, L, n, rfl, hb, ⟨z, d, r, rfl, hz0, hz1, hd0, hr0⟩, hn1, hn2, k⟩ := h
    refine ⟨_, pss_cons (ps_if (PW.pt (pw_and (pt_cmpR op_eq (pe_ix ix_list (pv 0) pe_int (fun _ _ => rfl)) pe_int (nomark _)) (pw_and1 (pt_cmpR op_gt (pe_callB call_len_seq (by rfl) T.len PySem.boot_len (pa_cons (pv 0) pa_nil)) pe_int (nomark _)))))
        (pss_cons (ps_set (i := 2) scTake.nd rfl (Or.inl rfl) (pe_bm PySem.F.plainAttrs_list PySem.F.slot_list_pop PySem.F.type_list_pop mt_popAt (pv 0) (pa_cons pe_int pa_nil)))
        (pss_one (ps_if (pt_cmpR op_ge (pv 2) (pe_op op_pow pe_int pe_int) (nomark _))
          (pss_one (ps_asg (pv 2) (pg_sub (pv 0) pe_int set_list)))
          (pss_cons (ps_asg (pe_op op_mod (pe_callTy call_int1 (by rfl) T.int (by decide +kernel) (pa_cons (pe_op op_add (pe_op op_add (pe_op op_mul (pe_ix ix_list (pv 0) pe_int (fun _ _ => rfl)) pe_int) (pe_op op_mul (pv 2) pe_int)) pe_int) pa_nil)) pe_int) (pg_sub (pv 0) pe_int set_list))
          (pss_one (ps_ret (pe_op op_mod (pe_callTy call_int1 (by rfl) T.int (by decide +kernel) (pa_cons (pe_op op_fdiv (pe_op op_add (pe_op op_mul (pe_ix ix_list (pv 0) pe_int (fun _ _ => rfl)) pe_int) pe_int) pe_int) pa_nil)) (pv 1))))))))
        pss_nil)
      (pss_cons (ps_if (pt_cmpR op_gt (pe_ix ix_list (pv 0) pe_int (fun _ _ => rfl)) pe_int (nomark _))
        (pss_cons (ps_set (i := 3) scTake.nd rfl (Or.inl rfl) (pe_op op_mod (pe_callTy call_int1 (by rfl) T.int (by decide +kernel) (pa_cons (pe_ix ix_list (pv 0) pe_int (fun _ _ => rfl)) pa_nil)) (pv 1)))
        (pss_cons (ps_asg (pe_op op_fdivW (pe_ix ix_list (pv 0) pe_int (fun _ _ => rfl)) (pv 1)) (pg_sub (pv 0) pe_int set_list))
        (pss_one (ps_ret (pv 3)))))
        pss_nil)
      (pss_cons (ps_asg (pe_op op_mod (pe_callTy call_int1 (by rfl) T.int (by decide +kernel) (pa_cons (pe_op op_mul (pe_ix ix_list (pv 0) pe_int (fun _ _ => rfl)) pe_int) pa_nil)) pe_int) (pg_sub (pv 0) pe_int set_list))
      (pss_one (ps_ret (pe_op op_mod (pe_callTy call_int1 (by rfl) T.int (by decide +kernel) (pa_cons (pe_op op_fdiv (pe_ix ix_list (pv 0) pe_int (fun _ _ => rfl)) pe_int) pa_nil)) (pv 1)))))), ?_⟩
    -- bag[1] == 0 and len(bag) > 2
    refine ⟨_, rfl, b, _, _, _, rfl, rfl, SqL.of hb, (atI_nat (j := 1) rfl), rfl, _, rfl, ?_⟩
    refine ite2 (fun e => ?_) (fun e => ?_)
    · refine ⟨_, rfl, b, _, rfl, .inl (SqL.of hb), _, _, rfl, rfl, _, rfl, ?_⟩
      refine ite2 (fun e2 => ?_) (fun e2 => ?_)
      · -- cell = bag.pop(2)
        have hl : 2 < (z :: d :: r).length := by
          have q := of_decide_eq_true e2
          have q2 : ((2 : Int) < (((z :: d :: r).map V.int).length : Nat)) := q
          rw [List.length_map] at q2
          omega
        match r, hr0, hb, k, hl with
        | [], _, _, _, hl => exact absurd hl (by simp)
        | c :: r, hr0, hb, k, _ =>
        have hc0 : 0 ≤ c := hr0 c (List.mem_cons_self ..)
        have hr1 : ∀ x ∈ r, 0 ≤ x := fun x hx => hr0 x (List.mem_cons_of_mem _ hx)
        have hsq : seqIndex? (2 : Int) ((z :: d :: c :: r).map V.int).length = some 2 := by
          have q : ((z :: d :: c :: r).map V.int).length = r.length + 3 := by simp
          rw [q]
          unfold seqIndex?
          simp
          omega
        refine ⟨_, rfl, .inl ⟨rfl, _, SqL.of hb⟩, b, _, 2, 2, _, rfl, rfl, hb, by decide, by decide, hsq, rfl, ?_⟩
        refine ⟨_, rfl, _, _, rfl, rfl, ⟨by decide, by decide, by decide⟩, _, _, rfl, rfl, _, rfl, ?_⟩
        refine ite2 (fun e4 => ?_) (fun e4 => ?_)
        · refine ⟨_, rfl, _, rfl, b, _, _, 1, rfl, rfl, upd_same, ix_at (j := 1) (by simp), ?_⟩
          have hd1 : 0 ≤ c := hc0
          have hz1' := hz0
          have hz1'' := hz1
          have k1 : ∀ (L' : List Int) (x : Int), BagOk L' → 0 ≤ x → x < n → Q (.int x) (upd (upd (upd H b (HO.lst ((z :: d :: r).map V.int))) b (HO.lst ((z :: c :: r).map V.int))) b (.lst (L'.map V.int))) := fun L' x h1 h2 h3 => by
            rw [upd_upd, upd_upd]
            exact k L' x h1 h2 h3
          have hb1 : (upd (upd H b (HO.lst ((z :: d :: r).map V.int))) b (HO.lst ((z :: c :: r).map V.int))) b = some (.lst ((z :: c :: r).map V.int)) := upd_same
          refine ⟨_, rfl, b, _, _, _, rfl, rfl, SqL.of hb1, (atI_nat (j := 1) rfl), _, _, rfl, rfl, _, rfl, ?_⟩
          refine ite2 (fun e3 => ?_) (fun e3 => ?_)
          · refine ⟨_, rfl, b, _, _, _, rfl, rfl, SqL.of hb1, (atI_nat (j := 1) rfl), .inl ⟨_, rfl, ?_⟩⟩
            refine ⟨_, rfl, _, _, rfl, rfl, (by show (0 : Int) < n; omega), ?_⟩
            refine ⟨_, rfl, b, _, _, _, rfl, rfl, SqL.of hb1, (atI_nat (j := 1) rfl), _, rfl, _, _, rfl, rfl, wide_div (b := 85) (by show (0 : Int) < n; omega) (by show n.natAbs < 2 ^ 85; omega) (by decide) (by decide), ?_⟩
            refine ⟨_, rfl, b, _, _, 1, rfl, rfl, hb1, ix_at (j := 1) (by simp), ?_⟩
            refine ⟨_, rfl, ?_⟩
            exact k1 (z :: (c / n) :: r) _ ⟨_, _, _, rfl, hz1', hz1'', Int.ediv_nonneg hd1 (by omega), hr1⟩ (Int.emod_nonneg _ (by omega)) (Int.emod_lt_of_pos _ (by omega))
          · refine ⟨_, rfl, b, _, _, _, rfl, rfl, SqL.of hb1, (atI_nat (j := 0) rfl), _, _, rfl, rfl, .inl ⟨by show -(2 ^ 64) < z; omega, by show z < 2 ^ 64; omega⟩, .inl ⟨_, rfl, ?_⟩⟩
            refine ⟨_, _, rfl, rfl, (by show (0 : Int) < 2147483647; decide), ?_⟩
            refine ⟨_, rfl, b, _, _, 0, rfl, rfl, hb1, ix_at (j := 0) (by simp), ?_⟩
            refine ⟨_, rfl, b, _, _, _, rfl, rfl, SqL.of upd_same, (atI_nat (j := 0) rfl), _, _, rfl, rfl, ⟨by decide, by decide⟩, .inl ⟨_, rfl, ?_⟩⟩
            refine ⟨_, rfl, _, _, rfl, rfl, (by show (0 : Int) < n; omega), ?_⟩
            exact k1 (z * 48271 % 2147483647 :: c :: r) _ (BagOk.put0 _ hd1 hr1) (Int.emod_nonneg _ (by omega)) (Int.emod_lt_of_pos _ (by omega))
        · have hc1 : c < 10 ^ 18 := by
            have q := of_decide_eq_false (p := ((10 : Int) ^ (18 : Int).toNat ≤ c)) (by simpa using e4)
            have q2 : (10 : Int) ^ (18 : Int).toNat = 1000000000000000000 := by decide
            omega
          refine ⟨_, rfl, b, _, _, _, rfl, rfl, SqL.of upd_same, (atI_nat (j := 0) rfl), _, _, rfl, rfl, .inl ⟨by show -(2 ^ 64) < z; omega, by show z < 2 ^ 64; omega⟩, ?_⟩
          refine ⟨_, rfl, _, _, rfl, rfl, .inl ⟨by show -(2 ^ 64) < c; omega, by show c < 2 ^ 64; omega⟩, _, _, rfl, rfl, _, _, rfl, rfl, .inl ⟨_, rfl, ?_⟩⟩
          refine ⟨_, _, rfl, rfl, (by show (0 : Int) < 2147483647; decide), ?_⟩
          refine ⟨_, rfl, b, _, _, 0, rfl, rfl, upd_same, ix_at (j := 0) (by simp), ?_⟩
          refine ⟨_, rfl, b, _, _, _, rfl, rfl, SqL.of upd_same, (atI_nat (j := 0) rfl), _, _, rfl, rfl, .inl ⟨?_, ?_⟩, _, _, rfl, rfl, _, _, rfl, rfl, ⟨by decide, by decide⟩, .inl ⟨_, rfl, ?_⟩⟩
          · have q := Int.emod_nonneg (z * 48271 + c * 69621 + 11) (show (2147483647 : Int) ≠ 0 by decide)
            show -(2 ^ 64) < (z * 48271 + c * 69621 + 11) % 2147483647
            omega
          · have q := Int.emod_lt_of_pos (z * 48271 + c * 69621 + 11) (show (0 : Int) < 2147483647 by decide)
            show (z * 48271 + c * 69621 + 11) % 2147483647 < 2 ^ 64
            omega
          refine ⟨_, rfl, _, _, rfl, rfl, (by show (0 : Int) < n; omega), ?_⟩
          have q := k ((z * 48271 + c * 69621 + 11) % 2147483647 :: d :: r) _ (BagOk.put0 _ hd0 hr1) (Int.emod_nonneg (((z * 48271 + c * 69621 + 11) % 2147483647 * 16807 + 7919) / 16) (show n ≠ 0 by omega)) (Int.emod_lt_of_pos _ (by omega))
          rw [← upd_upd] at q
          exact q
      · have hb1 := hb
        have k1 := k
        have hz1' := hz0
        have hz1'' := hz1
        have hd1 := hd0
        have hr1 := hr0
        refine ⟨_, rfl, b, _, _, _, rfl, rfl, SqL.of hb1, (atI_nat (j := 1) rfl), _, _, rfl, rfl, _, rfl, ?_⟩
        refine ite2 (fun e3 => ?_) (fun e3 => ?_)
        · refine ⟨_, rfl, b, _, _, _, rfl, rfl, SqL.of hb1, (atI_nat (j := 1) rfl), .inl ⟨_, rfl, ?_⟩⟩
          refine ⟨_, rfl, _, _, rfl, rfl, (by show (0 : Int) < n; omega), ?_⟩
          refine ⟨_, rfl, b, _, _, _, rfl, rfl, SqL.of hb1, (atI_nat (j := 1) rfl), _, rfl, _, _, rfl, rfl, wide_div (b := 85) (by show (0 : Int) < n; omega) (by show n.natAbs < 2 ^ 85; omega) (by decide) (by decide), ?_⟩
          refine ⟨_, rfl, b, _, _, 1, rfl, rfl, hb1, ix_at (j := 1) (by simp), ?_⟩
          refine ⟨_, rfl, ?_⟩
          exact k1 (z :: (d / n) :: r) _ ⟨_, _, _, rfl, hz1', hz1'', Int.ediv_nonneg hd1 (by omega), hr1⟩ (Int.emod_nonneg _ (by omega)) (Int.emod_lt_of_pos _ (by omega))
        · refine ⟨_, rfl, b, _, _, _, rfl, rfl, SqL.of hb1, (atI_nat (j := 0) rfl), _, _, rfl, rfl, .inl ⟨by show -(2 ^ 64) < z; omega, by show z < 2 ^ 64; omega⟩, .inl ⟨_, rfl, ?_⟩⟩
          refine ⟨_, _, rfl, rfl, (by show (0 : Int) < 2147483647; decide), ?_⟩
          refine ⟨_, rfl, b, _, _, 0, rfl, rfl, hb1, ix_at (j := 0) (by simp), ?_⟩
          refine ⟨_, rfl, b, _, _, _, rfl, rfl, SqL.of upd_same, (atI_nat (j := 0) rfl), _, _, rfl, rfl, ⟨by decide, by decide⟩, .inl ⟨_, rfl, ?_⟩⟩
          refine ⟨_, rfl, _, _, rfl, rfl, (by show (0 : Int) < n; omega), ?_⟩
          exact k1 (z * 48271 % 2147483647 :: d :: r) _ (BagOk.put0 _ hd1 hr1) (Int.emod_nonneg _ (by omega)) (Int.emod_lt_of_pos _ (by omega))
    · have hb1 := hb
      have k1 := k
      have hz1' := hz0
      have hz1'' := hz1
      have hd1 := hd0
      have hr1 := hr0
      refine ⟨_, rfl, b, _, _, _, rfl, rfl, SqL.of hb1, (atI_nat (j := 1) rfl), _, _, rfl, rfl, _, rfl, ?_⟩
      refine ite2 (fun e3 => ?_) (fun e3 => ?_)
      · refine ⟨_, rfl, b, _, _, _, rfl, rfl, SqL.of hb1, (atI_nat (j := 1) rfl), .inl ⟨_, rfl, ?_⟩⟩
        refine ⟨_, rfl, _, _, rfl, rfl, (by show (0 : Int) < n; omega), ?_⟩
        refine ⟨_, rfl, b, _, _, _, rfl, rfl, SqL.of hb1, (atI_nat (j := 1) rfl), _, rfl, _, _, rfl, rfl, wide_div (b := 85) (by show (0 : Int) < n; omega) (by show n.natAbs < 2 ^ 85; omega) (by decide) (by decide), ?_⟩
        refine ⟨_, rfl, b, _, _, 1, rfl, rfl, hb1, ix_at (j := 1) (by simp), ?_⟩
        refine ⟨_, rfl, ?_⟩
        exact k1 (z :: (d / n) :: r) _ ⟨_, _, _, rfl, hz1', hz1'', Int.ediv_nonneg hd1 (by omega), hr1⟩ (Int.emod_nonneg _ (by omega)) (Int.emod_lt_of_pos _ (by omega))
      · refine ⟨_, rfl, b, _, _, _, rfl, rfl, SqL.of hb1, (atI_nat (j := 0) rfl), _, _, rfl, rfl, .inl ⟨by show -(2 ^ 64) < z; omega, by show z < 2 ^ 64; omega⟩, .inl ⟨_, rfl, ?_⟩⟩
        refine ⟨_, _, rfl, rfl, (by show (0 : Int) < 2147483647; decide), ?_⟩
        refine ⟨_, rfl, b, _, _, 0, rfl, rfl, hb1, ix_at (j := 0) (by simp), ?_⟩
        refine ⟨_, rfl, b, _, _, _, rfl, rfl, SqL.of upd_same, (atI_nat (j := 0) rfl), _, _, rfl, rfl, ⟨by decide, by decide⟩, .inl ⟨_, rfl, ?_⟩⟩
        refine ⟨_, rfl, _, _, rfl, rfl, (by show (0 : Int) < n; omega), ?_⟩
        exact k1 (z * 48271 % 2147483647 :: d :: r) _ (BagOk.put0 _ hd1 hr1) (Int.emod_nonneg _ (by omega)) (Int.emod_lt_of_pos _ (by omega))
end
end Dl

namespace Dl
open PySem L2
theorem Same.upd_new {H : Hp} {a : Addr} {o : HO} (h : H a = none) : Same H (upd H a o) := fun b u e => by
  rw [upd_ne (ne_of_none e h)]; exact e
def spBag (K : PySem.W.Frag) : Sp := fun vs H Q _ => ∃ (a : Addr) (ns : List Int), vs = [.ref a] ∧ SqL K H a (ns.map V.int) ∧ ns.length ≤ 63 ∧
  ∀ (H' : Hp) (p : Addr) (L : List Int), Same H H' → H p = none → H' p = some (.lst (L.map V.int)) → BagOk L → Q (.ref p) H'
section
variable {P : Program} {w : World} {K : PySem.W.Frag} {mg : Str → Option Value} {base : Heap}
theorem scBag : FnScope ["_law_script", "_law_cell"] ["_law_script"] (defScope sBag) := ⟨rfl, rfl, rfl, by decide +kernel, rfl, by decide +kernel, by decide +kernel⟩
theorem ok_bag {f : Addr} {fd : FuncData} (F : Fun K "_law_bag" "_law_bag" sBag f fd) (T : TxtB mg) : FnOk P w K mg base CX0 1 f fd ["_law_script"] (spBag K) := by
  refine F.ok scBag (fun vs H Q E h => ?_) (fun cdv A outer s H vs Q E hr h => ?_)
  · obtain ⟨b, L, rfl, _⟩ := h
    rfl
  · obtain ⟨a, ns, rfl, hS, hlen, k⟩ := h
    refine ⟨_, pss_one (ps_ret (pe_op op_cat (pe_lst (pa_cons pe_int (pa_cons pe_int pa_nil)))
      (pe_lc (own := [("_law_cell", 1)]) (g := gName 1) (tt := tYes) rfl scBag.nd (pi_list (pe_slice sl_list (pv 0) po_none (po_some pe_int))) (blkOk_by (N := ["_law_script", "_law_cell"]) (sc := defScope sBag) (by decide +kernel))
        (fun _ _ _ _ _ => pg_name (i := 1) scBag.nd rfl (Or.inl rfl)) (fun _ _ _ _ _ => pts_nil) (fun _ _ _ _ _ => pe_callB call_abs (by rfl) T.abs (by decide +kernel) (pa_cons (pv 1) pa_nil))))), ?_⟩
    refine ⟨by show 2 ≤ sizeLine; decide, fun l hl => ?_⟩
    refine ⟨_, rfl, 63, rfl, a, _, rfl, Same.seq (Same.upd_new hl) hS, fun q hq => ?_⟩
    have hcut : ∃ ms : List Int, cutV (ns.map V.int) none (some 63) = ms.map V.int ∧ ms.length ≤ 63 := by
      refine ⟨(ns.drop (HT.sIx (ns.map V.int).length 0 none)).take (HT.sIx (ns.map V.int).length (ns.map V.int).length (some 63) - HT.sIx (ns.map V.int).length 0 none), ?_, ?_⟩
      · unfold cutV
        rw [← List.map_drop, ← List.map_take]
      · rw [List.length_take, List.length_drop]
        omega
    obtain ⟨ms, em, hm⟩ := hcut
    rw [em]
    refine ⟨q, rfl, ⟨_, SqL.of upd_same⟩, fun D hD => lc_list (xs := ms.map V.int) (fun i H' => ∃ M : List Int, H' = upd (upd (upd H l (.lst [.int 0, .int 0])) q (.lst (ms.map V.int))) D (.lst (M.map V.int)) ∧ M.length = i ∧ ∀ x ∈ M, 0 ≤ x)
      ⟨[], rfl, rfl, fun x hx => absurd hx (by simp)⟩ ?_ ?_ ?_⟩
    · rintro i H' _ ⟨M, rfl, _, _⟩
      have nqD : q ≠ D := ne_of_none (H := upd (upd H l (.lst [.int 0, .int 0])) q (.lst (ms.map V.int))) upd_same hD
      exact SqL.of (by rw [upd_ne nqD]; exact upd_same)
    · rintro i x H' hi ⟨M, rfl, hM, hx⟩
      rw [List.getElem?_map] at hi
      cases e : ms[i]? with
      | none => rw [e] at hi; cases hi
      | some u =>
      rw [e] at hi
      obtain rfl : V.int u = x := Option.some.inj hi
      refine ⟨rfl, _, rfl, u, rfl, _, upd_same, ?_, M ++ [if u < 0 then -u else u], ?_, ?_, ?_⟩
      · rw [List.length_map, hM]
        have := (List.getElem?_eq_some_iff.mp e).1
        exact small1000 (by omega)
      · rw [upd_upd, List.map_append]
        rfl
      · rw [List.length_append, hM]
        rfl
      · intro y hy
        rcases List.mem_append.mp hy with h | h
        · exact hx y h
        · obtain rfl := List.mem_singleton.mp h
          split <;> omega
    · rintro H' ⟨M, rfl, hM, hx⟩
      have nlq : l ≠ q := fun e => by rw [e, upd_same] at hq; cases hq
      have nlD : l ≠ D := fun e => by rw [← e, upd_ne nlq, upd_same] at hD; cases hD
      rw [List.length_map] at hM
      refine ⟨l, D, _, _, rfl, rfl, by rw [upd_ne nlD, upd_ne nlq, upd_same], upd_same, ?_, fun p hp => ?_⟩
      · rw [List.length_map]
        exact Nat.le_of_lt (small1000 (by simp; omega))
      · have hp0 : H p = none := by
          have npD : p ≠ D := fun e => by rw [e, upd_same] at hp; cases hp
          have npq : p ≠ q := fun e => by rw [upd_ne npD, e, upd_same] at hp; cases hp
          have npl : p ≠ l := fun e => by rw [upd_ne npD, upd_ne npq, e, upd_same] at hp; cases hp
          rw [upd_ne npD, upd_ne npq, upd_ne npl] at hp
          exact hp
        have s1 : Same H (upd H l (.lst [.int 0, .int 0])) := Same.upd_new hl
        refine k _ p (0 :: 0 :: M) ((s1.trans (Same.upd_new hq)).trans ((Same.upd_new hD).trans (Same.upd_new hp))) hp0 (by rw [upd_same]; rfl) ⟨0, 0, M, rfl, by decide, by decide, by decide, hx⟩
end
end Dl

namespace Dl
open PySem L2
/-! ### the own errors: class C, its __init__ at fI, its one field f -/
structure ErrC (K : PySem.W.Frag) (mg : Str → Option Value) (x f : Str) (C fI : Addr) : Prop where
  oex : OexC K C
  gC : mg x = some (.ref C)
  iC : PySem.W.findIn K (.ref C) "__init__" = some (some (.ref fI))
  tI : PySem.W.typeIn K (.ref fI) = some (.type "function")
  no : PySem.W.findIn K (.ref C) f = some none
/-- self.f = v -/
def spEI (K : PySem.W.Frag) (C : Addr) (f : Str) : Sp := fun vs H Q _ => ∃ (a : Addr) (v : V), vs = [.ref a, v] ∧ H a = some (exo a C none) ∧ ∀ dx, H dx = none → dx ≠ a → Q .non (upd (upd H dx (exd dx [(f, v)])) a (exo a C (some dx)))
section
variable {P : Program} {w : World} {K : PySem.W.Frag} {mg : Str → Option Value} {base : Heap}
theorem scInv : FnScope ["self", "name"] ["self", "name"] (defScope sInv) := ⟨rfl, rfl, rfl, by decide +kernel, rfl, by decide +kernel, by decide +kernel⟩
theorem ok_einv {C fI : Addr} {fd : FuncData} {x : Str} (F : Fun K "__init__" "InvalidName.__init__" sInv fI fd) (T : ErrC K mg x "name" C fI) : FnOk P w K mg base CX0 1 fI fd ["self", "name"] (spEI K C "name") := by
  refine F.ok scInv (fun vs H Q E h => ?_) (fun cdv A outer s H vs Q E hr h => ?_)
  · obtain ⟨b, n, rfl, _⟩ := h
    rfl
  · obtain ⟨a, v, rfl, ha, k⟩ := h
    exact ⟨_, pss_one (ps_ost (pv 0) (pv 1)), _, rfl, _, rfl, a, C, rfl, T.oex, T.no, .inl ⟨ha, fun dx h1 h2 => k dx h1 h2⟩⟩
theorem scDup : FnScope ["self", "name"] ["self", "name"] (defScope sDup) := ⟨rfl, rfl, rfl, by decide +kernel, rfl, by decide +kernel, by decide +kernel⟩
theorem ok_edup {C fI : Addr} {fd : FuncData} {x : Str} (F : Fun K "__init__" "DuplicateName.__init__" sDup fI fd) (T : ErrC K mg x "name" C fI) : FnOk P w K mg base CX0 1 fI fd ["self", "name"] (spEI K C "name") := by
  refine F.ok scDup (fun vs H Q E h => ?_) (fun cdv A outer s H vs Q E hr h => ?_)
  · obtain ⟨b, n, rfl, _⟩ := h
    rfl
  · obtain ⟨a, v, rfl, ha, k⟩ := h
    exact ⟨_, pss_one (ps_ost (pv 0) (pv 1)), _, rfl, _, rfl, a, C, rfl, T.oex, T.no, .inl ⟨ha, fun dx h1 h2 => k dx h1 h2⟩⟩
theorem scUnk : FnScope ["self", "name"] ["self", "name"] (defScope sUnk) := ⟨rfl, rfl, rfl, by decide +kernel, rfl, by decide +kernel, by decide +kernel⟩
theorem ok_eunk {C fI : Addr} {fd : FuncData} {x : Str} (F : Fun K "__init__" "UnknownName.__init__" sUnk fI fd) (T : ErrC K mg x "name" C fI) : FnOk P w K mg base CX0 1 fI fd ["self", "name"] (spEI K C "name") := by
  refine F.ok scUnk (fun vs H Q E h => ?_) (fun cdv A outer s H vs Q E hr h => ?_)
  · obtain ⟨b, n, rfl, _⟩ := h
    rfl
  · obtain ⟨a, v, rfl, ha, k⟩ := h
    exact ⟨_, pss_one (ps_ost (pv 0) (pv 1)), _, rfl, _, rfl, a, C, rfl, T.oex, T.no, .inl ⟨ha, fun dx h1 h2 => k dx h1 h2⟩⟩
theorem scMany : FnScope ["self", "limit"] ["self", "limit"] (defScope sMany) := ⟨rfl, rfl, rfl, by decide +kernel, rfl, by decide +kernel, by decide +kernel⟩
theorem ok_emany {C fI : Addr} {fd : FuncData} {x : Str} (F : Fun K "__init__" "TooMany.__init__" sMany fI fd) (T : ErrC K mg x "limit" C fI) : FnOk P w K mg base CX0 1 fI fd ["self", "limit"] (spEI K C "limit") := by
  refine F.ok scMany (fun vs H Q E h => ?_) (fun cdv A outer s H vs Q E hr h => ?_)
  · obtain ⟨b, n, rfl, _⟩ := h
    rfl
  · obtain ⟨a, v, rfl, ha, k⟩ := h
    exact ⟨_, pss_one (ps_ost (pv 0) (pv 1)), _, rfl, _, rfl, a, C, rfl, T.oex, T.no, .inl ⟨ha, fun dx h1 h2 => k dx h1 h2⟩⟩
end
/-- the way out of raise C(v): what is to be shown for the error's reading, from what the def's promise says -/
theorem raise_end {C : Addr} {f : Str} {K : PySem.W.Frag} {H : Hp} {v : V} {Q : XK} (q : ∀ d H', Same H H' → H d = none → H' d = some (.xd [(f, v)]) → Q (.ref C) (some d) H') :
    ([v] : List V).length ≤ 1000 ∧ ∀ a, H a = none → spEI K C f (.ref a :: ([v] ++ [])) (upd H a (exo a C none))
      (fun u H2 => u = .non ∧ ∃ (d : Addr) (fs : List (Str × V)), H2 a = some (exo a C (some d)) ∧ H2 d = some (exd d fs) ∧ H d = none ∧ Q (.ref C) (some d) (upd (del H2 a) d (.xd fs))) (fun _ _ _ => False) := by
  refine ⟨by simp, fun a ha => ⟨a, v, rfl, upd_same, fun dx hx ne => ⟨rfl, dx, [(f, v)], upd_same, ?_, ?_, ?_⟩⟩⟩
  · rw [upd_ne ne, upd_same]
  · rw [upd_ne ne] at hx
    exact hx
  · rw [upd_ne ne] at hx
    refine q dx _ (fun b o e => ?_) hx upd_same
    have nb : b ≠ dx := ne_of_none e hx
    have na : b ≠ a := ne_of_none e ha
    rw [upd_ne nb, del_ne na, upd_ne na, upd_ne nb, upd_ne na]
    exact e
end Dl

namespace Dl
open PySem L2
/-! ### names -/
def SG : Str := "abcdefghijklmnopqrstuvwxyz0123456789"
def validN (z : Str) : Bool := decide (1 ≤ z.length) && (decide (z.length ≤ 12) && z.cps.toList.all fun c => decide (c ∈ SG.cps.toList))
def isNm : V → Bool
  | .str z => validN z
  | _ => false
/-- what may be passed as a name: a text, an int, None, a list -/
def NmOk (H : Hp) : V → Prop
  | .str z => z.length ≤ sizeLine
  | .int _ => True
  | .non => True
  | .ref p => ∃ xs, H p = some (.lst xs)
  | _ => False
structure TxtN (mg : Str → Option Value) : Prop where
  isi : mg "isinstance" = none
  str : mg "str" = none
  len : mg "len" = none
  all : mg "all" = none
  longest : ∃ t, mg "LONGEST" = some (.int 12 t)
  signs : ∃ t, mg "SIGNS" = some (.str SG t)
theorem nm_type (K : PySem.W.Frag) {H : Hp} {v : V} (hv : NmOk H v) : ∃ (ty : String) (b : Bool), TyX K H v (.type ty) ∧ PySem.W.kitOne K (.type ty) (.type "str") = some b ∧ ((b = false ∧ isNm v = false ∧ ∀ z, v ≠ .str z) ∨ (b = true ∧ ∃ z, v = .str z ∧ z.length ≤ sizeLine)) := by
  cases v with
  | int i => exact ⟨"int", false, .base (.int i), kit_ty (by decide +kernel), .inl ⟨rfl, rfl, fun z h => by cases h⟩⟩
  | non => exact ⟨"NoneType", false, .base .non, kit_ty (by decide +kernel), .inl ⟨rfl, rfl, fun z h => by cases h⟩⟩
  | ref p => obtain ⟨xs, hp⟩ := hv; exact ⟨"list", false, .base (.lst hp), kit_ty (by decide +kernel), .inl ⟨rfl, rfl, fun z h => by cases h⟩⟩
  | str z => exact ⟨"str", true, .base (.str z), kit_ty (by decide +kernel), .inr ⟨rfl, z, rfl, hv⟩⟩
  | bl _ => exact hv.elim
  | byt _ => exact hv.elim
  | flt _ => exact hv.elim
  | ty _ => exact hv.elim
def spIsName (K : PySem.W.Frag) : Sp := fun vs H Q _ => ∃ v : V, vs = [v] ∧ NmOk H v ∧ ∀ H', Same H H' → Q (.bl (isNm v)) H'
theorem int_le_nat {a b : Nat} : decide ((a : Int) ≤ (b : Int)) = decide (a ≤ b) := by simp
section
variable {P : Program} {w : World} {K : PySem.W.Frag} {mg : Str → Option Value} {base : Heap}
theorem scIsName : FnScope ["value", "sign"] ["value"] (defScope sIsName) := ⟨rfl, rfl, rfl, by decide +kernel, rfl, by decide +kernel, by decide +kernel⟩
theorem ok_isname {f : Addr} {fd : FuncData} (F : Fun K "is_name" "is_name" sIsName f fd) (T : TxtN mg) : FnOk P w K mg base CX0 1 f fd ["value"] (spIsName K) := by
  refine F.ok scIsName (fun vs H Q E h => ?_) (fun cdv A outer s H vs Q E hr h => ?_)
  · obtain ⟨b, rfl, _⟩ := h
    rfl
  · obtain ⟨v, rfl, hv, k⟩ := h
    obtain ⟨t1, hL⟩ := T.longest
    obtain ⟨t2, hG⟩ := T.signs
    refine ⟨_, pss_cons (ps_if (PW.pt (pw_or (pt_not (pt_val (pe_callB call_isi (by rfl) T.isi (by decide +kernel) (pa_cons (pv 0) (pa_cons (pe_bltn (v := .ty "str") (by rfl) T.str (by decide +kernel) rfl) pa_nil)))))
        (pw_or1 (pt_not (pt_chain op_le op_le pe_int (pe_callB call_len_str (by rfl) T.len PySem.boot_len (pa_cons (pv 0) pa_nil)) (pe_glob (v := .int 12) (by rfl) hL ⟨_, rfl⟩))))))
        (pss_one (ps_ret pe_bl)) pss_nil)
      (pss_one (ps_ret (pe_callB (cr_all rfl) (by rfl) T.all (by decide +kernel) (pa_cons
        (pe_lc (own := [("sign", 1)]) (g := gName 1) (tt := tYes) rfl scIsName.nd (pi_str (pv 0)) (blkOk_by (N := ["value", "sign"]) (sc := defScope sIsName) (by decide +kernel))
          (fun _ _ _ _ _ => pg_name (i := 1) scIsName.nd rfl (Or.inl rfl)) (fun _ _ _ _ _ => pts_nil) (fun _ _ _ _ _ => pe_cmpR op_in_sign (pv 1) (pe_glob (v := .str SG) (by rfl) hG ⟨_, rfl⟩) (by rfl)))
        pa_nil)))), ?_⟩
    obtain ⟨ty, b, h1, h2, h3⟩ := nm_type K hv
    refine ⟨_, rfl, v, _, _, _, b, rfl, ClsV.ty "str", h1, h2, b, rfl, ?_⟩
    rcases h3 with ⟨rfl, h3, _⟩ | ⟨rfl, z, rfl, hz⟩
    · refine iteT (?_)
      show Q (.bl false) H
      rw [← h3]
      exact k H (Same.refl H)
    · refine iteF (?_)
      refine ⟨_, rfl, z, rfl, hz, _, _, rfl, rfl, _, rfl, ?_⟩
      refine ite2 (fun e1 => ?_) (fun e1 => ?_)
      · have e1' : (1 : Nat) ≤ z.length := by
          have q : (1 : Int) ≤ (z.length : Nat) := of_decide_eq_true e1
          omega
        refine ⟨_, _, rfl, rfl, _, rfl, ?_⟩
        by_cases e2 : z.length ≤ 12
        · have e2' : decide (((z.length : Nat) : Int) ≤ (12 : Int)) = true := decide_eq_true (by omega)
          rw [e2']
          refine iteF (?_)
          refine ⟨_, rfl, z, rfl, fun D hD => lc_it (w := walk_str) (fun i H' => H' = upd H D (.lst (((z.cps.toList.take i).map fun c => decide (c ∈ SG.cps.toList)).map V.bl)) ∧ True) ⟨rfl, trivial⟩ (fun _ _ _ _ => trivial) ?_ ?_⟩
          · rintro i x H' H2 hi ⟨rfl, _⟩ ⟨rfl, c, hc, rfl⟩
            refine ⟨rfl, _, rfl, c, SG, rfl, rfl, _, upd_same, ?_, ?_, trivial⟩
            · rw [List.length_map, List.length_map, List.length_take]
              have ez : z.cps.size = z.length := rfl
              exact small1000 (by omega)
            · have hc2 : z.cps.toList[i]? = some c := by rw [Array.getElem?_toList]; exact hc
              rw [upd_upd, List.take_succ, hc2]
              simp
          · rintro H' ⟨rfl, _⟩
            refine ⟨D, _, rfl, SqL.of upd_same, ?_⟩
            have q := k _ (Same.upd_new hD (o := .lst (((z.cps.toList.take z.cps.size).map fun c => decide (c ∈ SG.cps.toList)).map V.bl)))
            have e : isNm (.str z) = ((z.cps.toList.take z.cps.size).map fun c => decide (c ∈ SG.cps.toList)).all id := by
              show validN z = _
              unfold validN
              rw [decide_eq_true e1', decide_eq_true e2, List.take_of_length_le (by simp)]
              simp [List.all_map]
            rw [e] at q
            exact q
        · have e2' : decide (((z.length : Nat) : Int) ≤ (12 : Int)) = false := decide_eq_false (by omega)
          rw [e2']
          refine iteT (?_)
          have q := k H (Same.refl H)
          have e : isNm (.str z) = false := by
            show validN z = _
            unfold validN
            rw [decide_eq_false e2]
            simp
          rw [e] at q
          exact q
      · have q := k H (Same.refl H)
        have e1' : ¬ (1 : Nat) ≤ z.length := fun x => e1 (decide_eq_true (by
          show (1 : Int) ≤ (z.length : Nat)
          omega))
        have e : isNm (.str z) = false := by
          show validN z = _
          unfold validN
          rw [decide_eq_false e1']
          rfl
        rw [e] at q
        exact ⟨_, rfl, iteT q⟩
end
end Dl

namespace Dl
open PySem L2
/-- a def that stands at a global name and keeps its promise -/
def Dfn (P : Program) (w : World) (K : PySem.W.Frag) (mg : Str → Option Value) (base : Heap) (CX : CXT) (k : Nat) (x : Str) (ps : List Str) (sp : Sp) : Prop :=
  ∃ f fd, mg x = some (.ref f) ∧ PySem.W.keepIn K (.ref f) = true ∧ Binds K fd ps [] ∧ FnOk P w K mg base CX k f fd ps sp
/-- an own error with its __init__ -/
def Ex (P : Program) (w : World) (K : PySem.W.Frag) (mg : Str → Option Value) (base : Heap) (x f : Str) (C : Addr) : Prop :=
  ∃ fI fd, ErrC K mg x f C fI ∧ Binds K fd ["self", f] [] ∧ FnOk P w K mg base CX0 1 fI fd ["self", f] (spEI K C f)
/-- the classes of the errors -/
structure Cs where
  inv : Addr
  dup : Addr
  unk : Addr
  many : Addr
inductive Er where
  | inv (v : V)
  | dup (v : V)
  | unk (v : V)
  | many
/-- an error with one field leaves: what the caller wants of it -/
def Out1 (C : Addr) (f : Str) (v : V) (H : Hp) (E : XK) : Prop := ∀ d H', Same H H' → H d = none → H' d = some (.xd [(f, v)]) → E (.ref C) (some d) H'
def Out (C : Cs) (H : Hp) (E : XK) : Er → Prop
  | .inv v => Out1 C.inv "name" v H E
  | .dup v => Out1 C.dup "name" v H E
  | .unk v => Out1 C.unk "name" v H E
  | .many => Out1 C.many "limit" (.int 24) H E
theorem Out1.of {C : Addr} {f : Str} {v : V} {H H1 : Hp} {E : XK} (s : Same H H1) (h : Out1 C f v H E) : Out1 C f v H1 E := fun d H' s' n e => h d H' (s.trans s') (s.free n) e
theorem Out.of {C : Cs} {H H1 : Hp} {E : XK} {e : Er} (s : Same H H1) (h : Out C H E e) : Out C H1 E e := by
  cases e <;> exact Out1.of s h
theorem Out1.imp {C : Addr} {f : Str} {v : V} {H : Hp} {E E' : XK} (i : ∀ c d H', E c d H' → E' c d H') (h : Out1 C f v H E) : Out1 C f v H E' := fun d H' s' n e => i _ _ _ (h d H' s' n e)
/-- check_new's word -/
def chkNew (v : V) (es : List Str) : Option Er :=
  match v with
  | .str z => if validN z then (if z ∈ es then some (.dup v) else none) else some (.inv v)
  | _ => some (.inv v)
/-- earlier is a list, a tuple or a dict of texts -/
def spNewL (K : PySem.W.Frag) (C : Cs) : Sp := fun vs H Q E => ∃ (v : V) (p : Addr) (es : List Str), vs = [v, .ref p] ∧ NmOk H v ∧ H p = some (.lst (es.map V.str)) ∧ (∀ H', Same H H' → chkNew v es = none → Q .non H') ∧ ∀ e, chkNew v es = some e → Out C H E e
def spNewD (K : PySem.W.Frag) (C : Cs) : Sp := fun vs H Q E => ∃ (v : V) (p : Addr) (kvs : List (Key × V)) (es : List Str), vs = [v, .ref p] ∧ NmOk H v ∧ H p = some (.dK kvs) ∧ kvs.map (·.1) = es.map Sum.inr ∧ (∀ H', Same H H' → chkNew v es = none → Q .non H') ∧ ∀ e, chkNew v es = some e → Out C H E e
theorem inV_str {z : Str} {es : List Str} : inV (.str z) (es.map V.str) = decide (z ∈ es) := by
  unfold inV
  rw [List.any_map]
  induction es with
  | nil => simp
  | cons a r ih =>
    rw [List.any_cons, ih]
    have e : ((fun y => eqV y (V.str z)) ∘ V.str) a = decide (a = z) := by
      show eqV (V.str a) (V.str z) = decide (a = z)
      unfold eqV
      first | rfl | simp
    rw [e]
    by_cases h : a = z
    · subst h; simp
    · have h2 : ¬ z = a := fun q => h q.symm
      simp [h, h2]
theorem flat_strs (es : List Str) : (es.map V.str).all flatV = true := by
  rw [List.all_map]
  induction es with
  | nil => rfl
  | cons a r ih => rw [List.all_cons, ih]; rfl
/-- check_name(name): nothing happens if it is a valid name, else InvalidName -/
def spCheckName (C : Cs) : Sp := fun vs H Q E => ∃ v : V, vs = [v] ∧ NmOk H v ∧ (∀ H', Same H H' → isNm v = true → Q .non H') ∧ (isNm v = false → Out C H E (.inv v))
section
variable {P : Program} {w : World} {K : PySem.W.Frag} {mg : Str → Option Value} {base : Heap} {C : Cs}
theorem scCheckName : FnScope ["name"] ["name"] (defScope sCheckName) := ⟨rfl, rfl, rfl, by decide +kernel, rfl, by decide +kernel, by decide +kernel⟩
theorem ok_checkname {f : Addr} {fd : FuncData} (F : Fun K "check_name" "check_name" sCheckName f fd) (gN : Dfn P w K mg base CX0 1 "is_name" ["value"] (spIsName K)) (xI : Ex P w K mg base "InvalidName" "name" C.inv) :
    FnOk P w K mg base (L2.CX P w) 3 f fd ["name"] (spCheckName C) := by
  obtain ⟨fN, dN, mN, kN, bN, GN⟩ := gN
  obtain ⟨fI, dI, TI, bI, GI⟩ := xI
  refine F.okX scCheckName (fun vs H Q E h => ?_) (fun cdv A outer s H vs Q E hr h => ?_)
  · obtain ⟨b, rfl, _⟩ := h
    rfl
  · obtain ⟨v, rfl, hv, k, kx⟩ := h
    have hr1 : Room 1 _ := hr.mono (by decide)
    have hr2 : Room 2 _ := hr.mono (by decide)
    refine ⟨_, pss_one (ps_if (pt_not (pt_val (pe_call GN hr1 (by rfl) mN kN bN .nil pass0 (pa_cons (pv 0) pa_nil))))
        (pss_one (ps_raise rfl (takes_of rfl rfl rfl rfl) (pmk_oex TI.oex TI.iC TI.tI GI hr2 bI .nil pass0 (by rfl) TI.gC (pa_cons (pv 0) pa_nil)))) pss_nil), ?_⟩
    refine ⟨_, rfl, v, rfl, hv, fun H1 s1 => ⟨_, rfl, ?_⟩⟩
    by_cases hn : isNm v = true
    · rw [hn]
      exact iteF (k H1 s1 hn)
    · have hn' : isNm v = false := by simpa using hn
      rw [hn']
      exact iteT ⟨_, rfl, raise_end (Out.of s1 (kx hn'))⟩
theorem scCheckNew : FnScope ["name", "earlier"] ["name", "earlier"] (defScope sCheckNew) := ⟨rfl, rfl, rfl, by decide +kernel, rfl, by decide +kernel, by decide +kernel⟩
theorem isNm_str {v : V} (h : isNm v = true) : ∃ z, v = .str z ∧ validN z = true := by
  cases v with
  | str z => exact ⟨z, rfl, h⟩
  | _ => cases h
theorem isSome_valV {kvs : List (Key × V)} {es : List Str} (h : kvs.map (·.1) = es.map Sum.inr) {z : Str} : (valV kvs (Sum.inr z)).isSome = decide (z ∈ es) := by
  unfold valV
  rw [Option.isSome_map, List.isSome_find?]
  have e : kvs.any (fun kv => decide (kv.1 = (Sum.inr z : Key))) = (kvs.map (·.1)).any (fun k => decide (k = (Sum.inr z : Key))) := by rw [List.any_map]; rfl
  rw [e, h, List.any_map]
  clear h e
  induction es with
  | nil => simp
  | cons a r ih =>
    rw [List.any_cons, ih]
    by_cases q : a = z
    · subst q; simp
    · have q2 : ¬ z = a := fun x => q x.symm
      simp [q, q2]
theorem ok_newL {f : Addr} {fd : FuncData} (F : Fun K "check_new" "check_new" sCheckNew f fd) (gN : Dfn P w K mg base (L2.CX P w) 3 "check_name" ["name"] (spCheckName C)) (xD : Ex P w K mg base "DuplicateName" "name" C.dup) :
    FnOk P w K mg base (L2.CX P w) 4 f fd ["name", "earlier"] (spNewL K C) := by
  obtain ⟨fN, dN, mN, kN, bN, GN⟩ := gN
  obtain ⟨fD, dD, TD, bD, GD⟩ := xD
  refine F.okX scCheckNew (fun vs H Q E h => ?_) (fun cdv A outer s H vs Q E hr h => ?_)
  · obtain ⟨b, n, es, rfl, _⟩ := h
    rfl
  · obtain ⟨v, p, es, rfl, hv, hp, k, kx⟩ := h
    have hr3 : Room 3 _ := hr.mono (by decide)
    have hr2 : Room 2 _ := hr.mono (by decide)
    refine ⟨_, pss_cons (ps_expr (pe_call GN hr3 (by rfl) mN kN bN .nil (passes_call (takes_of rfl rfl rfl rfl) (fun _ _ _ _ h => h)) (pa_cons (pv 0) pa_nil)))
      (pss_one (ps_if (pt_cmpR op_in_seq (pv 0) (pv 1) (by rfl))
        (pss_one (ps_raise rfl (takes_of rfl rfl rfl rfl) (pmk_oex TD.oex TD.iC TD.tI GD hr2 bD .nil pass0 (by rfl) TD.gC (pa_cons (pv 0) pa_nil)))) pss_nil)), ?_⟩
    refine ⟨_, rfl, v, rfl, hv, fun H1 s1 hn => ?_, fun hn' => ?_⟩
    · obtain ⟨z, rfl, hz⟩ := isNm_str hn
      refine ⟨_, rfl, _, rfl, p, _, rfl, .inl (SqL.of (s1 _ _ hp)), rfl, flat_strs es, _, rfl, ?_⟩
      show if (inV (.str z) (es.map V.str)) = true then _ else _
      by_cases hm : z ∈ es
      · rw [inV_str, decide_eq_true hm]
        refine iteT (?_)
        exact ⟨_, rfl, raise_end (Out.of s1 (kx (.dup (.str z)) (by simp [chkNew, hz, hm])))⟩
      · rw [inV_str, decide_eq_false hm]
        refine iteF (?_)
        exact k H1 s1 (by simp [chkNew, hz, hm])
    · have hc : chkNew v es = some (.inv v) := by
        cases v with
        | str z =>
          have hz : validN z = false := hn'
          simp [chkNew, hz]
        | _ => rfl
      exact kx _ hc
theorem ok_newD {f : Addr} {fd : FuncData} (F : Fun K "check_new" "check_new" sCheckNew f fd) (gN : Dfn P w K mg base (L2.CX P w) 3 "check_name" ["name"] (spCheckName C)) (xD : Ex P w K mg base "DuplicateName" "name" C.dup) :
    FnOk P w K mg base (L2.CX P w) 4 f fd ["name", "earlier"] (spNewD K C) := by
  obtain ⟨fN, dN, mN, kN, bN, GN⟩ := gN
  obtain ⟨fD, dD, TD, bD, GD⟩ := xD
  refine F.okX scCheckNew (fun vs H Q E h => ?_) (fun cdv A outer s H vs Q E hr h => ?_)
  · obtain ⟨b, n, kvs, es, rfl, _⟩ := h
    rfl
  · obtain ⟨v, p, kvs, es, rfl, hv, hp, hkv, k, kx⟩ := h
    have hr3 : Room 3 _ := hr.mono (by decide)
    have hr2 : Room 2 _ := hr.mono (by decide)
    refine ⟨_, pss_cons (ps_expr (pe_call GN hr3 (by rfl) mN kN bN .nil (passes_call (takes_of rfl rfl rfl rfl) (fun _ _ _ _ h => h)) (pa_cons (pv 0) pa_nil)))
      (pss_one (ps_if (pt_cmp (pc_din (hu_of hr) (pv 0) (pv 1)))
        (pss_one (ps_raise rfl (takes_of rfl rfl rfl rfl) (pmk_oex TD.oex TD.iC TD.tI GD hr2 bD .nil pass0 (by rfl) TD.gC (pa_cons (pv 0) pa_nil)))) pss_nil)), ?_⟩
    refine ⟨_, rfl, v, rfl, hv, fun H1 s1 hn => ?_, fun hn' => ?_⟩
    · obtain ⟨z, rfl, hz⟩ := isNm_str hn
      refine ⟨_, rfl, _, rfl, p, _, rfl, DGet.k (k := Sum.inr z) (s1 _ _ hp), _, rfl, ?_⟩
      by_cases hm : z ∈ es
      · rw [isSome_valV hkv, decide_eq_true hm]
        refine iteT (?_)
        exact ⟨_, rfl, raise_end (Out.of s1 (kx (.dup (.str z)) (by simp [chkNew, hz, hm])))⟩
      · rw [isSome_valV hkv, decide_eq_false hm]
        refine iteF (?_)
        exact k H1 s1 (by simp [chkNew, hz, hm])
    · have hc : chkNew v es = some (.inv v) := by
        cases v with
        | str z =>
          have hz : validN z = false := hn'
          simp [chkNew, hz]
        | _ => rfl
      exact kx _ hc
end
end Dl

/-! tuple(d) of a dict: my own rule -/
namespace Dl
open PySem PySem.Spec PyProof.Rows PySem.W PySem.Calls
section
variable {prog : Program} {w : World} {A : Around} {E : Value → Shared → Prop} {s : Shared} {d : Addr} {n : Nat} {P : Nat → Value → Prop} {OK : Heap → Prop}
theorem collect_src {Q : List Value → Shared → Prop} (K : KdlSrc prog w "dict" d d n P OK) (hh : A.handled = none) (hok : OK s.heap) (hn : n ≤ sizeLine)
    (hQ : ∀ (h' : Heap) (tk : Nat) (acc : Array Value), (∀ b o, s.heap.get? b = some o → h'.get? b = some o) → ItemsOf P acc n → Q acc.toList { s with heap := h', toks := tk }) :
    wpAny (model prog w) A (collect (.ref d)) Q E s := by
  unfold collect
  refine wpAny_bind (wpAny_runValue (codeAny_builtin F.entry_proto_collect ?_))
  rw [Around.under_plainId F.plain_proto_collect _]
  show wpAny _ A.in1 (newList [] >>= fun l => again (.builtin "list.__iadd__" ⟨[l, .ref d], []⟩)) _ _ s
  refine wpAny_bind (wpAny_newObj_type ?_)
  refine wpAny_pure ⟨plainId_quiet F.plain_list_iadd _, codeAny_builtin F.entry_list_iadd ?_⟩
  rw [Around.under_plainId F.plain_list_iadd _]
  show wpAny _ A.in1 (Builtin.List.listExtendWith (.ref s.heap.objs.size) (.ref d) (.ref s.heap.objs.size)) _ _ _
  have hS : (s.heap.push { cls := .type "list", data := .seq ([] : List Value).toArray }).get? s.heap.objs.size = some { cls := .type "list", data := .seq #[] 0 } := Heap.get?_push_size _ rfl
  have hlt := K.there _ hok
  refine wpAny_mono (kdl_extend (A := A) (R := fun rr s' => rr = .ok (.ret (.ref s.heap.objs.size)) ∧ ∃ (h' : Heap) (tk : Nat) (acc : Array Value) (c' : Nat), s' = { s with heap := h', toks := tk } ∧
      (∀ b o, s.heap.get? b = some o → h'.get? b = some o) ∧ h'.get? s.heap.objs.size = some { cls := .type "list", dict := none, data := .seq acc c', slots := #[] } ∧ ItemsOf P acc n)
    (s := { s with heap := s.heap.push { cls := .type "list", data := .seq ([] : List Value).toArray } }) K hh (K.keep _ _ hok fun b _ o e => Heap.get?_push_of_some _ e) _ (Nat.ne_of_gt hlt.1) (Nat.ne_of_gt hlt.2) _ 0 hS
    (fun h' tk acc c' hk e hi => ⟨rfl, h', tk, acc, c', rfl, fun b o q => hk b o (Nat.ne_of_lt (Heap.lt_size q)) (Heap.get?_push_of_some _ q), e, hi⟩) hn) (fun fin s' h => ?_) (fun e s' h => ?_)
  · cases fin with
    | done f =>
      obtain ⟨e, h', tk, acc, c', rfl, hk, hS', hi⟩ := h
      cases e
      show wpAny _ A (load s.heap.objs.size >>= _) _ _ _
      exact wpAny_bind (wpAny_load hS' (wpAny_pure (hQ h' tk acc hk hi)))
    | again c' =>
      refine ⟨h.1, codeAny_mono h.2 fun rr s'' hr' => ?_⟩
      obtain ⟨rfl, h', tk, acc, c', rfl, hk, hS', hi⟩ := hr'
      show wpAny _ A (load s.heap.objs.size >>= _) _ _ _
      exact wpAny_bind (wpAny_load hS' (wpAny_pure (hQ h' tk acc hk hi)))
  · exact absurd h.1 (by simp)
theorem code_tuple_new_src {Q₁ : Value → Shared → Prop} (K : KdlSrc prog w "dict" d d n P OK) (hh : A.handled = none) (hok : OK s.heap) (hn : n ≤ sizeLine)
    (h : ∀ (h' : Heap) (tk : Nat) (acc : Array Value), (∀ b o, s.heap.get? b = some o → h'.get? b = some o) → ItemsOf P acc n →
      Q₁ (.ref h'.objs.size) { s with heap := h'.push { cls := .type "tuple", data := .seq acc }, toks := tk }) :
    codeAny (model prog w) A (.call (.builtin "tuple.__new__") ⟨[.type "tuple", .ref d], []⟩) (wants Q₁ E) s := by
  refine codeAny_of_tree ?_
  show wpAny _ A.in1 (do checkBuiltinCall "tuple.__new__" ⟨[.type "tuple", .ref d], []⟩; again (.builtin "tuple.__new__" ⟨[.type "tuple", .ref d], []⟩)) _ _ s
  refine wpAny_bind (wpAny_of_eq (F.newCall_tuple_1 _) (wpAny_pure ⟨plainId_quiet F.plain_tuple_new _, codeAny_builtin F.entry_tuple_new ?_⟩))
  rw [Around.under_plainId F.plain_tuple_new _]
  have hsub := sub_tuple_self
  have hinit := init_tuple_lookup
  have hmh := madeHere_tuple
  have hTI : s.TypeIs (.ref d) "dict" := K.type _ hok
  have hh1 : A.in1.handled = none := hh
  wp_walk using wpAny_typeOf hTI, collect_src (A := A.in1) K hh1 hok hn
  intro h' tk acc hk hacc
  show wpAny _ _ (Builtin.Tuple.tupleExact acc.toList.toArray >>= fun v => ret v) _ _ _
  unfold Builtin.Tuple.tupleExact
  refine wpAny_bind (wpAny_newObj_type ?_ (by show acc.toList.toArray.size ≤ sizeLine; simp only [Array.toArray_toList]; rw [hacc.1]; exact hn))
  refine wpAny_pure ?_
  have e : acc.toList.toArray = acc := by simp
  rw [e]
  exact h h' tk acc hk hacc
theorem call_tuple_src {Q : Value → Shared → Prop} (K : KdlSrc prog w "dict" d d n P OK) (hh : A.handled = none) (hok : OK s.heap) (hn : n ≤ sizeLine)
    (hQ : ∀ (h' : Heap) (tk : Nat) (acc : Array Value), (∀ b o, s.heap.get? b = some o → h'.get? b = some o) → ItemsOf P acc n →
      Q (.ref h'.objs.size) { s with heap := h'.push { cls := .type "tuple", data := .seq acc }, toks := tk }) :
    wpAny (model prog w) A (call (.type "tuple") [.ref d]) Q E s := by
  refine callType_codes (Q₁ := fun obj s₁ => s₁.TypeIs obj "tuple" ∧ Q obj s₁) F.called_tuple (F.typeCall_tuple_1 _) F.entry_object_init
    (code_tuple_new_src (A := A.in1) K hh hok hn fun h' tk acc hk hacc => ⟨⟨_, Heap.get?_push_size _ rfl, rfl⟩, hQ h' tk acc hk hacc⟩) fun obj s₁ h₁ => ?_
  exact ⟨h₁.1, F.args_object_init_2 obj _, object_init_meets F.called_tuple.init.lookup F.called_tuple.made (by decide) prog w A.in1 _ s₁ ⟨h₁.1, rfl, h₁.2⟩⟩
end
open L2
theorem call_tuple_dK {X : Cx} (hc : X.calm = true) : CallR X (.type "tuple") (fun xs H Q => ∃ p kvs, xs = [.ref p] ∧ H p = some (.dK kvs) ∧ ∀ q, H q = none → Q (.ref q) (upd H q (.tup (kvs.map fun kv => kV kv.1)))) := by
  intro pins s σ H xs us Q I r h
  obtain ⟨p, kvs, e, hk, q⟩ := h
  subst e
  obtain ⟨u, eu, rx⟩ := vals1 r
  subst eu
  obtain rfl : u = Value.ref p := rx
  obtain ⟨z, lo, vs, rk, hd⟩ := (show ObjOk X.prog X.w H s.heap p (.dK kvs) from I.hok p _ hk)
  obtain ⟨ep, hat⟩ := hd.dictAt
  have hl : kvs.length = vs.length := Paired.length rk
  refine call_tuple_src (PySem.W.kdl_dict (knd := mixKind X.prog X.w) (kvs := vs) (ep := ep) lo) (I.ok.hd hc) hat (by rw [← hl]; exact z) fun h' tk acc hkeep hacc => ?_
  have I2 : Inv X pins σ H { s with heap := h', toks := tk } := I.kept hkeep
  refine ⟨.ref h'.objs.size, upd H h'.objs.size (.tup (kvs.map fun kv => kV kv.1)), I2.laid (t' := tk) (fun c o e => Heap.get?_push_of_some _ e) (Nat.le_refl _) (show ObjOk X.prog X.w _ _ _ (.tup (kvs.map fun kv => kV kv.1)) from ⟨?_, acc.toList, ?_, ?_⟩), rfl, q _ (I2.hok.fresh (Nat.le_refl _))⟩
  · rw [List.length_map]; exact z
  · have el : acc.toList.length = acc.size := by simp
    refine vals_of_at (by rw [List.length_map, el, hacc.1, hl]) fun j x w h1 h2 => ?_
    obtain ⟨k, y, hky, hi⟩ := hacc.2 j w (by rw [← Array.getElem?_toList]; exact h2)
    have e1 : (kvs.map (·.1))[j]? = some k := by
      rw [KV.keys rk, List.getElem?_map, hky] <;> rfl
    have e2 : (kvs.map fun kv => kV kv.1)[j]? = some (kV k) := by
      have e3 : (kvs.map fun kv => kV kv.1) = (kvs.map (·.1)).map kV := by rw [List.map_map] <;> rfl
      rw [e3, List.getElem?_map, e1] <;> rfl
    rw [e2] at h1
    cases h1
    exact keyIs_rel hi
  · rw [Array.toArray_toList]; exact IsTup.new _ _
end Dl

namespace Dl
open PySem L2
theorem NmOk.of {H H' : Hp} {v : V} (s : Same H H') (h : NmOk H v) : NmOk H' v := by
  cases v with
  | ref p => obtain ⟨xs, e⟩ := h; exact ⟨xs, s _ _ e⟩
  | str z => exact h
  | int i => exact h
  | non => exact h
  | bl _ => exact h
  | byt _ => exact h
  | flt _ => exact h
  | ty _ => exact h
theorem Same.tup {K : PySem.W.Frag} {H H' : Hp} {a : Addr} {xs : List V} (e : Same H H') (h : SqT K H a xs) : SqT K H' a xs := by
  rcases h with (h | ⟨o, h⟩) | h
  · exact .inl (.inl (e _ _ h))
  · exact .inl (.inr ⟨o, e _ _ h⟩)
  · exact .inr h
def knows (v : V) (es : List Str) : Bool :=
  match v with
  | .str z => decide (z ∈ es)
  | _ => false
/-- check_known(name, names), names a tuple of texts -/
def spKnown (K : PySem.W.Frag) (C : Cs) : Sp := fun vs H Q E => ∃ (v : V) (p : Addr) (es : List Str), vs = [v, .ref p] ∧ NmOk H v ∧ SqT K H p (es.map V.str) ∧ (knows v es = true → Q .non H) ∧ (knows v es = false → Out1 C.unk "name" v H E)
def strOf : V → Str
  | .str z => z
  | _ => ""
def chkNames : List V → List Str → Except Er (List Str)
  | [], acc => .ok acc
  | v :: r, acc => match chkNew v acc with
    | some e => .error e
    | none => chkNames r (acc ++ [strOf v])
theorem chkNew_none {v : V} {es : List Str} (h : chkNew v es = none) : ∃ z, v = .str z ∧ validN z = true ∧ z ∉ es := by
  cases v with
  | str z =>
    refine ⟨z, rfl, ?_⟩
    unfold chkNew at h
    by_cases h1 : validN z = true
    · by_cases h2 : z ∈ es
      · simp [h1, h2] at h
      · exact ⟨h1, h2⟩
    · simp [h1] at h
  | _ => simp [chkNew] at h
/-- distinct_names(names), names a list or a tuple -/
def spDistinct (K : PySem.W.Frag) (C : Cs) : Sp := fun vs H Q E => ∃ (p : Addr) (xs : List V), vs = [.ref p] ∧ (SqL K H p xs ∨ SqT K H p xs) ∧ (∀ v ∈ xs, NmOk H v) ∧ xs.length ≤ 1000 ∧
  (∀ es, chkNames xs [] = .ok es → ∀ H' t, Same H H' → H t = none → H' t = some (.tup (es.map V.str)) → Q (.ref t) H') ∧ ∀ e, chkNames xs [] = .error e → Out C H E e
section
variable {P : Program} {w : World} {K : PySem.W.Frag} {mg : Str → Option Value} {base : Heap} {C : Cs}
theorem scCheckKnown : FnScope ["name", "names"] ["name", "names"] (defScope sCheckKnown) := ⟨rfl, rfl, rfl, by decide +kernel, rfl, by decide +kernel, by decide +kernel⟩
theorem ok_known {f : Addr} {fd : FuncData} (F : Fun K "check_known" "check_known" sCheckKnown f fd) (T : TxtN mg) (xU : Ex P w K mg base "UnknownName" "name" C.unk) :
    FnOk P w K mg base (L2.CX P w) 4 f fd ["name", "names"] (spKnown K C) := by
  obtain ⟨fI, dI, TI, bI, GI⟩ := xU
  refine F.okX scCheckKnown (fun vs H Q E h => ?_) (fun cdv A outer s H vs Q E hr h => ?_)
  · obtain ⟨b, n, es, rfl, _⟩ := h
    rfl
  · obtain ⟨v, p, es, rfl, hv, hp, k, kx⟩ := h
    have hr2 : Room 2 _ := hr.mono (by decide)
    refine ⟨_, pss_one (ps_if (PW.pt (pw_or (pt_not (pt_val (pe_callB call_isi (by rfl) T.isi (by decide +kernel) (pa_cons (pv 0) (pa_cons (pe_bltn (v := .ty "str") (by rfl) T.str (by decide +kernel) rfl) pa_nil)))))
        (pw_or1 (pt_cmpR op_notIn_seq (pv 0) (pv 1) (by rfl)))))
        (pss_one (ps_raise rfl (takes_of rfl rfl rfl rfl) (pmk_oex TI.oex TI.iC TI.tI GI hr2 bI .nil pass0 (by rfl) TI.gC (pa_cons (pv 0) pa_nil)))) pss_nil), ?_⟩
    obtain ⟨ty, b, h1, h2, h3⟩ := nm_type K hv
    refine ⟨_, rfl, v, _, _, _, b, rfl, ClsV.ty "str", h1, h2, b, rfl, ?_⟩
    rcases h3 with ⟨rfl, h3, hns⟩ | ⟨rfl, z, rfl, hz⟩
    · refine iteT (?_)
      have hk : knows v es = false := by
        cases v with
        | str z => exact absurd rfl (hns z)
        | _ => rfl
      exact ⟨_, rfl, raise_end (kx hk)⟩
    · refine iteF (?_)
      refine ⟨_, rfl, _, rfl, p, _, rfl, .inr hp, rfl, flat_strs es, _, rfl, ?_⟩
      show if (!inV (.str z) (es.map V.str)) = true then _ else _
      rw [inV_str]
      by_cases hm : z ∈ es
      · rw [decide_eq_true hm]
        exact iteF (k (by simp [knows, hm]))
      · rw [decide_eq_false hm]
        exact iteT (⟨_, rfl, raise_end (kx (by simp [knows, hm]))⟩)
theorem scDistinct : FnScope ["names", "found", "name"] ["names"] (defScope sDistinct) := ⟨rfl, rfl, rfl, by decide +kernel, rfl, by decide +kernel, by decide +kernel⟩
theorem ok_distinct {f : Addr} {fd : FuncData} (F : Fun K "distinct_names" "distinct_names" sDistinct f fd) (mT : mg "tuple" = none) (gN : Dfn P w K mg base (L2.CX P w) 4 "check_new" ["name", "earlier"] (spNewL K C)) :
    FnOk P w K mg base (L2.CX P w) 6 f fd ["names"] (spDistinct K C) := by
  obtain ⟨fN, dN, mN, kN, bN, GN⟩ := gN
  refine F.okX scDistinct (fun vs H Q E h => ?_) (fun cdv A outer s H vs Q E hr h => ?_)
  · obtain ⟨b, n, rfl, _⟩ := h
    rfl
  · obtain ⟨p, xs, rfl, hp, hx, hlen, k, kx⟩ := h
    have hr4 : Room 4 _ := hr.mono (by decide)
    rcases hp with hp | hp
    · refine ⟨_, pss_cons (ps_set (i := 1) scDistinct.nd rfl (Or.inl rfl) (pe_lst pa_nil)) (pss_cons (ps_for (passes_of rfl) rfl (pi_list (pv 0)) (pg_name (i := 2) scDistinct.nd rfl (Or.inl rfl))
        (pss_cons (ps_expr (pe_call GN hr4 (by rfl) mN kN bN .nil (passes_call (takes_of rfl rfl rfl rfl) (fun _ _ _ _ h => h)) (pa_cons (pv 2) (pa_cons (pv 1) pa_nil))))
        (pss_one (ps_expr (pe_bm PySem.F.plainAttrs_list PySem.F.slot_list_append PySem.F.type_list_append mt_append (pv 1) (pa_cons (pv 2) pa_nil))))))
        (pss_one (ps_ret (pe_callTy call_tuple_of (by rfl) mT (by decide +kernel) (pa_cons (pv 1) pa_nil))))), ?_⟩
      refine ⟨Nat.zero_le _, fun l hl => ⟨_, rfl, p, rfl, ⟨_, Same.seq (Same.upd_new hl) hp⟩, for_it (walk_list (K := K) (a := p) (xs := xs)) (fun i σ H' => ∃ (acc : List Str) (x : Option V), σ = [some (.ref p), some (.ref l), x] ∧ H' l = some (.lst (acc.map V.str)) ∧ Same H H' ∧ chkNames (xs.drop i) acc = chkNames xs [] ∧ acc.length ≤ i)
        ⟨[], none, rfl, upd_same, Same.upd_new hl, rfl, Nat.le_refl _⟩ (fun i σ H' _ ⟨_, _, _, _, s1, _⟩ => Same.seq s1 hp) ?_ ?_⟩⟩
      · rintro i v σ H1 H2 hi ⟨acc, x, rfl, hL, s1, hc, ha⟩ ⟨rfl, hv⟩
        have hd : xs.drop i = v :: xs.drop (i + 1) := by
          rw [List.drop_eq_getElem_cons hi]
          have q := (List.getElem?_eq_some_iff.mp hv).2
          rw [q]
        rw [hd] at hc
        refine ⟨_, rfl, _, rfl, v, l, acc, rfl, (hx v (List.mem_of_getElem? hv)).of s1, hL, fun H3 s3 hn => ?_, fun e he => ?_⟩
        · obtain ⟨z, rfl, _, _⟩ := chkNew_none hn
          refine ⟨_, rfl, .inl ⟨rfl, _, SqL.of (s3 _ _ hL)⟩, _, rfl, l, _, _, rfl, rfl, s3 _ _ hL, ?_, ?_⟩
          · rw [List.length_map]
            exact small1000 (by omega)
          · refine ⟨acc ++ [z], _, rfl, ?_, fun b o e => ?_, ?_, ?_⟩
            · rw [upd_same, List.map_append]; rfl
            · rw [upd_ne (ne_of_none e hl)]
              exact s3 _ _ (s1 _ _ e)
            · rw [← hc, chkNames, hn]
              rfl
            · rw [List.length_append]
              simp
              omega
        · have hce : chkNames xs [] = .error e := by rw [← hc, chkNames, he]
          exact Out.of s1 (kx e hce)
      · rintro σ H1 ⟨acc, x, rfl, hL, s1, hc, ha⟩
        rw [List.drop_length] at hc
        refine ⟨_, rfl, l, _, rfl, .inl ⟨SqL.of hL, fun t ht => ?_⟩⟩
        exact k acc hc.symm _ t (s1.trans (Same.upd_new ht)) (s1.free ht) upd_same
    · refine ⟨_, pss_cons (ps_set (i := 1) scDistinct.nd rfl (Or.inl rfl) (pe_lst pa_nil)) (pss_cons (ps_for (passes_of rfl) rfl (pi_tup (pv 0)) (pg_name (i := 2) scDistinct.nd rfl (Or.inl rfl))
        (pss_cons (ps_expr (pe_call GN hr4 (by rfl) mN kN bN .nil (passes_call (takes_of rfl rfl rfl rfl) (fun _ _ _ _ h => h)) (pa_cons (pv 2) (pa_cons (pv 1) pa_nil))))
        (pss_one (ps_expr (pe_bm PySem.F.plainAttrs_list PySem.F.slot_list_append PySem.F.type_list_append mt_append (pv 1) (pa_cons (pv 2) pa_nil))))))
        (pss_one (ps_ret (pe_callTy call_tuple_of (by rfl) mT (by decide +kernel) (pa_cons (pv 1) pa_nil))))), ?_⟩
      refine ⟨Nat.zero_le _, fun l hl => ⟨_, rfl, p, rfl, ⟨_, Same.tup (Same.upd_new hl) hp⟩, for_it (walk_tup (K := K) (a := p) (xs := xs)) (fun i σ H' => ∃ (acc : List Str) (x : Option V), σ = [some (.ref p), some (.ref l), x] ∧ H' l = some (.lst (acc.map V.str)) ∧ Same H H' ∧ chkNames (xs.drop i) acc = chkNames xs [] ∧ acc.length ≤ i)
        ⟨[], none, rfl, upd_same, Same.upd_new hl, rfl, Nat.le_refl _⟩ (fun i σ H' _ ⟨_, _, _, _, s1, _⟩ => Same.tup s1 hp) ?_ ?_⟩⟩
      · rintro i v σ H1 H2 hi ⟨acc, x, rfl, hL, s1, hc, ha⟩ ⟨rfl, hv⟩
        have hd : xs.drop i = v :: xs.drop (i + 1) := by
          rw [List.drop_eq_getElem_cons hi]
          have q := (List.getElem?_eq_some_iff.mp hv).2
          rw [q]
        rw [hd] at hc
        refine ⟨_, rfl, _, rfl, v, l, acc, rfl, (hx v (List.mem_of_getElem? hv)).of s1, hL, fun H3 s3 hn => ?_, fun e he => ?_⟩
        · obtain ⟨z, rfl, _, _⟩ := chkNew_none hn
          refine ⟨_, rfl, .inl ⟨rfl, _, SqL.of (s3 _ _ hL)⟩, _, rfl, l, _, _, rfl, rfl, s3 _ _ hL, ?_, ?_⟩
          · rw [List.length_map]
            exact small1000 (by omega)
          · refine ⟨acc ++ [z], _, rfl, ?_, fun b o e => ?_, ?_, ?_⟩
            · rw [upd_same, List.map_append]; rfl
            · rw [upd_ne (ne_of_none e hl)]
              exact s3 _ _ (s1 _ _ e)
            · rw [← hc, chkNames, hn]
              rfl
            · rw [List.length_append]
              simp
              omega
        · have hce : chkNames xs [] = .error e := by rw [← hc, chkNames, he]
          exact Out.of s1 (kx e hce)
      · rintro σ H1 ⟨acc, x, rfl, hL, s1, hc, ha⟩
        rw [List.drop_length] at hc
        refine ⟨_, rfl, l, _, rfl, .inl ⟨SqL.of hL, fun t ht => ?_⟩⟩
        exact k acc hc.symm _ t (s1.trans (Same.upd_new ht)) (s1.free ht) upd_same
end
end Dl

namespace Dl
open PySem L2
/-- the shown lamps: known ones, none of them twice -/
def chkShown : List V → List Str → List Str → Option Er
  | [], _, _ => none
  | v :: r, es, prev => if knows v es then (if strOf v ∈ prev then some (.dup v) else chkShown r es (prev ++ [strOf v])) else some (.unk v)
theorem knows_str {v : V} {es : List Str} (h : knows v es = true) : ∃ z, v = .str z ∧ z ∈ es := by
  cases v with
  | str z => exact ⟨z, rfl, of_decide_eq_true h⟩
  | _ => cases h
def spShown (K : PySem.W.Frag) (C : Cs) : Sp := fun vs H Q E => ∃ (p q : Addr) (xs : List V) (es : List Str), vs = [.ref p, .ref q] ∧ SqL K H p xs ∧ (∀ v ∈ xs, NmOk H v) ∧ xs.length ≤ 1000 ∧ SqT K H q (es.map V.str) ∧
  (∀ H', chkShown xs es [] = none → Same H H' → Q .non H') ∧ ∀ e, chkShown xs es [] = some e → Out C H E e
theorem cut_take (xs : List V) (i : Nat) : cutV xs none (some (i : Int)) = xs.take i := by
  unfold cutV
  rw [HT.sIx_nat, HT.sIx_none]
  simp only [List.drop_zero, Nat.sub_zero]
  by_cases h : i ≤ xs.length
  · rw [Nat.min_eq_left h]
  · rw [Nat.min_eq_right (by omega), List.take_of_length_le (by omega), List.take_of_length_le (by omega)]
section
variable {P : Program} {w : World} {K : PySem.W.Frag} {mg : Str → Option Value} {base : Heap} {C : Cs}
theorem scCheckShown : FnScope ["shown", "lamps", "at", "lamp"] ["shown", "lamps"] (defScope sCheckShown) := ⟨rfl, rfl, rfl, by decide +kernel, rfl, by decide +kernel, by decide +kernel⟩
theorem ok_shown {f : Addr} {fd : FuncData} (F : Fun K "_check_shown" "_check_shown" sCheckShown f fd) (mE : mg "enumerate" = none) (gN : Dfn P w K mg base (L2.CX P w) 4 "check_known" ["name", "names"] (spKnown K C)) (xD : Ex P w K mg base "DuplicateName" "name" C.dup) :
    FnOk P w K mg base (L2.CX P w) 6 f fd ["shown", "lamps"] (spShown K C) := by
  obtain ⟨fN, dN, mN, kN, bN, GN⟩ := gN
  obtain ⟨fD, dD, TD, bD, GD⟩ := xD
  refine F.okX scCheckShown (fun vs H Q E h => ?_) (fun cdv A outer s H vs Q E hr h => ?_)
  · obtain ⟨b, n, xs, es, rfl, _⟩ := h
    rfl
  · obtain ⟨p, q, xs, es, rfl, hp, hx, hlen, hq, k, kx⟩ := h
    have hr4 : Room 4 _ := hr.mono (by decide)
    have hr2 : Room 2 _ := hr.mono (by decide)
    refine ⟨_, pss_one (ps_for (passes_of rfl) rfl (pi_enum (by rfl) mE (pa_cons (pv 0) pa_nil)) (pg_tup rfl (pgs_cons (pg_name (i := 2) scCheckShown.nd rfl (Or.inl rfl)) (pgs_cons (pg_name (i := 3) scCheckShown.nd rfl (Or.inl rfl)) pgs_nil)))
        (pss_cons (ps_expr (pe_call GN hr4 (by rfl) mN kN bN .nil (passes_call (takes_of rfl rfl rfl rfl) (fun _ _ _ _ h => h)) (pa_cons (pv 3) (pa_cons (pv 1) pa_nil))))
        (pss_one (ps_if (pt_cmpR op_in_seq (pv 3) (pe_slice sl_list (pv 0) po_none (po_some (pv 2))) (by rfl))
          (pss_one (ps_raise rfl (takes_of rfl rfl rfl rfl) (pmk_oex TD.oex TD.iC TD.tI GD hr2 bD .nil pass0 (by rfl) TD.gC (pa_cons (pv 3) pa_nil)))) pss_nil)))), ?_⟩
    refine ⟨_, rfl, p, xs, rfl, hp, for_it (walk_enum (K := K) (a := p) (xs := xs)) (fun i σ H' => ∃ (x y : Option V) (prev : List Str), σ = [some (.ref p), some (.ref q), x, y] ∧ Same H H' ∧ xs.take i = prev.map V.str ∧ chkShown (xs.drop i) es prev = chkShown xs es [])
      ⟨none, none, [], rfl, Same.refl H, rfl, rfl⟩ (fun i σ H' _ ⟨_, _, _, _, s1, _⟩ => Same.seq s1 hp) ?_ ?_⟩
    · rintro i v σ H1 H2 hi ⟨x, y, prev, rfl, s1, ht, hc⟩ ⟨T, a, v, rfl, hT, rfl, ea, hv⟩
      cases ea
      have hd : xs.drop i = v :: xs.drop (i + 1) := by
        rw [List.drop_eq_getElem_cons hi]
        have q := (List.getElem?_eq_some_iff.mp hv).2
        rw [q]
      rw [hd] at hc
      have s2 : Same H (upd H1 T (.tup [.int (i : Nat), v])) := s1.trans (Same.upd_new hT)
      refine ⟨T, _, rfl, SqT.of upd_same, rfl, _, _, rfl, _, _, rfl, rfl, ?_⟩
      refine ⟨_, rfl, _, rfl, v, q, es, rfl, (hx v (List.mem_of_getElem? hv)).of s2, Same.tup s2 hq, fun hk => ?_, fun hk => ?_⟩
      · obtain ⟨z, rfl, hz⟩ := knows_str hk
        refine ⟨_, rfl, _, rfl, _, rfl, (i : Int), rfl, p, xs, rfl, Same.seq s2 hp, fun l hl => ?_⟩
        have hl' : (upd H1 T (.tup [.int (i : Nat), V.str z])) l = none := hl
        refine ⟨l, _, rfl, .inl (SqL.of upd_same), rfl, ?_, _, rfl, ?_⟩
        · rw [cut_take, ht]
          exact flat_strs prev
        · show if (inV (.str z) (cutV xs none (some (i : Int)))) = true then _ else _
          rw [cut_take, ht, inV_str]
          by_cases hm : z ∈ prev
          · rw [decide_eq_true hm]
            refine iteT (⟨_, rfl, raise_end ?_⟩)
            have hce : chkShown xs es [] = some (.dup (.str z)) := by
              rw [← hc, chkShown, if_pos hk, if_pos (show strOf (.str z) ∈ prev from hm)]
            exact Out.of (e := .dup (.str z)) (s2.trans (Same.upd_new hl')) (kx _ hce)
          · rw [decide_eq_false hm]
            refine iteF ?_
            refine ⟨_, _, prev ++ [z], rfl, s2.trans (Same.upd_new hl'), ?_, ?_⟩
            · have hv2 : xs[i]? = some (V.str z) := hv
              rw [List.take_succ, ht, hv2, List.map_append]
              rfl
            · rw [← hc, chkShown, if_pos hk, if_neg (show ¬ strOf (.str z) ∈ prev from hm)]
              rfl
      · have hce : chkShown xs es [] = some (.unk v) := by
          rw [← hc, chkShown, if_neg (by rw [hk]; decide)]
        exact Out1.of s2 (kx _ hce)
    · rintro σ H1 ⟨x, y, prev, rfl, s1, ht, hc⟩
      rw [List.drop_length] at hc
      exact k H1 hc.symm s1
end
end Dl

namespace Dl
open PySem PySem.Spec PyProof.Rows L2
/-! enumerate(t) of a tuple: my own rule -/
theorem enum_new_tup (l : Addr) (items : Array Value) (n : Nat) (dct : Option Addr) (sl : Array (Option Value)) :
    Meets (Builtin.«enumerate.__new__» ⟨[.type "enumerate", .ref l], []⟩) (fun _ R s => s.heap.get? l = some { cls := .type "tuple", dict := dct, data := .seq items n, slots := sl } ∧
      R (.ok (.ret (.ref (s.heap.push { cls := .type "tuple_iterator", data := .fields #[.ref l, .int 0 0] }).objs.size)))
        { s with heap := (s.heap.push { cls := .type "tuple_iterator", data := .fields #[.ref l, .int 0 0] }).push { cls := .type "enumerate", data := .fields #[.none, .bool false, .ref s.heap.objs.size, rawInt 0, .none, .none] } }) :=
  .of_wp fun prog w A R s h => by
    obtain ⟨hp, g, d, tk, os⟩ := s
    obtain ⟨hl, h⟩ := h
    have hsub := sub_enumerate
    have hT : Heap.IsTuple (Shared.heap ⟨hp, g, d, tk, os⟩) l items := ⟨_, hl, rfl, n, rfl⟩
    wp_walk using AutoSeq1.wpAny_loadPart' hl
    refine wpAny_stack_any fun st => wpAny_pure ?_
    split
    · rename_i c _ _ _ _ _
      cases (c == Value.type "enumerate") <;>
        (wp_walk using AutoSeq1.wpAny_loadPart' hl, wpAny_pyIter_tuple hT
         exact ⟨_, rfl, h⟩)
    · wp_walk using AutoSeq1.wpAny_loadPart' hl, wpAny_pyIter_tuple hT
      exact ⟨_, rfl, h⟩
end Dl
namespace Dl
open PySem PySem.Spec PyProof.Rows L2
section
variable {prog : Program} {w : World} {A : Around} {E : Value → Shared → Prop} {s : Shared}
theorem call_enum_tup {l : Addr} {items : Array Value} {Q : Value → Shared → Prop} (hL : s.heap.IsTuple l items)
    (h : ∀ h', IsEnum h' (s.heap.objs.size + 1) s.heap.objs.size 0 .none → h'.IsTupleIter s.heap.objs.size l 0 → h'.objs.size = s.heap.objs.size + 2 →
      (∀ b o, s.heap.get? b = some o → h'.get? b = some o) → Q (.ref (s.heap.objs.size + 1)) { s with heap := h' }) :
    wpAny (model prog w) A (call (.type "enumerate") [.ref l]) Q E s := by
  obtain ⟨⟨c, dct, dt, sl⟩, hl, hc, n, hd⟩ := hL
  have hc' : c = .type "tuple" := hc
  have hd' : dt = .seq items n := hd
  subst hc' hd'
  refine callType_new F.called_enumerate (by decide) (F.typeCall_enumerate_1 _) (F.newCall_enumerate_1 _) (fun obj => F.args_object_init_2 obj _) F.entry_enumerate_new (enum_new_tup l items n dct sl) ⟨hl, ?_⟩
  generalize hp1 : s.heap.push { cls := .type "tuple_iterator", data := .fields #[.ref l, .int 0 0] } = h1
  have hz : h1.objs.size = s.heap.objs.size + 1 := by rw [← hp1]; exact Heap.size_push ..
  show _ ∧ _
  rw [hz]
  generalize hp2 : h1.push { cls := .type "enumerate", data := .fields #[.none, .bool false, .ref s.heap.objs.size, rawInt 0, .none, .none] } = h2
  have he : IsEnum h2 (s.heap.objs.size + 1) s.heap.objs.size 0 .none := by
    have q := Heap.get?_push_size h1 (o := { cls := .type "enumerate", data := .fields #[.none, .bool false, .ref s.heap.objs.size, rawInt 0, .none, .none] }) rfl
    rw [hz, hp2] at q
    exact q
  have up1 : ∀ b o, s.heap.get? b = some o → h1.get? b = some o := fun b o x => by rw [← hp1]; exact Heap.get?_push_of_some _ x
  have up2 : ∀ b o, h1.get? b = some o → h2.get? b = some o := fun b o x => by rw [← hp2]; exact Heap.get?_push_of_some _ x
  have it1 : h1.get? s.heap.objs.size = some { cls := .type "tuple_iterator", data := .fields #[.ref l, .int 0 0] } := by rw [← hp1]; exact Heap.get?_push_size _ rfl
  exact ⟨⟨_, he, rfl⟩, h _ he ⟨_, up2 _ _ it1, rfl, rfl⟩ (by rw [← hp2, Heap.size_push, hz]) fun b o x => up2 _ _ (up1 _ _ x)⟩
end
/-- the tuple at a, each item in a new pair with its number -/
def IteT (K : PySem.W.Frag) (a : Addr) : It :=
  ⟨fun i H => ∃ (xs : List V) (x : V), SqT K H a xs ∧ xs[i]? = some x, fun i H v H' => ∃ T x, v = .ref T ∧ H T = none ∧ H' = upd H T (.tup [.int (i : Nat), x]) ∧ ∀ xs, SqT K H a xs → xs[i]? = some x, fun i H => ∃ xs : List V, SqT K H a xs ∧ xs.length = i⟩
theorem turn_enumT {P : Program} {w : World} {K : PySem.W.Frag} {elts : List Expr} {kk : Nat} {tpos : Pos} (a e it : Addr) :
    Turn P w K (.Tuple elts kk tpos) (IteT K a) [e, it] e (fun i h => (∃ old, IsEnum h e it ((i : Nat) : Int) old) ∧ h.IsTupleIter it a i ∧ e ≠ it) where
  mem := by simp
  obj := fun i h st b hb => by
    obtain ⟨⟨old, he⟩, ⟨o, ho, hc, hd⟩, _⟩ := st
    have two : b = e ∨ b = it := by simpa using hb
    rcases two with rfl | rfl
    · exact ⟨_, he, fun v q => nomatch q⟩
    · exact ⟨o, ho, fun v q => by rw [hd] at q; cases q⟩
  keep := fun i h h' st k => by
    obtain ⟨⟨old, he⟩, hi, hne⟩ := st
    exact ⟨⟨old, k e (by simp) _ he⟩, hi.at fun o q => k it (by simp) o q, hne⟩
  item := by
    intro X hP hw hK hc i pins s σ H E I hf st hg
    subst hP hw hK
    obtain ⟨⟨old, he⟩, hit, hne⟩ := st
    obtain ⟨xs, x, hq, hx⟩ := hg
    obtain ⟨its, rv, p, hz⟩ := I.tuple hq
    have hp : s.heap.IsTuple a its.toArray := p
    obtain ⟨u, hu, ru⟩ := rv.get hx
    have hel : e < s.heap.objs.size := Heap.lt_size he
    have hil : it < s.heap.objs.size := by obtain ⟨_, q, _⟩ := hit; exact Heap.lt_size q
    have nai : a ≠ it := fun z => by
      obtain ⟨o1, q1, c1, _⟩ := hp
      obtain ⟨o2, q2, c2, _⟩ := hit
      rw [z, q2] at q1
      cases q1
      rw [c2] at c1
      exact absurd c1 (by decide)
    have nea : e ≠ a := fun z => by
      obtain ⟨o1, q1, c1, _⟩ := hp
      have q2 := he
      rw [z] at q2
      have q3 := q1.symm.trans q2
      cases q3
      have c2 : Value.type "enumerate" = Value.type "tuple" := c1
      exact absurd c2 (by decide)
    have hi : i < its.toArray.size := by
      have := (List.getElem?_eq_some_iff.mp hu).1
      simpa using this
    refine wpAny_pyNext_enum_itemC (Draws.tuple (prog := X.prog) (w := X.w) (A := X.A.in1) (show X.A.in1.handled = none from I.ok.hd hc) it a nai its.toArray) he ⟨hit, hp⟩ hi hne (by simp [hne, nea]) fun y h' tk hy ho st' hT hsz hk => ?_
    have ey : y = u := by
      have q : its.toArray[i]? = some y := hy
      rw [List.getElem?_toArray, hu] at q
      exact (Option.some.inj q).symm
    subst ey
    refine ⟨_, rfl, wpAny_letOwnedTupleGo_enum (s := { s with heap := h', toks := tk + 1 }) ho fun h'' he' sb => ?_⟩
    have hT2 : h''.get? s.heap.objs.size = some { cls := .type "tuple", data := .seq #[.int i tk, y] } := (sb.2 _ (Nat.ne_of_gt hel)).trans hT
    have new : ObjOk X.prog X.w (upd H s.heap.objs.size (.tup [.int (i : Nat), x])) h'' s.heap.objs.size (.tup [.int (i : Nat), x]) :=
      ⟨by show 2 ≤ sizeLine; decide, [.int i tk, y], .cons ⟨_, rfl⟩ (.cons ru .nil), ⟨_, hT2, rfl, _, rfl⟩⟩
    have I1 : Inv X pins σ (upd H s.heap.objs.size (.tup [.int (i : Nat), x])) { s with heap := h'', toks := tk + 1 } :=
      I.turnedNew (t' := tk + 1) (ch := [e, it]) (fun b ob hb q => (sb.2 b (fun z => hb (by simp [z]))).trans (hk b ob (fun z => hb (by simp [z])) (fun z => hb (by simp [z])) q)) hf (Nat.le_refl _) new
    refine ⟨.ref s.heap.objs.size, _, I1, rfl, ⟨_, x, rfl, I.hok.fresh (Nat.le_refl _), rfl, fun ys hys => by rw [I.tuple_inj hys hq]; exact hx⟩, ⟨⟨y, ?_⟩, st'.1.at fun o q => (sb.2 it (Ne.symm hne)).trans q, hne⟩, fun b hb => ?_⟩
    · have e1 : ((i + 1 : Nat) : Int) = (i : Int) + 1 := by omega
      rw [e1]
      exact he'
    · have lt : b < s.heap.objs.size := by
        have two : b = e ∨ b = it := by simpa using hb
        rcases two with rfl | rfl
        · exact hel
        · exact hil
      rw [upd_ne (Nat.ne_of_lt lt)]
      exact (hf b hb).1
  done := by
    intro X hP hw hK hc i pins s σ H E I hf st hg
    subst hP hw hK
    obtain ⟨⟨old, he⟩, hit, hne⟩ := st
    obtain ⟨xs, hq, hx⟩ := hg
    obtain ⟨its, rv, p, hz⟩ := I.tuple hq
    have hp : s.heap.IsTuple a its.toArray := p
    obtain ⟨f0, f1, f2, f3, f4, f5⟩ := hf it (by simp)
    have nai : a ≠ it := fun z => by
      obtain ⟨o1, q1, c1, _⟩ := hp
      obtain ⟨o2, q2, c2, _⟩ := hit
      rw [z, q2] at q1
      cases q1
      rw [c2] at c1
      exact absurd c1 (by decide)
    have hl : its.toArray.size = i := by
      have := rv.length
      simp
      omega
    exact wpAny_pyNext_enum_endD (Draws.tuple (prog := X.prog) (w := X.w) (A := X.A.in1) (show X.A.in1.handled = none from I.ok.hd hc) it a nai its.toArray) he ⟨by rw [hl]; exact hit, hp⟩ fun h' eb => ⟨rfl, I.turned (t' := s.toks) (fun b o hb q => eb b o hb q) f0 f1 f3 f4 f5⟩
  self := fun A i s Q E st h => let ⟨⟨_, he⟩, _⟩ := st; wpAny_pyIter_enum he h
def iEnumT (K : PySem.W.Frag) (ta : TA) : TI := fun σ H R => ta σ H fun vs H1 => ∃ a xs, vs = [.ref a] ∧ SqT K H1 a xs ∧ R (IteT K a) H1
theorem pi_enumT {X : Cx} {e : Expr} {ta : TA} {p pos tpos : Pos} {elts : List Expr} {kk : Nat} (hg : Gl X "enumerate") (hm : X.mg "enumerate" = none) (ha : PA X [e] ta) (hs : starEach [e] X.env = [(false, eval e X.env)] := by rfl) :
    PI X (.Tuple elts kk tpos) (.Call (.Name "enumerate" p) [e] [] pos) (iEnumT X.K ta) := by
  constructor
  intro pins s σ H R I h
  refine Call_ ?_
  refine ld_blt I hg hm boot_enumerate ?_
  apply PyProof.Rows.callWith_type1 _ hs rfl
  apply thn (ha.run pos pins s σ H _ I h)
  rintro us s1 ⟨vs, H1, I1, r1, a, xs, rfl, hq, q⟩
  obtain ⟨u, rfl, ru⟩ := vals1 r1
  cases ru
  obtain ⟨its, rv, p', hz⟩ := I1.tuple hq
  refine call_enum_tup (show s1.heap.IsTuple a its.toArray from p') fun h' he hit hsz hk => wpAny_pyIter_enum he ?_
  have I2 : Inv X pins σ H1 { s1 with heap := h' } := I1.kept (t' := s1.toks) hk
  refine ⟨s1.heap.objs.size + 1, [s1.heap.objs.size + 1, s1.heap.objs.size], _, _, H1, rfl, I2, turn_enumT a (s1.heap.objs.size + 1) s1.heap.objs.size, ⟨⟨.none, he⟩, hit, Nat.succ_ne_self _⟩, fun b hb => ?_, q⟩
  have hle : s1.heap.objs.size ≤ b := by
    have two : b = s1.heap.objs.size + 1 ∨ b = s1.heap.objs.size := by simpa using hb
    rcases two with z | z
    · rw [z]; exact Nat.le_add_right _ _
    · rw [z]; exact Nat.le_refl _
  exact I1.fpOk hle (I1.hok.fresh hle)
theorem walk_enumT {K : PySem.W.Frag} {a : Addr} {xs : List V} : Walk (IteT K a) xs.length (fun H => SqT K H a xs) (YPair (fun i => some (.int (i : Nat))) (fun i => xs[i]?)) := by
  constructor
  · intro i H hi q
    exact ⟨xs, xs[i], q, by simp [hi]⟩
  · intro H q
    exact ⟨xs, q, rfl⟩
  · rintro i H v H' _ q ⟨T, x, h1, h2, h3, h4⟩
    exact ⟨T, .int (i : Nat), x, h1, h2, h3, rfl, h4 xs q⟩
end Dl

namespace Dl
open PySem L2
def spShown2 (K : PySem.W.Frag) (C : Cs) : Sp := fun vs H Q E => ∃ (p q : Addr) (xs : List V) (es : List Str), vs = [.ref p, .ref q] ∧ (SqL K H p xs ∨ SqT K H p xs) ∧ (∀ v ∈ xs, NmOk H v) ∧ xs.length ≤ 1000 ∧ SqT K H q (es.map V.str) ∧
  (∀ H', chkShown xs es [] = none → Same H H' → Q .non H') ∧ ∀ e, chkShown xs es [] = some e → Out C H E e
section
variable {P : Program} {w : World} {K : PySem.W.Frag} {mg : Str → Option Value} {base : Heap} {C : Cs}
theorem ok_shown2 {f : Addr} {fd : FuncData} (F : Fun K "_check_shown" "_check_shown" sCheckShown f fd) (mE : mg "enumerate" = none) (gN : Dfn P w K mg base (L2.CX P w) 4 "check_known" ["name", "names"] (spKnown K C)) (xD : Ex P w K mg base "DuplicateName" "name" C.dup) :
    FnOk P w K mg base (L2.CX P w) 6 f fd ["shown", "lamps"] (spShown2 K C) := by
  obtain ⟨fN, dN, mN, kN, bN, GN⟩ := gN
  obtain ⟨fD, dD, TD, bD, GD⟩ := xD
  refine F.okX scCheckShown (fun vs H Q E h => ?_) (fun cdv A outer s H vs Q E hr h => ?_)
  · obtain ⟨b, n, xs, es, rfl, _⟩ := h
    rfl
  · obtain ⟨p, q, xs, es, rfl, hp, hx, hlen, hq, k, kx⟩ := h
    have hr4 : Room 4 _ := hr.mono (by decide)
    have hr2 : Room 2 _ := hr.mono (by decide)
    rcases hp with hp | hp
    · refine ⟨_, pss_one (ps_for (passes_of rfl) rfl (pi_enum (by rfl) mE (pa_cons (pv 0) pa_nil)) (pg_tup rfl (pgs_cons (pg_name (i := 2) scCheckShown.nd rfl (Or.inl rfl)) (pgs_cons (pg_name (i := 3) scCheckShown.nd rfl (Or.inl rfl)) pgs_nil)))
          (pss_cons (ps_expr (pe_call GN hr4 (by rfl) mN kN bN .nil (passes_call (takes_of rfl rfl rfl rfl) (fun _ _ _ _ h => h)) (pa_cons (pv 3) (pa_cons (pv 1) pa_nil))))
          (pss_one (ps_if (pt_cmpR op_in_seq (pv 3) (pe_slice sl_list (pv 0) po_none (po_some (pv 2))) (by rfl))
            (pss_one (ps_raise rfl (takes_of rfl rfl rfl rfl) (pmk_oex TD.oex TD.iC TD.tI GD hr2 bD .nil pass0 (by rfl) TD.gC (pa_cons (pv 3) pa_nil)))) pss_nil)))), ?_⟩
      refine ⟨_, rfl, p, xs, rfl, hp, for_it (walk_enum (K := K) (a := p) (xs := xs)) (fun i σ H' => ∃ (x y : Option V) (prev : List Str), σ = [some (.ref p), some (.ref q), x, y] ∧ Same H H' ∧ xs.take i = prev.map V.str ∧ chkShown (xs.drop i) es prev = chkShown xs es [])
        ⟨none, none, [], rfl, Same.refl H, rfl, rfl⟩ (fun i σ H' _ ⟨_, _, _, _, s1, _⟩ => Same.seq s1 hp) ?_ ?_⟩
      · rintro i v σ H1 H2 hi ⟨x, y, prev, rfl, s1, ht, hc⟩ ⟨T, a, v, rfl, hT, rfl, ea, hv⟩
        cases ea
        have hd : xs.drop i = v :: xs.drop (i + 1) := by
          rw [List.drop_eq_getElem_cons hi]
          have q := (List.getElem?_eq_some_iff.mp hv).2
          rw [q]
        rw [hd] at hc
        have s2 : Same H (upd H1 T (.tup [.int (i : Nat), v])) := s1.trans (Same.upd_new hT)
        refine ⟨T, _, rfl, SqT.of upd_same, rfl, _, _, rfl, _, _, rfl, rfl, ?_⟩
        refine ⟨_, rfl, _, rfl, v, q, es, rfl, (hx v (List.mem_of_getElem? hv)).of s2, Same.tup s2 hq, fun hk => ?_, fun hk => ?_⟩
        · obtain ⟨z, rfl, hz⟩ := knows_str hk
          refine ⟨_, rfl, _, rfl, _, rfl, (i : Int), rfl, p, xs, rfl, Same.seq s2 hp, fun l hl => ?_⟩
          have hl' : (upd H1 T (.tup [.int (i : Nat), V.str z])) l = none := hl
          refine ⟨l, _, rfl, .inl (SqL.of upd_same), rfl, ?_, _, rfl, ?_⟩
          · rw [cut_take, ht]
            exact flat_strs prev
          · show if (inV (.str z) (cutV xs none (some (i : Int)))) = true then _ else _
            rw [cut_take, ht, inV_str]
            by_cases hm : z ∈ prev
            · rw [decide_eq_true hm]
              refine iteT (⟨_, rfl, raise_end ?_⟩)
              have hce : chkShown xs es [] = some (.dup (.str z)) := by
                rw [← hc, chkShown, if_pos hk, if_pos (show strOf (.str z) ∈ prev from hm)]
              exact Out.of (e := .dup (.str z)) (s2.trans (Same.upd_new hl')) (kx _ hce)
            · rw [decide_eq_false hm]
              refine iteF ?_
              refine ⟨_, _, prev ++ [z], rfl, s2.trans (Same.upd_new hl'), ?_, ?_⟩
              · have hv2 : xs[i]? = some (V.str z) := hv
                rw [List.take_succ, ht, hv2, List.map_append]
                rfl
              · rw [← hc, chkShown, if_pos hk, if_neg (show ¬ strOf (.str z) ∈ prev from hm)]
                rfl
        · have hce : chkShown xs es [] = some (.unk v) := by
            rw [← hc, chkShown, if_neg (by rw [hk]; decide)]
          exact Out1.of s2 (kx _ hce)
      · rintro σ H1 ⟨x, y, prev, rfl, s1, ht, hc⟩
        rw [List.drop_length] at hc
        exact k H1 hc.symm s1
    · refine ⟨_, pss_one (ps_for (passes_of rfl) rfl (pi_enumT (by rfl) mE (pa_cons (pv 0) pa_nil)) (pg_tup rfl (pgs_cons (pg_name (i := 2) scCheckShown.nd rfl (Or.inl rfl)) (pgs_cons (pg_name (i := 3) scCheckShown.nd rfl (Or.inl rfl)) pgs_nil)))
          (pss_cons (ps_expr (pe_call GN hr4 (by rfl) mN kN bN .nil (passes_call (takes_of rfl rfl rfl rfl) (fun _ _ _ _ h => h)) (pa_cons (pv 3) (pa_cons (pv 1) pa_nil))))
          (pss_one (ps_if (pt_cmpR op_in_seq (pv 3) (pe_slice sl_tup (pv 0) po_none (po_some (pv 2))) (by rfl))
            (pss_one (ps_raise rfl (takes_of rfl rfl rfl rfl) (pmk_oex TD.oex TD.iC TD.tI GD hr2 bD .nil pass0 (by rfl) TD.gC (pa_cons (pv 3) pa_nil)))) pss_nil)))), ?_⟩
      refine ⟨_, rfl, p, xs, rfl, hp, for_it (walk_enumT (K := K) (a := p) (xs := xs)) (fun i σ H' => ∃ (x y : Option V) (prev : List Str), σ = [some (.ref p), some (.ref q), x, y] ∧ Same H H' ∧ xs.take i = prev.map V.str ∧ chkShown (xs.drop i) es prev = chkShown xs es [])
        ⟨none, none, [], rfl, Same.refl H, rfl, rfl⟩ (fun i σ H' _ ⟨_, _, _, _, s1, _⟩ => Same.tup s1 hp) ?_ ?_⟩
      · rintro i v σ H1 H2 hi ⟨x, y, prev, rfl, s1, ht, hc⟩ ⟨T, a, v, rfl, hT, rfl, ea, hv⟩
        cases ea
        have hd : xs.drop i = v :: xs.drop (i + 1) := by
          rw [List.drop_eq_getElem_cons hi]
          have q := (List.getElem?_eq_some_iff.mp hv).2
          rw [q]
        rw [hd] at hc
        have s2 : Same H (upd H1 T (.tup [.int (i : Nat), v])) := s1.trans (Same.upd_new hT)
        refine ⟨T, _, rfl, SqT.of upd_same, rfl, _, _, rfl, _, _, rfl, rfl, ?_⟩
        refine ⟨_, rfl, _, rfl, v, q, es, rfl, (hx v (List.mem_of_getElem? hv)).of s2, Same.tup s2 hq, fun hk => ?_, fun hk => ?_⟩
        · obtain ⟨z, rfl, hz⟩ := knows_str hk
          have whole : ¬ (HT.sIx xs.length 0 none = 0 ∧ HT.sIx xs.length xs.length (some ((i : Nat) : Int)) = xs.length) := by
            rw [HT.sIx_nat]
            omega
          refine ⟨_, rfl, _, rfl, _, rfl, (i : Int), rfl, p, xs, rfl, Same.tup s2 hp, whole, fun l hl => ?_⟩
          have hl' : (upd H1 T (.tup [.int (i : Nat), V.str z])) l = none := hl
          refine ⟨l, _, rfl, .inr (SqT.of upd_same), rfl, ?_, _, rfl, ?_⟩
          · rw [cut_take, ht]
            exact flat_strs prev
          · show if (inV (.str z) (cutV xs none (some (i : Int)))) = true then _ else _
            rw [cut_take, ht, inV_str]
            by_cases hm : z ∈ prev
            · rw [decide_eq_true hm]
              refine iteT (⟨_, rfl, raise_end ?_⟩)
              have hce : chkShown xs es [] = some (.dup (.str z)) := by
                rw [← hc, chkShown, if_pos hk, if_pos (show strOf (.str z) ∈ prev from hm)]
              exact Out.of (e := .dup (.str z)) (s2.trans (Same.upd_new hl')) (kx _ hce)
            · rw [decide_eq_false hm]
              refine iteF ?_
              refine ⟨_, _, prev ++ [z], rfl, s2.trans (Same.upd_new hl'), ?_, ?_⟩
              · have hv2 : xs[i]? = some (V.str z) := hv
                rw [List.take_succ, ht, hv2, List.map_append]
                rfl
              · rw [← hc, chkShown, if_pos hk, if_neg (show ¬ strOf (.str z) ∈ prev from hm)]
                rfl
        · have hce : chkShown xs es [] = some (.unk v) := by
            rw [← hc, chkShown, if_neg (by rw [hk]; decide)]
          exact Out1.of s2 (kx _ hce)
      · rintro σ H1 ⟨x, y, prev, rfl, s1, ht, hc⟩
        rw [List.drop_length] at hc
        exact k H1 hc.symm s1
end
end Dl

namespace Dl
open PySem L2
def chosen (ns cs : List Str) : List Str := ns.filter fun z => decide (z ∈ cs)
def spChosen (K : PySem.W.Frag) : Sp := fun vs H Q _ => ∃ (p q : Addr) (ns cs : List Str), vs = [.ref p, .ref q] ∧ SqT K H p (ns.map V.str) ∧ (SqL K H q (cs.map V.str) ∨ SqT K H q (cs.map V.str)) ∧ ns.length ≤ 1000 ∧
  ∀ H' t, Same H H' → H t = none → H' t = some (.tup ((chosen ns cs).map V.str)) → Q (.ref t) H'
theorem Same.either {K : PySem.W.Frag} {H H' : Hp} {a : Addr} {xs : List V} (e : Same H H') (h : SqL K H a xs ∨ SqT K H a xs) : SqL K H' a xs ∨ SqT K H' a xs := h.imp (Same.seq e) (Same.tup e)
section
variable {P : Program} {w : World} {K : PySem.W.Frag} {mg : Str → Option Value} {base : Heap} {C : Cs}
theorem scChosen : FnScope ["names", "chosen", "name"] ["names", "chosen"] (defScope sChosen) := ⟨rfl, rfl, rfl, by decide +kernel, rfl, by decide +kernel, by decide +kernel⟩
theorem ok_chosen {f : Addr} {fd : FuncData} (F : Fun K "_chosen_of" "_chosen_of" sChosen f fd) (mT : mg "tuple" = none) : FnOk P w K mg base CX0 1 f fd ["names", "chosen"] (spChosen K) := by
  refine F.ok scChosen (fun vs H Q E h => ?_) (fun cdv A outer s H vs Q E hr h => ?_)
  · obtain ⟨b, n, xs, es, rfl, _⟩ := h
    rfl
  · obtain ⟨p, q, ns, cs, rfl, hp, hq, hlen, k⟩ := h
    refine ⟨_, pss_one (ps_ret (pe_callTy call_tuple_of (by rfl) mT (by decide +kernel) (pa_cons
      (pe_lc (own := [("name", 2)]) (g := gName 2) (tt := tTest (tOp (rIn K false) (tVar 2) (tVar 1))) rfl scChosen.nd (pi_tup (pv 0)) (blkOk_by (N := ["names", "chosen", "name"]) (sc := defScope sChosen) (by decide +kernel))
          (fun _ _ _ _ _ => pg_name (i := 2) scChosen.nd rfl (Or.inl rfl)) (fun _ _ _ _ _ => pts_one (pt_cmpR op_in_seq (pv 2) (pv 1) (by rfl))) (fun _ _ _ _ _ => pv 2)) pa_nil))), ?_⟩
    refine ⟨_, rfl, p, rfl, ⟨_, hp⟩, fun D hD => lc_it (walk_tup (K := K) (a := p) (xs := ns.map V.str)) (fun i H' => H' = upd H D (.lst ((chosen (ns.take i) cs).map V.str))) rfl (fun i H' _ e => by rw [e]; exact Same.tup (Same.upd_new hD) hp) ?_ ?_⟩
    · rintro i x H1 H2 hi rfl ⟨rfl, hx⟩
      rw [List.length_map] at hi
      have hx2 : (ns.map V.str)[i]? = some x := hx
      rw [List.getElem?_map] at hx2
      cases e : ns[i]? with
      | none => rw [e] at hx2; cases hx2
      | some z =>
      rw [e] at hx2
      obtain rfl : V.str z = x := Option.some.inj hx2
      have s1 : Same H (upd H D (.lst ((chosen (ns.take i) cs).map V.str))) := Same.upd_new hD
      have st : chosen (ns.take (i + 1)) cs = chosen (ns.take i) cs ++ (if decide (z ∈ cs) = true then [z] else []) := by
        unfold chosen
        rw [List.take_succ, e, List.filter_append]
        by_cases hz : z ∈ cs <;> simp [hz]
      refine ⟨rfl, _, rfl, _, rfl, q, _, rfl, Same.either s1 hq, rfl, flat_strs cs, inV (.str z) (cs.map V.str), rfl, ?_⟩
      rw [inV_str]
      by_cases hz : z ∈ cs
      · rw [decide_eq_true hz]
        refine iteT ⟨_, rfl, _, upd_same, ?_, ?_⟩
        · have q1 : (chosen (ns.take i) cs).length ≤ i := Nat.le_trans (List.length_filter_le _ _) (by rw [List.length_take]; omega)
          rw [List.length_map]
          exact small1000 (by omega)
        · rw [upd_upd, st, decide_eq_true hz, if_pos rfl, List.map_append]
          rfl
      · rw [decide_eq_false hz]
        refine iteF ?_
        rw [st, decide_eq_false hz, if_neg (by decide), List.append_nil]
    · rintro H1 rfl
      refine ⟨D, _, rfl, .inl ⟨SqL.of upd_same, fun t ht => ?_⟩⟩
      have ht' : (upd H D (.lst ((chosen (ns.take (ns.map V.str).length) cs).map V.str))) t = none := ht
      refine k _ t ((Same.upd_new hD).trans (Same.upd_new ht')) ((Same.upd_new hD).free ht') ?_
      rw [upd_same, List.length_map, List.take_length]
end
end Dl

namespace Dl
open PySem L2
/-! ### the fields of a table, in the order in which they are set -/
theorem ne_sl : ¬ (("_shown" : Str) = "lamps") := by decide +kernel
theorem ne_ls : ¬ (("lamps" : Str) = "_shown") := by decide +kernel
theorem ne_ll : ¬ (("lamps" : Str) = "looks") := by decide +kernel
theorem ne_l2 : ¬ (("looks" : Str) = "lamps") := by decide +kernel
theorem ne_sk : ¬ (("_shown" : Str) = "looks") := by decide +kernel
theorem ne_ks : ¬ (("looks" : Str) = "_shown") := by decide +kernel
def pf1 (a : V) : List (Str × V) := putF "lamps" a []
def pf2 (a b : V) : List (Str × V) := putF "_shown" b (pf1 a)
def pf3 (a b c : V) : List (Str × V) := putF "looks" c (pf2 a b)
theorem putF_length (f : Str) (v : V) : ∀ fs : List (Str × V), (putF f v fs).length ≤ fs.length + 1
  | [] => by simp [putF]
  | (g, x) :: r => by
    unfold putF
    by_cases h : g = f
    · rw [if_pos h]; simp
    · rw [if_neg h]
      have := putF_length f v r
      simp only [List.length_cons]; omega
theorem pf1_len (a : V) : (pf1 a).length ≤ 1 := putF_length _ _ _
theorem pf2_len (a b : V) : (pf2 a b).length ≤ 2 := Nat.le_trans (putF_length _ _ _) (Nat.succ_le_succ (pf1_len a))
theorem pf1_lamps (a : V) : (pf1 a).lookup ("lamps" : Str) = some a := by unfold pf1; rw [lookup_putF, if_pos rfl]
theorem pf2_lamps (a b : V) : (pf2 a b).lookup ("lamps" : Str) = some a := by unfold pf2; rw [lookup_putF, if_neg ne_ls, pf1_lamps]
theorem pf2_shown (a b : V) : (pf2 a b).lookup ("_shown" : Str) = some b := by unfold pf2; rw [lookup_putF, if_pos rfl]
theorem pf3_lamps (a b c : V) : (pf3 a b c).lookup ("lamps" : Str) = some a := by unfold pf3; rw [lookup_putF, if_neg ne_ll, pf2_lamps]
theorem pf3_shown (a b c : V) : (pf3 a b c).lookup ("_shown" : Str) = some b := by unfold pf3; rw [lookup_putF, if_neg ne_sk, pf2_shown]
theorem pf3_looks (a b c : V) : (pf3 a b c).lookup ("looks" : Str) = some c := by unfold pf3; rw [lookup_putF, if_pos rfl]
theorem pf3_no (a b c : V) {m : Str} (h1 : ¬ m = "lamps") (h2 : ¬ m = "_shown") (h3 : ¬ m = "looks") : (pf3 a b c).lookup m = none := by
  unfold pf3 pf2 pf1
  rw [lookup_putF, if_neg h3, lookup_putF, if_neg h2, lookup_putF, if_neg h1]
  rfl
/-! ### what a table holds -/
inductive RowsAt (H : Hp) : List (Str × List Str) → List (Key × V) → Prop
  | nil : RowsAt H [] []
  | cons {k : Str} {sh : List Str} {a : Addr} {r : List (Str × List Str)} {kvs : List (Key × V)} : H a = some (.tup (sh.map V.str)) → RowsAt H r kvs → RowsAt H ((k, sh) :: r) ((Sum.inr k, .ref a) :: kvs)
theorem RowsAt.keys {H : Hp} {rs : List (Str × List Str)} {kvs : List (Key × V)} (h : RowsAt H rs kvs) : kvs.map (·.1) = (rs.map (·.1)).map Sum.inr := by
  induction h with
  | nil => rfl
  | cons _ _ ih => rw [List.map_cons, List.map_cons, List.map_cons, ih]
theorem RowsAt.length {H : Hp} {rs : List (Str × List Str)} {kvs : List (Key × V)} (h : RowsAt H rs kvs) : kvs.length = rs.length := by
  have q := congrArg List.length h.keys
  rw [List.length_map, List.length_map, List.length_map] at q
  exact q
theorem RowsAt.of {H H' : Hp} {rs : List (Str × List Str)} {kvs : List (Key × V)} (s : ∀ b xs, H b = some (.tup xs) → H' b = some (.tup xs)) (h : RowsAt H rs kvs) : RowsAt H' rs kvs := by
  induction h with
  | nil => exact .nil
  | cons e _ ih => exact .cons (s _ _ e) ih
theorem RowsAt.snoc {H : Hp} {rs : List (Str × List Str)} {kvs : List (Key × V)} {k : Str} {sh : List Str} {a : Addr} (h : RowsAt H rs kvs) (e : H a = some (.tup (sh.map V.str))) : RowsAt H (rs ++ [(k, sh)]) (kvs ++ [(Sum.inr k, .ref a)]) := by
  induction h with
  | nil => exact .cons e .nil
  | cons e' _ ih => exact .cons e' ih
structure TableAt (C : Addr) (H : Hp) (p : Addr) (ls : List Str) (rs : List (Str × List Str)) : Prop where
  ex : ∃ (dx lt sd kt : Addr) (kvs : List (Key × V)), H p = some (.ins C dx (pf3 (.ref lt) (.ref sd) (.ref kt))) ∧ H lt = some (.tup (ls.map V.str)) ∧ H sd = some (.dK kvs) ∧ H kt = some (.tup ((rs.map (·.1)).map V.str)) ∧ RowsAt H rs kvs
/-- one look as it is passed: the pair's place, the name, the lamps' place, the lamps -/
structure RowIn where
  t : Addr
  look : V
  s : Addr
  xs : List V
structure RowOk (K : PySem.W.Frag) (H : Hp) (r : RowIn) : Prop where
  pair : SqT K H r.t [r.look, .ref r.s]
  name : NmOk H r.look
  lst : SqL K H r.s r.xs
  all : ∀ v ∈ r.xs, NmOk H v
  len : r.xs.length ≤ 1000
theorem RowOk.of {K : PySem.W.Frag} {H H' : Hp} {r : RowIn} (s : Same H H') (h : RowOk K H r) : RowOk K H' r :=
  ⟨Same.tup s h.pair, h.name.of s, Same.seq s h.lst, fun v hv => (h.all v hv).of s, h.len⟩
/-- the rows as the checks in order give them -/
def initRows (ls : List Str) : List (V × List V) → List (Str × List Str) → Except Er (List (Str × List Str))
  | [], acc => .ok acc
  | (k, xs) :: r, acc => match chkNew k (acc.map (·.1)) with
    | some e => .error e
    | none => match chkShown xs ls [] with
      | some e => .error e
      | none => initRows ls r (acc ++ [(strOf k, chosen ls (xs.map strOf))])
def initT (lamps : List V) (rows : List (V × List V)) : Except Er (List Str × List (Str × List Str)) :=
  if 24 < lamps.length ∨ 24 < rows.length then .error .many else
  match chkNames lamps [] with
  | .error e => .error e
  | .ok ls => match initRows ls rows [] with
    | .error e => .error e
    | .ok rs => .ok (ls, rs)
def RowIn.dat (r : RowIn) : V × List V := (r.look, r.xs)
def spTabInit (K : PySem.W.Frag) (CT : Addr) (C : Cs) : Sp := fun vs H Q E => ∃ (H0 : Hp) (p dx a b : Addr) (lamps : List V) (rows : List RowIn), vs = [.ref p, .ref a, .ref b] ∧ Same H0 H ∧ H0 p = none ∧ H p = some (.ins CT dx []) ∧
  (SqL K H0 a lamps ∨ SqT K H0 a lamps) ∧ (∀ v ∈ lamps, NmOk H0 v) ∧ lamps.length ≤ 1000 ∧ SqL K H0 b (rows.map fun r => V.ref r.t) ∧ (∀ r ∈ rows, RowOk K H0 r) ∧ rows.length ≤ 1000 ∧
  (∀ ls rs, initT lamps (rows.map RowIn.dat) = .ok (ls, rs) → ∀ H', Same H0 H' → TableAt CT H' p ls rs → Q .non H') ∧ ∀ e, initT lamps (rows.map RowIn.dat) = .error e → Out C H0 E e
structure TxtT (K : PySem.W.Frag) (mg : Str → Option Value) (CT : Addr) : Prop where
  cl : Cls K CT
  nL : NoAttr K CT "lamps"
  nK : NoAttr K CT "looks"
  nS : NoAttr K CT "_shown"
  len : mg "len" = none
  tup : mg "tuple" = none
  lim : ∃ t, mg "LIMIT" = some (.int 24 t)
theorem shown_strs' : ∀ {xs : List V} {ls prev : List Str}, chkShown xs ls prev = none → xs = (xs.map strOf).map V.str
  | [], _, _, _ => rfl
  | v :: r, ls, prev, h => by
    unfold chkShown at h
    by_cases hk : knows v ls = true
    · obtain ⟨z, rfl, hz⟩ := knows_str hk
      rw [if_pos hk] at h
      by_cases hm : strOf (.str z) ∈ prev
      · rw [if_pos hm] at h; cases h
      · rw [if_neg hm] at h
        rw [List.map_cons, List.map_cons, ← shown_strs' h]
        rfl
    · rw [if_neg hk] at h; cases h
theorem shown_strs {xs : List V} {ls : List Str} (h : chkShown xs ls [] = none) : xs = (xs.map strOf).map V.str := shown_strs' h
theorem names_len : ∀ {xs : List V} {acc es : List Str}, chkNames xs acc = .ok es → es.length = acc.length + xs.length
  | [], acc, es, h => by cases h; simp
  | v :: r, acc, es, h => by
    unfold chkNames at h
    cases e : chkNew v acc with
    | some q => rw [e] at h; cases h
    | none =>
      rw [e] at h
      have q := names_len h
      rw [List.length_append] at q
      simp at q ⊢
      omega
section
variable {P : Program} {w : World} {K : PySem.W.Frag} {mg : Str → Option Value} {base : Heap} {C : Cs} {CT : Addr}
theorem scTabInit : FnScope ["self", "lamps", "looks", "look", "shown"] ["self", "lamps", "looks"] (defScope sTabInit) := ⟨rfl, rfl, rfl, by decide +kernel, rfl, by decide +kernel, by decide +kernel⟩
theorem ok_tabinit {f : Addr} {fd : FuncData} (F : Fun K "__init__" "Table.__init__" sTabInit f fd) (T : TxtT K mg CT) (xM : Ex P w K mg base "TooMany" "limit" C.many)
    (gD : Dfn P w K mg base (L2.CX P w) 6 "distinct_names" ["names"] (spDistinct K C)) (gN : Dfn P w K mg base (L2.CX P w) 4 "check_new" ["name", "earlier"] (spNewD K C))
    (gS : Dfn P w K mg base (L2.CX P w) 6 "_check_shown" ["shown", "lamps"] (spShown K C)) (gC : Dfn P w K mg base CX0 1 "_chosen_of" ["names", "chosen"] (spChosen K)) :
    FnOk P w K mg base (L2.CX P w) 8 f fd ["self", "lamps", "looks"] (spTabInit K CT C) := by
  obtain ⟨fI, dI, TI, bI, GI⟩ := xM
  obtain ⟨fD, dD, mD, kD, bD, GD⟩ := gD
  obtain ⟨fN, dN, mN, kN, bN, GN⟩ := gN
  obtain ⟨fS, dS, mS, kS, bS, GS⟩ := gS
  obtain ⟨fC, dC, mC, kC, bC, GC⟩ := gC
  obtain ⟨tl, hlim⟩ := T.lim
  refine F.okX scTabInit (fun vs H Q E h => ?_) (fun cdv A outer s H vs Q E hr h => ?_)
  · obtain ⟨H0, p, dx, a, b, lamps, rows, rfl, _⟩ := h
    rfl
  · obtain ⟨H0, p, dx, a, b, lamps, rows, rfl, s0, hp0, hp, ha, hla, hll, hb, hrw, hrl, k, kx⟩ := h
    have hr6 : Room 6 _ := hr.mono (by decide)
    have hr4 : Room 4 _ := hr.mono (by decide)
    have hr2 : Room 2 _ := hr.mono (by decide)
    have hr1 : Room 1 _ := hr.mono (by decide)
    refine ⟨_, pss_cons (ps_if (PW.pt (pw_or (pt_cmpR op_gt (pe_callB call_len_seq (by rfl) T.len PySem.boot_len (pa_cons (pv 1) pa_nil)) (pe_glob (v := .int 24) (by rfl) hlim ⟨_, rfl⟩) (nomark _))
          (pw_or1 (pt_cmpR op_gt (pe_callB call_len_seq (by rfl) T.len PySem.boot_len (pa_cons (pv 2) pa_nil)) (pe_glob (v := .int 24) (by rfl) hlim ⟨_, rfl⟩) (nomark _)))))
        (pss_one (ps_raise rfl (takes_of rfl rfl rfl rfl) (pmk_oex TI.oex TI.iC TI.tI GI hr2 bI .nil pass0 (by rfl) TI.gC (pa_cons (pe_glob (v := .int 24) (by rfl) hlim ⟨_, rfl⟩) pa_nil)))) pss_nil)
      (pss_cons (ps_fld (pv 0) (pe_call GD hr6 (by rfl) mD kD bD .nil (passes_call (takes_of rfl rfl rfl rfl) (fun _ _ _ _ h => h)) (pa_cons (pv 1) pa_nil)) rfl)
      (pss_cons (ps_fld (pv 0) pe_dnewK rfl)
      (pss_cons (ps_for (passes_of rfl) rfl (pi_list (pv 2)) (pg_tup rfl (pgs_cons (pg_name (i := 3) scTabInit.nd rfl (Or.inl rfl)) (pgs_cons (pg_name (i := 4) scTabInit.nd rfl (Or.inl rfl)) pgs_nil)))
        (pss_cons (ps_expr (pe_call GN hr4 (by rfl) mN kN bN .nil (passes_call (takes_of rfl rfl rfl rfl) (fun _ _ _ _ h => h)) (pa_cons (pv 3) (pa_cons (pe_fld (pv 0) rfl) pa_nil))))
        (pss_cons (ps_expr (pe_call GS hr6 (by rfl) mS kS bS .nil (passes_call (takes_of rfl rfl rfl rfl) (fun _ _ _ _ h => h)) (pa_cons (pv 4) (pa_cons (pe_fld (pv 0) rfl) pa_nil))))
        (pss_one (ps_dput (hu_of hr) (pe_fld (pv 0) rfl) (pv 3) (pe_call GC hr1 (by rfl) mC kC bC .nil pass0 (pa_cons (pe_fld (pv 0) rfl) (pa_cons (pv 4) pa_nil))) rfl)))))
      (pss_one (ps_fld (pv 0) (pe_callTy (call_tuple_dK rfl) (by rfl) T.tup (by decide +kernel) (pa_cons (pe_fld (pv 0) rfl) pa_nil)) rfl))))), ?_⟩
    have small : ∀ n : Nat, n ≤ 2 → n < 1000 := fun n h => by omega
    have hmany : 24 < lamps.length ∨ 24 < (rows.map RowIn.dat).length → Out C H E .many := fun h => Out.of s0 (kx .many (by unfold initT; rw [if_pos h]))
    refine ⟨_, rfl, a, _, rfl, Same.either s0 ha, _, _, rfl, rfl, _, rfl, ?_⟩
    refine ite2 (fun c1 => ?_) (fun c1 => ?_)
    · exact raise_end (hmany (.inl (by have q : (24 : Int) < (lamps.length : Nat) := of_decide_eq_true c1; omega)))
    have c1' : ¬ 24 < lamps.length := fun x => c1 (decide_eq_true (by show (24 : Int) < (lamps.length : Nat); omega))
    refine ⟨_, rfl, b, _, rfl, .inl (Same.seq s0 hb), _, _, rfl, rfl, _, rfl, ?_⟩
    refine ite2 (fun c2 => ?_) (fun c2 => ?_)
    · exact raise_end (hmany (.inr (by
        have q : (24 : Int) < ((rows.map fun r => V.ref r.t).length : Nat) := of_decide_eq_true c2
        rw [List.length_map] at q ⊢
        omega)))
    have c2' : ¬ 24 < (rows.map RowIn.dat).length := fun x => c2 (decide_eq_true (by
      show (24 : Int) < ((rows.map fun r => V.ref r.t).length : Nat)
      rw [List.length_map] at x ⊢
      omega))
    have hT : initT lamps (rows.map RowIn.dat) = match chkNames lamps [] with
        | .error e => .error e
        | .ok ls => match initRows ls (rows.map RowIn.dat) [] with
          | .error e => .error e
          | .ok rs => .ok (ls, rs) := by
      show (if _ then _ else _) = _
      rw [if_neg (by intro z; rcases z with z | z; exact c1' z; exact c2' z)]
    -- self.lamps = distinct_names(lamps)
    refine ⟨_, rfl, a, lamps, rfl, Same.either s0 ha, fun v hv => (hla v hv).of s0, hll, fun ls hls H1 lt s1 hlt e1 => ?_, fun e he => Out.of s0 (kx e (by rw [hT, he]))⟩
    rw [hls] at hT
    dsimp only at hT
    have s01 : Same H0 H1 := s0.trans s1
    refine ⟨_, rfl, p, CT, dx, [], rfl, s1 _ _ hp, T.cl, T.nL, by decide, ?_⟩
    have nltp : lt ≠ p := fun z => by rw [z, hp] at hlt; cases hlt
    have keep0 : ∀ {Hx : Hp} {o : HO}, Same H0 Hx → Same H0 (upd Hx p o) := fun {Hx o} s b u e => by
      rw [upd_ne (ne_of_none e hp0)]; exact s _ _ e
    -- self._shown = {}
    refine fun sd hsd => ⟨_, rfl, p, CT, dx, pf1 (.ref lt), rfl, (by rw [upd_ne (ne_of_none upd_same hsd), upd_same]; rfl), T.cl, T.nS, small _ (Nat.le_trans (pf1_len _) (by decide)), ?_⟩
    have hsd1 : H1 sd = none := by
      have nsd : sd ≠ p := fun z => by rw [z, upd_same] at hsd; cases hsd
      rw [upd_ne nsd] at hsd
      exact hsd
    have nsp : p ≠ sd := fun z => by
      have q := s1 _ _ hp
      rw [z, hsd1] at q
      cases q
    have nls : lt ≠ sd := ne_of_none e1 hsd1
    have hsd0 : H0 sd = none := s01.free hsd1
    refine ⟨_, rfl, b, rfl, ⟨rows.map fun r => V.ref r.t, ?_⟩, for_it (walk_list (K := K) (a := b) (xs := rows.map fun r => V.ref r.t)) (fun i σ H' => ∃ (x y : Option V) (kvs : List (Key × V)) (acc : List (Str × List Str)),
        σ = [some (.ref p), some (.ref a), some (.ref b), x, y] ∧ H' p = some (.ins CT dx (pf2 (.ref lt) (.ref sd))) ∧ H' lt = some (.tup (ls.map V.str)) ∧ H' sd = some (.dK kvs) ∧ RowsAt H' acc kvs ∧ Same H0 H' ∧
        initRows ls ((rows.map RowIn.dat).drop i) acc = initRows ls (rows.map RowIn.dat) [] ∧ acc.length ≤ i) ?_ ?_ ?_ ?_⟩
    · exact Same.seq (keep0 ((keep0 s01).trans (Same.upd_new hsd))) hb
    · refine ⟨none, none, [], [], rfl, upd_same, ?_, ?_, .nil, keep0 ((keep0 s01).trans (Same.upd_new hsd)), rfl, Nat.le_refl _⟩
      · rw [upd_ne nltp, upd_ne nls, upd_ne nltp]; exact e1
      · rw [upd_ne nsp.symm, upd_same]
    · rintro i σ H' _ ⟨_, _, _, _, _, _, _, _, _, s', _⟩
      exact Same.seq s' hb
    · rintro i v σ H2 H3 hi ⟨x, y, kvs, acc, rfl, h2p, h2l, h2s, hrs, s2, hc, hal⟩ ⟨rfl, hv⟩
      have hv2 : (rows.map fun r => V.ref r.t)[i]? = some v := hv
      rw [List.length_map] at hi
      obtain ⟨r, hr, rfl⟩ : ∃ r, rows[i]? = some r ∧ v = V.ref r.t := by
        rw [List.getElem?_map] at hv2
        cases e : rows[i]? with
        | none => rw [e] at hv2; cases hv2
        | some r => rw [e] at hv2; exact ⟨r, rfl, (Option.some.inj hv2).symm⟩
      have hd : (rows.map RowIn.dat).drop i = (r.look, r.xs) :: (rows.map RowIn.dat).drop (i + 1) := by
        rw [List.drop_eq_getElem_cons (by rw [List.length_map]; exact hi)]
        rw [List.getElem_map, (List.getElem?_eq_some_iff.mp hr).2]
        rfl
      rw [hd] at hc
      have R := hrw r (List.mem_of_getElem? hr)
      have R2 := R.of s2
      refine ⟨r.t, _, rfl, R2.pair, rfl, _, _, rfl, _, _, rfl, rfl, ?_⟩
      -- check_new(look, self._shown)
      refine ⟨_, rfl, _, rfl, p, CT, dx, _, _, rfl, h2p, T.cl, T.nS, pf2_shown _ _, r.look, sd, kvs, acc.map (·.1), rfl, R2.name, h2s, hrs.keys, fun H4 s4 hn => ?_, fun e he => ?_⟩
      · obtain ⟨z, ez, hz, hza⟩ := chkNew_none hn
        -- _check_shown(shown, self.lamps)
        refine ⟨_, rfl, _, rfl, p, CT, dx, _, _, rfl, s4 _ _ h2p, T.cl, T.nL, pf2_lamps _ _, r.s, lt, r.xs, ls, rfl, Same.seq s4 R2.lst, (R2.of s4).all, R.len, SqT.of (s4 _ _ h2l), fun H5 hsn s5 => ?_, fun e he => ?_⟩
        · -- self._shown[look] = _chosen_of(self.lamps, shown)
          have s45 : Same H3 H5 := s4.trans s5
          have hxs : r.xs = (r.xs.map strOf).map V.str := shown_strs hsn
          refine ⟨_, rfl, p, CT, dx, _, _, rfl, s45 _ _ h2p, T.cl, T.nL, pf2_lamps _ _, _, rfl, lt, r.s, ls, r.xs.map strOf, rfl, SqT.of (s45 _ _ h2l), .inl (by rw [← hxs]; exact Same.seq s45 R2.lst), ?_, fun H6 t s6 ht et => ?_⟩
          · have q := names_len hls
            simp at q
            omega
          · have s26 : Same H3 H6 := s45.trans s6
            refine ⟨_, rfl, p, CT, dx, _, _, rfl, s26 _ _ h2p, T.cl, T.nS, pf2_shown _ _, _, rfl, sd, _, rfl, (by rw [ez]; exact DPut.k (k := Sum.inr z) (s26 _ _ h2s) (by rw [hrs.length]; exact small1000 (by omega))), ?_⟩
            have hval : valV kvs (Sum.inr z) = none := by
              have q := isSome_valV (es := acc.map (·.1)) hrs.keys (z := z)
              rw [decide_eq_false hza] at q
              cases e : valV kvs (Sum.inr z) with
              | none => rfl
              | some u => rw [e] at q; cases q
            rw [putK_new _ hval]
            have tups : ∀ b xs, H6 b = some (.tup xs) → upd H6 sd (.dK (kvs ++ [(Sum.inr z, .ref t)])) b = some (.tup xs) := fun b xs e => by
              have nb : b ≠ sd := fun q => by rw [q, s26 _ _ h2s] at e; cases e
              rw [upd_ne nb]; exact e
            refine ⟨_, _, kvs ++ [(Sum.inr z, .ref t)], acc ++ [(z, chosen ls (r.xs.map strOf))], rfl, ?_, tups _ _ (s26 _ _ h2l), upd_same, ?_, fun b o e => ?_, ?_, ?_⟩
            · have np : p ≠ sd := nsp
              rw [upd_ne np]; exact s26 _ _ h2p
            · exact (hrs.of fun b xs e => tups b xs (s26 _ _ e)).snoc (tups _ _ et)
            · rw [upd_ne (ne_of_none e hsd0)]
              exact s26 _ _ (s2 _ _ e)
            · rw [← hc, initRows, hn, hsn, ez]
              rfl
            · rw [List.length_append]
              simp
              omega
        · have hce : initRows ls (rows.map RowIn.dat) [] = .error e := by rw [← hc, initRows, hn, he]
          exact Out.of (s2.trans s4) (kx e (by rw [hT, hce]))
      · have hce : initRows ls (rows.map RowIn.dat) [] = .error e := by rw [← hc, initRows, he]
        exact Out.of s2 (kx e (by rw [hT, hce]))
    · rintro σ H2 ⟨x, y, kvs, acc, rfl, h2p, h2l, h2s, hrs, s2, hc, hal⟩
      have hc' : initRows ls (rows.map RowIn.dat) [] = .ok acc := by
        rw [← hc, List.drop_eq_nil_of_le (by simp)]
        rfl
      -- self.looks = tuple(self._shown)
      refine ⟨_, rfl, p, CT, dx, _, _, rfl, h2p, T.cl, T.nS, pf2_shown _ _, sd, kvs, rfl, h2s, fun kt hkt => ?_⟩
      have ntp : p ≠ kt := ne_of_none h2p hkt
      refine ⟨_, rfl, p, CT, dx, _, rfl, (by rw [upd_ne ntp]; exact h2p), T.cl, T.nK, small _ (pf2_len _ _), ?_⟩
      refine k ls acc (by rw [hT, hc']) _ (keep0 (s2.trans (Same.upd_new hkt))) ⟨dx, lt, sd, kt, kvs, upd_same, ?_, ?_, ?_, ?_⟩
      · rw [upd_ne nltp, upd_ne (ne_of_none h2l hkt)]; exact h2l
      · rw [upd_ne nsp.symm, upd_ne (ne_of_none h2s hkt)]; exact h2s
      · have q : (kvs.map fun kv => kV kv.1) = (kvs.map (·.1)).map kV := by rw [List.map_map]; rfl
        rw [upd_ne ntp.symm, upd_same, q, hrs.keys, List.map_map]
        rfl
      · refine hrs.of fun b xs e => ?_
        have nb : b ≠ p := fun q => by rw [q, h2p] at e; cases e
        rw [upd_ne nb, upd_ne (ne_of_none e hkt)]; exact e
end
end Dl

namespace Dl
open PySem L2
/-- one look as it is passed, the lamps as a list or as a tuple -/
structure RowE (K : PySem.W.Frag) (H : Hp) (r : RowIn) : Prop where
  pair : SqT K H r.t [r.look, .ref r.s]
  name : NmOk H r.look
  seq : SqL K H r.s r.xs ∨ SqT K H r.s r.xs
  all : ∀ v ∈ r.xs, NmOk H v
  len : r.xs.length ≤ 1000
theorem RowE.of {K : PySem.W.Frag} {H H' : Hp} {r : RowIn} (s : Same H H') (h : RowE K H r) : RowE K H' r :=
  ⟨Same.tup s h.pair, h.name.of s, Same.either s h.seq, fun v hv => (h.all v hv).of s, h.len⟩
theorem RowOk.e {K : PySem.W.Frag} {H : Hp} {r : RowIn} (h : RowOk K H r) : RowE K H r := ⟨h.pair, h.name, .inl h.lst, h.all, h.len⟩
def spTabInit2 (K : PySem.W.Frag) (CT : Addr) (C : Cs) : Sp := fun vs H Q E => ∃ (H0 : Hp) (p dx a b : Addr) (lamps : List V) (rows : List RowIn), vs = [.ref p, .ref a, .ref b] ∧ Same H0 H ∧ H0 p = none ∧ H p = some (.ins CT dx []) ∧
  (SqL K H0 a lamps ∨ SqT K H0 a lamps) ∧ (∀ v ∈ lamps, NmOk H0 v) ∧ lamps.length ≤ 1000 ∧ (SqL K H0 b (rows.map fun r => V.ref r.t) ∨ SqT K H0 b (rows.map fun r => V.ref r.t)) ∧ (∀ r ∈ rows, RowE K H0 r) ∧ rows.length ≤ 1000 ∧
  (∀ ls rs, initT lamps (rows.map RowIn.dat) = .ok (ls, rs) → ∀ H', Same H0 H' → TableAt CT H' p ls rs → Q .non H') ∧ ∀ e, initT lamps (rows.map RowIn.dat) = .error e → Out C H0 E e
section
variable {P : Program} {w : World} {K : PySem.W.Frag} {mg : Str → Option Value} {base : Heap} {C : Cs} {CT : Addr}
theorem ok_tabinit2 {f : Addr} {fd : FuncData} (F : Fun K "__init__" "Table.__init__" sTabInit f fd) (T : TxtT K mg CT) (xM : Ex P w K mg base "TooMany" "limit" C.many)
    (gD : Dfn P w K mg base (L2.CX P w) 6 "distinct_names" ["names"] (spDistinct K C)) (gN : Dfn P w K mg base (L2.CX P w) 4 "check_new" ["name", "earlier"] (spNewD K C))
    (gS : Dfn P w K mg base (L2.CX P w) 6 "_check_shown" ["shown", "lamps"] (spShown2 K C)) (gC : Dfn P w K mg base CX0 1 "_chosen_of" ["names", "chosen"] (spChosen K)) :
    FnOk P w K mg base (L2.CX P w) 8 f fd ["self", "lamps", "looks"] (spTabInit2 K CT C) := by
  obtain ⟨fI, dI, TI, bI, GI⟩ := xM
  obtain ⟨fD, dD, mD, kD, bD, GD⟩ := gD
  obtain ⟨fN, dN, mN, kN, bN, GN⟩ := gN
  obtain ⟨fS, dS, mS, kS, bS, GS⟩ := gS
  obtain ⟨fC, dC, mC, kC, bC, GC⟩ := gC
  obtain ⟨tl, hlim⟩ := T.lim
  refine F.okX scTabInit (fun vs H Q E h => ?_) (fun cdv A outer s H vs Q E hr h => ?_)
  · obtain ⟨H0, p, dx, a, b, lamps, rows, rfl, _⟩ := h
    rfl
  · obtain ⟨H0, p, dx, a, b, lamps, rows, rfl, s0, hp0, hp, ha, hla, hll, hb, hrw, hrl, k, kx⟩ := h
    have hr6 : Room 6 _ := hr.mono (by decide)
    have hr4 : Room 4 _ := hr.mono (by decide)
    have hr2 : Room 2 _ := hr.mono (by decide)
    have hr1 : Room 1 _ := hr.mono (by decide)
    rcases hb with hb | hb
    · refine ⟨_, pss_cons (ps_if (PW.pt (pw_or (pt_cmpR op_gt (pe_callB call_len_seq (by rfl) T.len PySem.boot_len (pa_cons (pv 1) pa_nil)) (pe_glob (v := .int 24) (by rfl) hlim ⟨_, rfl⟩) (nomark _))
            (pw_or1 (pt_cmpR op_gt (pe_callB call_len_seq (by rfl) T.len PySem.boot_len (pa_cons (pv 2) pa_nil)) (pe_glob (v := .int 24) (by rfl) hlim ⟨_, rfl⟩) (nomark _)))))
          (pss_one (ps_raise rfl (takes_of rfl rfl rfl rfl) (pmk_oex TI.oex TI.iC TI.tI GI hr2 bI .nil pass0 (by rfl) TI.gC (pa_cons (pe_glob (v := .int 24) (by rfl) hlim ⟨_, rfl⟩) pa_nil)))) pss_nil)
        (pss_cons (ps_fld (pv 0) (pe_call GD hr6 (by rfl) mD kD bD .nil (passes_call (takes_of rfl rfl rfl rfl) (fun _ _ _ _ h => h)) (pa_cons (pv 1) pa_nil)) rfl)
        (pss_cons (ps_fld (pv 0) pe_dnewK rfl)
        (pss_cons (ps_for (passes_of rfl) rfl (pi_list (pv 2)) (pg_tup rfl (pgs_cons (pg_name (i := 3) scTabInit.nd rfl (Or.inl rfl)) (pgs_cons (pg_name (i := 4) scTabInit.nd rfl (Or.inl rfl)) pgs_nil)))
          (pss_cons (ps_expr (pe_call GN hr4 (by rfl) mN kN bN .nil (passes_call (takes_of rfl rfl rfl rfl) (fun _ _ _ _ h => h)) (pa_cons (pv 3) (pa_cons (pe_fld (pv 0) rfl) pa_nil))))
          (pss_cons (ps_expr (pe_call GS hr6 (by rfl) mS kS bS .nil (passes_call (takes_of rfl rfl rfl rfl) (fun _ _ _ _ h => h)) (pa_cons (pv 4) (pa_cons (pe_fld (pv 0) rfl) pa_nil))))
          (pss_one (ps_dput (hu_of hr) (pe_fld (pv 0) rfl) (pv 3) (pe_call GC hr1 (by rfl) mC kC bC .nil pass0 (pa_cons (pe_fld (pv 0) rfl) (pa_cons (pv 4) pa_nil))) rfl)))))
        (pss_one (ps_fld (pv 0) (pe_callTy (call_tuple_dK rfl) (by rfl) T.tup (by decide +kernel) (pa_cons (pe_fld (pv 0) rfl) pa_nil)) rfl))))), ?_⟩
      have small : ∀ n : Nat, n ≤ 2 → n < 1000 := fun n h => by omega
      have hmany : 24 < lamps.length ∨ 24 < (rows.map RowIn.dat).length → Out C H E .many := fun h => Out.of s0 (kx .many (by unfold initT; rw [if_pos h]))
      refine ⟨_, rfl, a, _, rfl, Same.either s0 ha, _, _, rfl, rfl, _, rfl, ?_⟩
      refine ite2 (fun c1 => ?_) (fun c1 => ?_)
      · exact raise_end (hmany (.inl (by have q : (24 : Int) < (lamps.length : Nat) := of_decide_eq_true c1; omega)))
      have c1' : ¬ 24 < lamps.length := fun x => c1 (decide_eq_true (by show (24 : Int) < (lamps.length : Nat); omega))
      refine ⟨_, rfl, b, _, rfl, .inl (Same.seq s0 hb), _, _, rfl, rfl, _, rfl, ?_⟩
      refine ite2 (fun c2 => ?_) (fun c2 => ?_)
      · exact raise_end (hmany (.inr (by
          have q : (24 : Int) < ((rows.map fun r => V.ref r.t).length : Nat) := of_decide_eq_true c2
          rw [List.length_map] at q ⊢
          omega)))
      have c2' : ¬ 24 < (rows.map RowIn.dat).length := fun x => c2 (decide_eq_true (by
        show (24 : Int) < ((rows.map fun r => V.ref r.t).length : Nat)
        rw [List.length_map] at x ⊢
        omega))
      have hT : initT lamps (rows.map RowIn.dat) = match chkNames lamps [] with
          | .error e => .error e
          | .ok ls => match initRows ls (rows.map RowIn.dat) [] with
            | .error e => .error e
            | .ok rs => .ok (ls, rs) := by
        show (if _ then _ else _) = _
        rw [if_neg (by intro z; rcases z with z | z; exact c1' z; exact c2' z)]
        try rfl
      -- self.lamps = distinct_names(lamps)
      refine ⟨_, rfl, a, lamps, rfl, Same.either s0 ha, fun v hv => (hla v hv).of s0, hll, fun ls hls H1 lt s1 hlt e1 => ?_, fun e he => Out.of s0 (kx e (by rw [hT, he]))⟩
      rw [hls] at hT
      dsimp only at hT
      have s01 : Same H0 H1 := s0.trans s1
      refine ⟨_, rfl, p, CT, dx, [], rfl, s1 _ _ hp, T.cl, T.nL, by decide, ?_⟩
      have nltp : lt ≠ p := fun z => by rw [z, hp] at hlt; cases hlt
      have keep0 : ∀ {Hx : Hp} {o : HO}, Same H0 Hx → Same H0 (upd Hx p o) := fun {Hx o} s b u e => by
        rw [upd_ne (ne_of_none e hp0)]; exact s _ _ e
      -- self._shown = {}
      refine fun sd hsd => ⟨_, rfl, p, CT, dx, pf1 (.ref lt), rfl, (by rw [upd_ne (ne_of_none upd_same hsd), upd_same]; rfl), T.cl, T.nS, small _ (Nat.le_trans (pf1_len _) (by decide)), ?_⟩
      have hsd1 : H1 sd = none := by
        have nsd : sd ≠ p := fun z => by rw [z, upd_same] at hsd; cases hsd
        rw [upd_ne nsd] at hsd
        exact hsd
      have nsp : p ≠ sd := fun z => by
        have q := s1 _ _ hp
        rw [z, hsd1] at q
        cases q
      have nls : lt ≠ sd := ne_of_none e1 hsd1
      have hsd0 : H0 sd = none := s01.free hsd1
      refine ⟨_, rfl, b, rfl, ⟨rows.map fun r => V.ref r.t, ?_⟩, for_it (walk_list (K := K) (a := b) (xs := rows.map fun r => V.ref r.t)) (fun i σ H' => ∃ (x y : Option V) (kvs : List (Key × V)) (acc : List (Str × List Str)),
          σ = [some (.ref p), some (.ref a), some (.ref b), x, y] ∧ H' p = some (.ins CT dx (pf2 (.ref lt) (.ref sd))) ∧ H' lt = some (.tup (ls.map V.str)) ∧ H' sd = some (.dK kvs) ∧ RowsAt H' acc kvs ∧ Same H0 H' ∧
          initRows ls ((rows.map RowIn.dat).drop i) acc = initRows ls (rows.map RowIn.dat) [] ∧ acc.length ≤ i) ?_ ?_ ?_ ?_⟩
      · exact Same.seq (keep0 ((keep0 s01).trans (Same.upd_new hsd))) hb
      · refine ⟨none, none, [], [], rfl, upd_same, ?_, ?_, .nil, keep0 ((keep0 s01).trans (Same.upd_new hsd)), rfl, Nat.le_refl _⟩
        · rw [upd_ne nltp, upd_ne nls, upd_ne nltp]; exact e1
        · rw [upd_ne nsp.symm, upd_same]
      · rintro i σ H' _ ⟨_, _, _, _, _, _, _, _, _, s', _⟩
        exact Same.seq s' hb
      · rintro i v σ H2 H3 hi ⟨x, y, kvs, acc, rfl, h2p, h2l, h2s, hrs, s2, hc, hal⟩ ⟨rfl, hv⟩
        have hv2 : (rows.map fun r => V.ref r.t)[i]? = some v := hv
        rw [List.length_map] at hi
        obtain ⟨r, hr, rfl⟩ : ∃ r, rows[i]? = some r ∧ v = V.ref r.t := by
          rw [List.getElem?_map] at hv2
          cases e : rows[i]? with
          | none => rw [e] at hv2; cases hv2
          | some r => rw [e] at hv2; exact ⟨r, rfl, (Option.some.inj hv2).symm⟩
        have hd : (rows.map RowIn.dat).drop i = (r.look, r.xs) :: (rows.map RowIn.dat).drop (i + 1) := by
          rw [List.drop_eq_getElem_cons (by rw [List.length_map]; exact hi)]
          rw [List.getElem_map, (List.getElem?_eq_some_iff.mp hr).2]
          rfl
        rw [hd] at hc
        have R := hrw r (List.mem_of_getElem? hr)
        have R2 := R.of s2
        refine ⟨r.t, _, rfl, R2.pair, rfl, _, _, rfl, _, _, rfl, rfl, ?_⟩
        -- check_new(look, self._shown)
        refine ⟨_, rfl, _, rfl, p, CT, dx, _, _, rfl, h2p, T.cl, T.nS, pf2_shown _ _, r.look, sd, kvs, acc.map (·.1), rfl, R2.name, h2s, hrs.keys, fun H4 s4 hn => ?_, fun e he => ?_⟩
        · obtain ⟨z, ez, hz, hza⟩ := chkNew_none hn
          -- _check_shown(shown, self.lamps)
          refine ⟨_, rfl, _, rfl, p, CT, dx, _, _, rfl, s4 _ _ h2p, T.cl, T.nL, pf2_lamps _ _, r.s, lt, r.xs, ls, rfl, Same.either s4 R2.seq, (R2.of s4).all, R.len, SqT.of (s4 _ _ h2l), fun H5 hsn s5 => ?_, fun e he => ?_⟩
          · -- self._shown[look] = _chosen_of(self.lamps, shown)
            have s45 : Same H3 H5 := s4.trans s5
            have hxs : r.xs = (r.xs.map strOf).map V.str := shown_strs hsn
            refine ⟨_, rfl, p, CT, dx, _, _, rfl, s45 _ _ h2p, T.cl, T.nL, pf2_lamps _ _, _, rfl, lt, r.s, ls, r.xs.map strOf, rfl, SqT.of (s45 _ _ h2l), (by rw [← hxs]; exact Same.either s45 R2.seq), ?_, fun H6 t s6 ht et => ?_⟩
            · have q := names_len hls
              simp at q
              omega
            · have s26 : Same H3 H6 := s45.trans s6
              refine ⟨_, rfl, p, CT, dx, _, _, rfl, s26 _ _ h2p, T.cl, T.nS, pf2_shown _ _, _, rfl, sd, _, rfl, (by rw [ez]; exact DPut.k (k := Sum.inr z) (s26 _ _ h2s) (by rw [hrs.length]; exact small1000 (by omega))), ?_⟩
              have hval : valV kvs (Sum.inr z) = none := by
                have q := isSome_valV (es := acc.map (·.1)) hrs.keys (z := z)
                rw [decide_eq_false hza] at q
                cases e : valV kvs (Sum.inr z) with
                | none => rfl
                | some u => rw [e] at q; cases q
              rw [putK_new _ hval]
              have tups : ∀ b xs, H6 b = some (.tup xs) → upd H6 sd (.dK (kvs ++ [(Sum.inr z, .ref t)])) b = some (.tup xs) := fun b xs e => by
                have nb : b ≠ sd := fun q => by rw [q, s26 _ _ h2s] at e; cases e
                rw [upd_ne nb]; exact e
              refine ⟨_, _, kvs ++ [(Sum.inr z, .ref t)], acc ++ [(z, chosen ls (r.xs.map strOf))], rfl, ?_, tups _ _ (s26 _ _ h2l), upd_same, ?_, fun b o e => ?_, ?_, ?_⟩
              · have np : p ≠ sd := nsp
                rw [upd_ne np]; exact s26 _ _ h2p
              · exact (hrs.of fun b xs e => tups b xs (s26 _ _ e)).snoc (tups _ _ et)
              · rw [upd_ne (ne_of_none e hsd0)]
                exact s26 _ _ (s2 _ _ e)
              · rw [← hc, initRows, hn, hsn, ez]
                rfl
              · rw [List.length_append]
                simp
                omega
          · have hce : initRows ls (rows.map RowIn.dat) [] = .error e := by rw [← hc, initRows, hn, he]
            exact Out.of (s2.trans s4) (kx e (by rw [hT, hce]))
        · have hce : initRows ls (rows.map RowIn.dat) [] = .error e := by rw [← hc, initRows, he]
          exact Out.of s2 (kx e (by rw [hT, hce]))
      · rintro σ H2 ⟨x, y, kvs, acc, rfl, h2p, h2l, h2s, hrs, s2, hc, hal⟩
        have hc' : initRows ls (rows.map RowIn.dat) [] = .ok acc := by
          rw [← hc, List.drop_eq_nil_of_le (by simp)]
          rfl
        -- self.looks = tuple(self._shown)
        refine ⟨_, rfl, p, CT, dx, _, _, rfl, h2p, T.cl, T.nS, pf2_shown _ _, sd, kvs, rfl, h2s, fun kt hkt => ?_⟩
        have ntp : p ≠ kt := ne_of_none h2p hkt
        refine ⟨_, rfl, p, CT, dx, _, rfl, (by rw [upd_ne ntp]; exact h2p), T.cl, T.nK, small _ (pf2_len _ _), ?_⟩
        refine k ls acc (by rw [hT, hc']) _ (keep0 (s2.trans (Same.upd_new hkt))) ⟨dx, lt, sd, kt, kvs, upd_same, ?_, ?_, ?_, ?_⟩
        · rw [upd_ne nltp, upd_ne (ne_of_none h2l hkt)]; exact h2l
        · rw [upd_ne nsp.symm, upd_ne (ne_of_none h2s hkt)]; exact h2s
        · have q : (kvs.map fun kv => kV kv.1) = (kvs.map (·.1)).map kV := by rw [List.map_map]; rfl
          rw [upd_ne ntp.symm, upd_same, q, hrs.keys, List.map_map]
          rfl
        · refine hrs.of fun b xs e => ?_
          have nb : b ≠ p := fun q => by rw [q, h2p] at e; cases e
          rw [upd_ne nb, upd_ne (ne_of_none e hkt)]; exact e
    · refine ⟨_, pss_cons (ps_if (PW.pt (pw_or (pt_cmpR op_gt (pe_callB call_len_seq (by rfl) T.len PySem.boot_len (pa_cons (pv 1) pa_nil)) (pe_glob (v := .int 24) (by rfl) hlim ⟨_, rfl⟩) (nomark _))
            (pw_or1 (pt_cmpR op_gt (pe_callB call_len_seq (by rfl) T.len PySem.boot_len (pa_cons (pv 2) pa_nil)) (pe_glob (v := .int 24) (by rfl) hlim ⟨_, rfl⟩) (nomark _)))))
          (pss_one (ps_raise rfl (takes_of rfl rfl rfl rfl) (pmk_oex TI.oex TI.iC TI.tI GI hr2 bI .nil pass0 (by rfl) TI.gC (pa_cons (pe_glob (v := .int 24) (by rfl) hlim ⟨_, rfl⟩) pa_nil)))) pss_nil)
        (pss_cons (ps_fld (pv 0) (pe_call GD hr6 (by rfl) mD kD bD .nil (passes_call (takes_of rfl rfl rfl rfl) (fun _ _ _ _ h => h)) (pa_cons (pv 1) pa_nil)) rfl)
        (pss_cons (ps_fld (pv 0) pe_dnewK rfl)
        (pss_cons (ps_for (passes_of rfl) rfl (pi_tup (pv 2)) (pg_tup rfl (pgs_cons (pg_name (i := 3) scTabInit.nd rfl (Or.inl rfl)) (pgs_cons (pg_name (i := 4) scTabInit.nd rfl (Or.inl rfl)) pgs_nil)))
          (pss_cons (ps_expr (pe_call GN hr4 (by rfl) mN kN bN .nil (passes_call (takes_of rfl rfl rfl rfl) (fun _ _ _ _ h => h)) (pa_cons (pv 3) (pa_cons (pe_fld (pv 0) rfl) pa_nil))))
          (pss_cons (ps_expr (pe_call GS hr6 (by rfl) mS kS bS .nil (passes_call (takes_of rfl rfl rfl rfl) (fun _ _ _ _ h => h)) (pa_cons (pv 4) (pa_cons (pe_fld (pv 0) rfl) pa_nil))))
          (pss_one (ps_dput (hu_of hr) (pe_fld (pv 0) rfl) (pv 3) (pe_call GC hr1 (by rfl) mC kC bC .nil pass0 (pa_cons (pe_fld (pv 0) rfl) (pa_cons (pv 4) pa_nil))) rfl)))))
        (pss_one (ps_fld (pv 0) (pe_callTy (call_tuple_dK rfl) (by rfl) T.tup (by decide +kernel) (pa_cons (pe_fld (pv 0) rfl) pa_nil)) rfl))))), ?_⟩
      have small : ∀ n : Nat, n ≤ 2 → n < 1000 := fun n h => by omega
      have hmany : 24 < lamps.length ∨ 24 < (rows.map RowIn.dat).length → Out C H E .many := fun h => Out.of s0 (kx .many (by unfold initT; rw [if_pos h]))
      refine ⟨_, rfl, a, _, rfl, Same.either s0 ha, _, _, rfl, rfl, _, rfl, ?_⟩
      refine ite2 (fun c1 => ?_) (fun c1 => ?_)
      · exact raise_end (hmany (.inl (by have q : (24 : Int) < (lamps.length : Nat) := of_decide_eq_true c1; omega)))
      have c1' : ¬ 24 < lamps.length := fun x => c1 (decide_eq_true (by show (24 : Int) < (lamps.length : Nat); omega))
      refine ⟨_, rfl, b, _, rfl, .inr (Same.tup s0 hb), _, _, rfl, rfl, _, rfl, ?_⟩
      refine ite2 (fun c2 => ?_) (fun c2 => ?_)
      · exact raise_end (hmany (.inr (by
          have q : (24 : Int) < ((rows.map fun r => V.ref r.t).length : Nat) := of_decide_eq_true c2
          rw [List.length_map] at q ⊢
          omega)))
      have c2' : ¬ 24 < (rows.map RowIn.dat).length := fun x => c2 (decide_eq_true (by
        show (24 : Int) < ((rows.map fun r => V.ref r.t).length : Nat)
        rw [List.length_map] at x ⊢
        omega))
      have hT : initT lamps (rows.map RowIn.dat) = match chkNames lamps [] with
          | .error e => .error e
          | .ok ls => match initRows ls (rows.map RowIn.dat) [] with
            | .error e => .error e
            | .ok rs => .ok (ls, rs) := by
        show (if _ then _ else _) = _
        rw [if_neg (by intro z; rcases z with z | z; exact c1' z; exact c2' z)]
        try rfl
      -- self.lamps = distinct_names(lamps)
      refine ⟨_, rfl, a, lamps, rfl, Same.either s0 ha, fun v hv => (hla v hv).of s0, hll, fun ls hls H1 lt s1 hlt e1 => ?_, fun e he => Out.of s0 (kx e (by rw [hT, he]))⟩
      rw [hls] at hT
      dsimp only at hT
      have s01 : Same H0 H1 := s0.trans s1
      refine ⟨_, rfl, p, CT, dx, [], rfl, s1 _ _ hp, T.cl, T.nL, by decide, ?_⟩
      have nltp : lt ≠ p := fun z => by rw [z, hp] at hlt; cases hlt
      have keep0 : ∀ {Hx : Hp} {o : HO}, Same H0 Hx → Same H0 (upd Hx p o) := fun {Hx o} s b u e => by
        rw [upd_ne (ne_of_none e hp0)]; exact s _ _ e
      -- self._shown = {}
      refine fun sd hsd => ⟨_, rfl, p, CT, dx, pf1 (.ref lt), rfl, (by rw [upd_ne (ne_of_none upd_same hsd), upd_same]; rfl), T.cl, T.nS, small _ (Nat.le_trans (pf1_len _) (by decide)), ?_⟩
      have hsd1 : H1 sd = none := by
        have nsd : sd ≠ p := fun z => by rw [z, upd_same] at hsd; cases hsd
        rw [upd_ne nsd] at hsd
        exact hsd
      have nsp : p ≠ sd := fun z => by
        have q := s1 _ _ hp
        rw [z, hsd1] at q
        cases q
      have nls : lt ≠ sd := ne_of_none e1 hsd1
      have hsd0 : H0 sd = none := s01.free hsd1
      refine ⟨_, rfl, b, rfl, ⟨rows.map fun r => V.ref r.t, ?_⟩, for_it (walk_tup (K := K) (a := b) (xs := rows.map fun r => V.ref r.t)) (fun i σ H' => ∃ (x y : Option V) (kvs : List (Key × V)) (acc : List (Str × List Str)),
          σ = [some (.ref p), some (.ref a), some (.ref b), x, y] ∧ H' p = some (.ins CT dx (pf2 (.ref lt) (.ref sd))) ∧ H' lt = some (.tup (ls.map V.str)) ∧ H' sd = some (.dK kvs) ∧ RowsAt H' acc kvs ∧ Same H0 H' ∧
          initRows ls ((rows.map RowIn.dat).drop i) acc = initRows ls (rows.map RowIn.dat) [] ∧ acc.length ≤ i) ?_ ?_ ?_ ?_⟩
      · exact Same.tup (keep0 ((keep0 s01).trans (Same.upd_new hsd))) hb
      · refine ⟨none, none, [], [], rfl, upd_same, ?_, ?_, .nil, keep0 ((keep0 s01).trans (Same.upd_new hsd)), rfl, Nat.le_refl _⟩
        · rw [upd_ne nltp, upd_ne nls, upd_ne nltp]; exact e1
        · rw [upd_ne nsp.symm, upd_same]
      · rintro i σ H' _ ⟨_, _, _, _, _, _, _, _, _, s', _⟩
        exact Same.tup s' hb
      · rintro i v σ H2 H3 hi ⟨x, y, kvs, acc, rfl, h2p, h2l, h2s, hrs, s2, hc, hal⟩ ⟨rfl, hv⟩
        have hv2 : (rows.map fun r => V.ref r.t)[i]? = some v := hv
        rw [List.length_map] at hi
        obtain ⟨r, hr, rfl⟩ : ∃ r, rows[i]? = some r ∧ v = V.ref r.t := by
          rw [List.getElem?_map] at hv2
          cases e : rows[i]? with
          | none => rw [e] at hv2; cases hv2
          | some r => rw [e] at hv2; exact ⟨r, rfl, (Option.some.inj hv2).symm⟩
        have hd : (rows.map RowIn.dat).drop i = (r.look, r.xs) :: (rows.map RowIn.dat).drop (i + 1) := by
          rw [List.drop_eq_getElem_cons (by rw [List.length_map]; exact hi)]
          rw [List.getElem_map, (List.getElem?_eq_some_iff.mp hr).2]
          rfl
        rw [hd] at hc
        have R := hrw r (List.mem_of_getElem? hr)
        have R2 := R.of s2
        refine ⟨r.t, _, rfl, R2.pair, rfl, _, _, rfl, _, _, rfl, rfl, ?_⟩
        -- check_new(look, self._shown)
        refine ⟨_, rfl, _, rfl, p, CT, dx, _, _, rfl, h2p, T.cl, T.nS, pf2_shown _ _, r.look, sd, kvs, acc.map (·.1), rfl, R2.name, h2s, hrs.keys, fun H4 s4 hn => ?_, fun e he => ?_⟩
        · obtain ⟨z, ez, hz, hza⟩ := chkNew_none hn
          -- _check_shown(shown, self.lamps)
          refine ⟨_, rfl, _, rfl, p, CT, dx, _, _, rfl, s4 _ _ h2p, T.cl, T.nL, pf2_lamps _ _, r.s, lt, r.xs, ls, rfl, Same.either s4 R2.seq, (R2.of s4).all, R.len, SqT.of (s4 _ _ h2l), fun H5 hsn s5 => ?_, fun e he => ?_⟩
          · -- self._shown[look] = _chosen_of(self.lamps, shown)
            have s45 : Same H3 H5 := s4.trans s5
            have hxs : r.xs = (r.xs.map strOf).map V.str := shown_strs hsn
            refine ⟨_, rfl, p, CT, dx, _, _, rfl, s45 _ _ h2p, T.cl, T.nL, pf2_lamps _ _, _, rfl, lt, r.s, ls, r.xs.map strOf, rfl, SqT.of (s45 _ _ h2l), (by rw [← hxs]; exact Same.either s45 R2.seq), ?_, fun H6 t s6 ht et => ?_⟩
            · have q := names_len hls
              simp at q
              omega
            · have s26 : Same H3 H6 := s45.trans s6
              refine ⟨_, rfl, p, CT, dx, _, _, rfl, s26 _ _ h2p, T.cl, T.nS, pf2_shown _ _, _, rfl, sd, _, rfl, (by rw [ez]; exact DPut.k (k := Sum.inr z) (s26 _ _ h2s) (by rw [hrs.length]; exact small1000 (by omega))), ?_⟩
              have hval : valV kvs (Sum.inr z) = none := by
                have q := isSome_valV (es := acc.map (·.1)) hrs.keys (z := z)
                rw [decide_eq_false hza] at q
                cases e : valV kvs (Sum.inr z) with
                | none => rfl
                | some u => rw [e] at q; cases q
              rw [putK_new _ hval]
              have tups : ∀ b xs, H6 b = some (.tup xs) → upd H6 sd (.dK (kvs ++ [(Sum.inr z, .ref t)])) b = some (.tup xs) := fun b xs e => by
                have nb : b ≠ sd := fun q => by rw [q, s26 _ _ h2s] at e; cases e
                rw [upd_ne nb]; exact e
              refine ⟨_, _, kvs ++ [(Sum.inr z, .ref t)], acc ++ [(z, chosen ls (r.xs.map strOf))], rfl, ?_, tups _ _ (s26 _ _ h2l), upd_same, ?_, fun b o e => ?_, ?_, ?_⟩
              · have np : p ≠ sd := nsp
                rw [upd_ne np]; exact s26 _ _ h2p
              · exact (hrs.of fun b xs e => tups b xs (s26 _ _ e)).snoc (tups _ _ et)
              · rw [upd_ne (ne_of_none e hsd0)]
                exact s26 _ _ (s2 _ _ e)
              · rw [← hc, initRows, hn, hsn, ez]
                rfl
              · rw [List.length_append]
                simp
                omega
          · have hce : initRows ls (rows.map RowIn.dat) [] = .error e := by rw [← hc, initRows, hn, he]
            exact Out.of (s2.trans s4) (kx e (by rw [hT, hce]))
        · have hce : initRows ls (rows.map RowIn.dat) [] = .error e := by rw [← hc, initRows, he]
          exact Out.of s2 (kx e (by rw [hT, hce]))
      · rintro σ H2 ⟨x, y, kvs, acc, rfl, h2p, h2l, h2s, hrs, s2, hc, hal⟩
        have hc' : initRows ls (rows.map RowIn.dat) [] = .ok acc := by
          rw [← hc, List.drop_eq_nil_of_le (by simp)]
          rfl
        -- self.looks = tuple(self._shown)
        refine ⟨_, rfl, p, CT, dx, _, _, rfl, h2p, T.cl, T.nS, pf2_shown _ _, sd, kvs, rfl, h2s, fun kt hkt => ?_⟩
        have ntp : p ≠ kt := ne_of_none h2p hkt
        refine ⟨_, rfl, p, CT, dx, _, rfl, (by rw [upd_ne ntp]; exact h2p), T.cl, T.nK, small _ (pf2_len _ _), ?_⟩
        refine k ls acc (by rw [hT, hc']) _ (keep0 (s2.trans (Same.upd_new hkt))) ⟨dx, lt, sd, kt, kvs, upd_same, ?_, ?_, ?_, ?_⟩
        · rw [upd_ne nltp, upd_ne (ne_of_none h2l hkt)]; exact h2l
        · rw [upd_ne nsp.symm, upd_ne (ne_of_none h2s hkt)]; exact h2s
        · have q : (kvs.map fun kv => kV kv.1) = (kvs.map (·.1)).map kV := by rw [List.map_map]; rfl
          rw [upd_ne ntp.symm, upd_same, q, hrs.keys, List.map_map]
          rfl
        · refine hrs.of fun b xs e => ?_
          have nb : b ≠ p := fun q => by rw [q, h2p] at e; cases e
          rw [upd_ne nb, upd_ne (ne_of_none e hkt)]; exact e
end
end Dl

/-! len(o) and o[k] by the class's own __len__ and __getitem__ -/
namespace Dl
open PySem PySem.Spec PyProof.Rows L2
section
variable {X : Cx} {CX : CXT} {k : Nat} {C f : Addr} {fd : FuncData} {ps : List Str} {sp : Sp} {E : XK}
theorem run_at {A : Around} {pins : List (Addr × Obj)} {σ : L2.St} {H : Hp} {s : Shared} {Q : VK} {us : List Value} {vs : List V} (hA : A.frames = X.A.frames) (F : FnOk X.prog X.w X.K X.mg X.base CX k f fd ps sp) (hr : Room k A)
    (hb : Binds X.K fd ps []) (hx : Passes CX X E) (I : Inv X pins σ H s) (r : Vals vs us) (h : sp vs H Q E) : wpAny (model X.prog X.w) A (call (.ref f) us) (EP X pins σ Q) X.xe s := by
  have e0 : Env0 X.prog X.w X.K X.mg X.base A X.stack s H := by
    have e := I.env0
    exact ⟨by rw [hA]; exact e.frames, e.mod, e.bs, e.bsz, e.funs, e.frf, e.hok, e.bare⟩
  have hl := F.len _ _ _ _ h
  refine wpAny_call (codeAny_mono (F.run A X.stack s H ⟨us, []⟩ us vs Q E hr e0 (by
    have := hb s us I.kIn (by rw [List.append_nil, ← r.length]; exact hl)
    simpa using this) r h) fun r s' hq => ?_)
  cases r with
  | error e => exact hx pins σ H s e s' I hq
  | ok fl =>
    cases fl with
    | ret u => exact I.after hq
    | next => exact False.elim hq
    | brk => exact False.elim hq
    | cont => exact False.elim hq
def rLenOwn (C : Addr) (sp : Sp) (E : XK) : List V → Hp → VK → Prop := fun xs H Q => ∃ a dx fs, xs = [.ref a] ∧ H a = some (.ins C dx fs) ∧ sp [.ref a] H (fun v H' => ∃ n : Nat, v = .int (n : Int) ∧ n ≤ 1000 ∧ Q (.int (n : Int)) H') E
theorem call_lenOwn (F : FnOk X.prog X.w X.K X.mg X.base CX k f fd ps sp) (hs : PySem.W.findIn X.K (.ref C) "__len__" = some (some (.ref f))) (hf : PySem.W.isFn X.K (.ref f) = true) (hr : Room (k + 1) X.A) (hb : Binds X.K fd ps []) (hx : Passes CX X E) :
    CallR X (.builtin "len") (rLenOwn C sp E) := by
  intro pins s σ H xs us Q I r h
  obtain ⟨a, dx, fs, rfl, ha, hsp⟩ := h
  obtain ⟨u, rfl, rx⟩ := vals1 r
  cases rx
  obtain ⟨mA, J, _⟩ := ins_get I.hok ha
  obtain ⟨od, J, _⟩ := J.look
  obtain ⟨m, hF⟩ := I.fr
  refine PySem.W.len_K hF I.ok.mod.kin J hs hf ?_
  refine wpAny_mono (run_at (A := X.A.in1) rfl F hr.in1 hb hx I (show Vals [V.ref a] [Value.ref a] from .cons rfl .nil) hsp) (fun v s' hv => ?_) fun _ _ y => y
  obtain ⟨z, H', I', rz, n, ez, hn, q⟩ := hv
  subst ez
  obtain ⟨t, rfl⟩ := rz
  exact ⟨⟨by omega, by omega⟩, ⟨.int n, H', I'.tok _, ⟨_, rfl⟩, q⟩⟩
def rIxOwn (C : Addr) (sp : Sp) (E : XK) : R2 := fun x y H Q => ∃ a dx fs, x = .ref a ∧ H a = some (.ins C dx fs) ∧ sp [.ref a, y] H Q E
theorem pe_ixOwn {a b : Expr} {ta tb : TE} {pos : Pos} (F : FnOk X.prog X.w X.K X.mg X.base CX k f fd ps sp) (hs : PySem.W.findIn X.K (.ref C) "__getitem__" = some (some (.ref f))) (hfn : PySem.W.fnIn X.K f = true) (hf : PySem.W.isFn X.K (.ref f) = true)
    (hr : Room (k + 1) X.A) (hb : Binds X.K fd ps []) (hx : Passes CX X E) (ha : PE X a ta) (hb' : PE X b tb)
    (hsl : ∀ v u, subscripted b true v u = runValue (.builtin "lifetime.subscript" ⟨[v, u], []⟩) := by intros; rfl) : PE X (.Subscript a b pos) (tOp (rIxOwn C sp E) ta tb) := by
  refine ⟨fun pins s σ H Q I h => ?_⟩
  refine Subscript_ (binT ha hb' I h fun v u s2 x y H2 I2 rx ry q => ?_)
  obtain ⟨p, dx, fs, rfl, hp, hsp⟩ := q
  cases rx
  obtain ⟨mA, J, _⟩ := ins_get I2.hok hp
  obtain ⟨od, J, _⟩ := J.look
  obtain ⟨m, hF⟩ := I2.fr
  exact PySem.W.sub_K hF I2.ok.mod.kin J hs hfn hf (run_at (A := X.A.in1) rfl F hr.in1 hb hx I2 (show Vals [V.ref p, y] [Value.ref p, u] from .cons rfl (.cons ry .nil)) hsp) (hsl _ _)
end
end Dl

namespace Dl
open PySem L2
/-! ### methods of a table -/
def spAllKnown (K : PySem.W.Frag) (C : Cs) : Sp := fun vs H Q E => ∃ (p q : Addr) (xs : List V) (es : List Str), vs = [.ref p, .ref q] ∧ SqT K H p xs ∧ (∀ v ∈ xs, NmOk H v) ∧ SqT K H q (es.map V.str) ∧
  ((xs.find? fun v => !knows v es) = none → Q .non H) ∧ ∀ v, (xs.find? fun v => !knows v es) = some v → Out1 C.unk "name" v H E
/-- what a method may lean on: a table that was made by the checks -/
structure TabOk (ls : List Str) (rs : List (Str × List Str)) : Prop where
  lnd : ls.Nodup
  lval : ∀ z ∈ ls, validN z = true
  lfew : ls.length ≤ 24
  knd : (rs.map (·.1)).Nodup
  kval : ∀ x ∈ rs, validN x.1 = true
  kfew : rs.length ≤ 24
  sub : ∀ x ∈ rs, x.2.Sublist ls
theorem RowsAt.val {H : Hp} {rs : List (Str × List Str)} {kvs : List (Key × V)} (h : RowsAt H rs kvs) : (rs.map (·.1)).Nodup → ∀ {x : Str × List Str}, x ∈ rs → ∃ a, valV kvs (Sum.inr x.1) = some (.ref a) ∧ H a = some (.tup (x.2.map V.str)) := by
  induction h with
  | nil => intro _ x hx; cases hx
  | @cons k sh a r kvs e h ih =>
    intro nd x hx
    rw [List.map_cons, List.nodup_cons] at nd
    rcases List.mem_cons.mp hx with rfl | hx
    · exact ⟨a, by simp [valV], e⟩
    · have ne : ¬ k = x.1 := fun q => nd.1 (by rw [q]; exact List.mem_map.mpr ⟨x, hx, rfl⟩)
      obtain ⟨b, h1, h2⟩ := ih nd.2 hx
      refine ⟨b, ?_, h2⟩
      unfold valV at h1 ⊢
      rw [List.find?_cons_of_neg (by simpa using ne)]
      exact h1
/-- a pair of rows() -/
structure RowT (H : Hp) (r : RowIn) : Prop where
  pair : H r.t = some (.tup [r.look, .ref r.s])
  tup : H r.s = some (.tup r.xs)
theorem RowT.of {H H' : Hp} {r : RowIn} (s : Same H H') (h : RowT H r) : RowT H' r := ⟨s _ _ h.pair, s _ _ h.tup⟩
def rdat (x : Str × List Str) : V × List V := (.str x.1, x.2.map V.str)
def spTRows (K : PySem.W.Frag) (CT : Addr) : Sp := fun vs H Q _ => ∃ (p : Addr) (ls : List Str) (rs : List (Str × List Str)), vs = [.ref p] ∧ TableAt CT H p ls rs ∧ TabOk ls rs ∧
  ∀ (H' : Hp) (l : Addr) (rows : List RowIn), Same H H' → H l = none → H' l = some (.lst (rows.map fun r => V.ref r.t)) → (∀ r ∈ rows, RowT H' r) → rows.map RowIn.dat = rs.map rdat → Q (.ref l) H'
section
variable {P : Program} {w : World} {K : PySem.W.Frag} {mg : Str → Option Value} {base : Heap} {C : Cs} {CT : Addr}
theorem scCheckAll : FnScope ["chosen", "names", "name"] ["chosen", "names"] (defScope sCheckAll) := ⟨rfl, rfl, rfl, by decide +kernel, rfl, by decide +kernel, by decide +kernel⟩
theorem ok_checkall {f : Addr} {fd : FuncData} (F : Fun K "check_all_known" "check_all_known" sCheckAll f fd) (gK : Dfn P w K mg base (L2.CX P w) 4 "check_known" ["name", "names"] (spKnown K C)) :
    FnOk P w K mg base (L2.CX P w) 5 f fd ["chosen", "names"] (spAllKnown K C) := by
  obtain ⟨fK, dK, mK, kK, bK, GK⟩ := gK
  refine F.okX scCheckAll (fun vs H Q E h => ?_) (fun cdv A outer s H vs Q E hr h => ?_)
  · obtain ⟨a, b, xs, es, rfl, _⟩ := h
    rfl
  · obtain ⟨p, q, xs, es, rfl, hp, hx, hq, k, kx⟩ := h
    have hr4 : Room 4 _ := hr
    refine ⟨_, (pss_one (ps_for (passes_of rfl) rfl (pi_tup (pv 0)) (pg_name (i := 2) scCheckAll.nd rfl (Or.inl rfl)) (pss_one (ps_expr (pe_call GK hr4 (by rfl) mK kK bK .nil (passes_call (takes_of rfl rfl rfl rfl) (fun _ _ _ _ h => h)) (pa_cons (pv 2) (pa_cons (pv 1) pa_nil))))))), ?_⟩
    refine ⟨_, rfl, p, rfl, ⟨_, hp⟩, for_it (walk_tup (K := K) (a := p) (xs := xs)) (fun i σ H' => H' = H ∧ (∃ x, σ = [some (.ref p), some (.ref q), x]) ∧ (xs.find? fun v => !knows v es) = ((xs.drop i).find? fun v => !knows v es))
      ⟨rfl, ⟨none, rfl⟩, rfl⟩ (fun i σ H' _ ⟨e, _⟩ => by rw [e]; exact hp) ?_ ?_⟩
    · rintro i v σ H1 H2 hi ⟨rfl, ⟨x, rfl⟩, hf⟩ ⟨rfl, hv⟩
      have hd : xs.drop i = v :: xs.drop (i + 1) := by
        rw [List.drop_eq_getElem_cons hi]
        have q := (List.getElem?_eq_some_iff.mp hv).2
        rw [q]
      rw [hd] at hf
      refine ⟨_, rfl, _, rfl, v, q, es, rfl, hx v (List.mem_of_getElem? hv), hq, fun hk => ?_, fun hk => ?_⟩
      · refine ⟨rfl, ⟨_, rfl⟩, ?_⟩
        rw [hf, List.find?_cons_of_neg (by rw [hk]; decide)]
      · refine kx v ?_
        rw [hf, List.find?_cons_of_pos (by rw [hk]; decide)]
    · rintro σ H1 ⟨rfl, ⟨x, rfl⟩, hf⟩
      rw [List.drop_length] at hf
      exact k hf
theorem scTRows : FnScope ["self", "look"] ["self"] (defScope sTableRows) := ⟨rfl, rfl, rfl, by decide +kernel, rfl, by decide +kernel, by decide +kernel⟩
theorem ok_trows {f : Addr} {fd : FuncData} (F : Fun K "rows" "Table.rows" sTableRows f fd) (cl : Cls K CT) (nK : NoAttr K CT "looks") (nS : NoAttr K CT "_shown") : FnOk P w K mg base CX0 1 f fd ["self"] (spTRows K CT) := by
  refine F.ok scTRows (fun vs H Q E h => ?_) (fun cdv A outer s H vs Q E hr h => ?_)
  · obtain ⟨a, ls, rs, rfl, _⟩ := h
    rfl
  · obtain ⟨p, ls, rs, rfl, ⟨dx, lt, sd, kt, kvs, hp, hlt, hsd, hkt, hrs⟩, ok, k⟩ := h
    refine ⟨_, (pss_one (ps_ret (pe_lc (own := [("look", 1)]) (g := gName 1) (tt := tYes) (te := tTup (tCons (tVar 1) (tCons (tDGet (tFld K (tVar 0) "_shown") (tVar 1)) tNil))) rfl scTRows.nd (pi_tup (pe_fld (pv 0) rfl)) (blkOk_by (N := ["self", "look"]) (sc := defScope sTableRows) (by decide +kernel)) (fun _ _ _ _ _ => (pg_name (i := 1) scTRows.nd rfl (Or.inl rfl))) (fun _ _ _ _ _ => pts_nil)
      (fun _ _ _ _ _ => (pe_tup (pa_cons (pv 1) (pa_cons (pe_dget (hu_of hr) (pe_fld (pv 0) rfl) (pv 1) (fun _ _ => rfl)) pa_nil))))))), ?_⟩
    refine ⟨_, rfl, p, CT, dx, _, _, rfl, hp, cl, nK, pf3_looks _ _ _, kt, rfl, ⟨_, SqT.of hkt⟩, fun D hD => lc_it (walk_tup (K := K) (a := kt) (xs := (rs.map (·.1)).map V.str)) (fun i H' => ∃ rows : List RowIn, Same H H' ∧ H' D = some (.lst (rows.map fun r => V.ref r.t)) ∧ (∀ r ∈ rows, RowT H' r) ∧ rows.map RowIn.dat = (rs.take i).map rdat)
      ⟨[], Same.upd_new hD, upd_same, fun r hr => absurd hr (by simp), rfl⟩ (fun i H' _ ⟨_, s1, _⟩ => SqT.of (s1 _ _ hkt)) ?_ ?_⟩
    · rintro i v H1 H2 hi ⟨rows, s1, hD1, hrt, hdat⟩ ⟨rfl, hv⟩
      have hv2 : ((rs.map (·.1)).map V.str)[i]? = some v := hv
      rw [List.getElem?_map, List.getElem?_map] at hv2
      cases hri : rs[i]? with
      | none => rw [hri] at hv2; cases hv2
      | some x =>
      rw [hri] at hv2
      obtain rfl : V.str x.1 = v := Option.some.inj hv2
      obtain ⟨a, hval, ha⟩ := hrs.val ok.knd (List.mem_of_getElem? hri)
      have hsd1 := s1 _ _ hsd
      have dg : DGet H2 sd (kV (Sum.inr x.1)) (some (.ref a)) := by rw [← hval]; exact DGet.k hsd1
      have hlen : rows.length ≤ 24 := by
        have q := congrArg List.length hdat
        rw [List.length_map, List.length_map, List.length_take] at q
        have := ok.kfew
        omega
      refine ⟨rfl, _, rfl, _, rfl, p, CT, dx, _, _, rfl, s1 _ _ hp, cl, nS, pf3_shown _ _ _, _, rfl, sd, _, rfl, dg, by show 2 ≤ sizeLine; decide, fun t ht => ?_⟩
      have ntD : D ≠ t := ne_of_none hD1 ht
      refine ⟨_, by rw [upd_ne ntD]; exact hD1, by rw [List.length_map]; exact small1000 (by omega), rows ++ [⟨t, .str x.1, a, x.2.map V.str⟩], fun c o h => ?_, by rw [upd_same, List.map_append]; rfl, fun r hr => ?_, ?_⟩
      · rw [upd_ne (ne_of_none h hD), upd_ne (ne_of_none (s1 _ _ h) ht)]
        exact s1 _ _ h
      · have keep : ∀ {c : Addr} {ys : List V}, H2 c = some (.tup ys) → upd (upd H2 t (.tup [.str x.1, .ref a])) D (.lst ((rows.map fun r => V.ref r.t) ++ [.ref t])) c = some (.tup ys) := fun {c ys} h => by
          have nD : c ≠ D := fun q => by rw [q, hD1] at h; cases h
          rw [upd_ne nD, upd_ne (ne_of_none h ht)]
          exact h
        rcases List.mem_append.mp hr with h | h
        · exact ⟨keep (hrt r h).pair, keep (hrt r h).tup⟩
        · obtain rfl := List.mem_singleton.mp h
          exact ⟨by rw [upd_ne ntD.symm, upd_same], keep (s1 _ _ ha)⟩
      · have e : rs.take (i + 1) = rs.take i ++ [x] := by rw [List.take_succ, hri]; rfl
        rw [List.map_append, hdat, e, List.map_append]
        rfl
    · rintro H1 ⟨rows, s1, hD1, hrt, hdat⟩
      rw [List.length_map, List.length_map, List.take_length] at hdat
      exact k H1 D rows s1 hD hD1 hrt hdat
end
end Dl

/-! C(e, ..) in a try's body: what the class's __init__ lets out is wished for at the caller's slots; lists of texts as data -/
namespace Dl
open PySem PySem.Spec PyProof.Rows L2
def tMakeS (C : Addr) (sp : Sp) (E : L2.St → XK) (t : TA) : TE := fun σ H Q => t σ H fun vs H1 =>
  ∀ x dx, H1 x = none → H1 dx = none → dx ≠ x → sp (.ref x :: vs) (upd (upd H1 dx (.own x)) x (.ins C dx [])) (fun v H2 => v = .non ∧ Q (.ref x) H2) (E σ)
theorem make_slots {X : Cx} {CX : CXT} {k : Nat} {f C : Addr} {fd : FuncData} {ps : List Str} {sp : Sp} {E : XK} {σ : L2.St} {pins : List (Addr × Obj)} {H : Hp} {s : Shared} {Q : VK} {us : List Value} {vs : List V}
    (M : Mk X.K C f) (F : FnOk X.prog X.w X.K X.mg X.base CX k f fd ps sp) (hr : Room (k + 1) X.A) (hb : Binds X.K fd ps []) (hx : PassesAt CX X σ E) (I : Inv X pins σ H s) (r : Vals vs us)
    (h : ∀ x dx, H x = none → H dx = none → dx ≠ x → sp (.ref x :: vs) (upd (upd H dx (.own x)) x (.ins C dx [])) (fun v H2 => v = .non ∧ Q (.ref x) H2) E) :
    wpAny (model X.prog X.w) X.A (call (.ref C) us) (EP X pins σ Q) X.xe s := by
  have at0 : H s.heap.objs.size = none := I.hok.fresh (Nat.le_refl _)
  have at1 : H (s.heap.objs.size + 1) = none := I.hok.fresh (Nat.le_succ _)
  have want := h _ _ at1 at0 (Nat.ne_of_lt (Nat.lt_succ_self _))
  have J := Inv.made (C := C) I
  have rv : Vals (V.ref (s.heap.objs.size + 1) :: vs) (Value.ref (s.heap.objs.size + 1) :: us) := .cons rfl r
  have len : (Value.ref (s.heap.objs.size + 1) :: us).length = ps.length := by rw [← rv.length]; exact F.len _ _ _ _ want
  have bind := hb _ (Value.ref (s.heap.objs.size + 1) :: us) J.kIn (by rw [List.append_nil]; exact len)
  rw [List.append_nil] at bind
  have body := F.run _ X.stack _ _ ⟨Value.ref (s.heap.objs.size + 1) :: us, []⟩ _ _ _ E (hr.make C us []) (J.env0.make C us []) bind rv want
  apply wpAny_call
  apply make_map (f := f) I.kIn M.makes M.init (beq_iff_eq.mp M.fn)
  apply codeAny_mono body
  intro out s2 hout
  match out, hout with
  | .error er, hout => exact hx pins _ _ er s2 J hout
  | .ok (.ret u), hout =>
    obtain ⟨v, H2, J2, rel, ev, q⟩ := J.after hout
    cases ev
    exact ⟨rel, V.ref (s.heap.objs.size + 1), H2, J2, rfl, q⟩
theorem pe_makeS {X : Cx} {CX : CXT} {k : Nat} {f C : Addr} {fd : FuncData} {ps : List Str} {sp : Sp} {E : L2.St → XK} {x : Str} {p pos : Pos} {e : Expr} {es : List Expr} {t : TA}
    (M : Mk X.K C f) (F : FnOk X.prog X.w X.K X.mg X.base CX k f fd ps sp) (hr : Room (k + 1) X.A) (hg : Gl X x) (hm : X.mg x = some (.ref C)) (hb : Binds X.K fd ps []) (hx : ∀ σ, PassesAt CX X σ (E σ)) (ha : PA X (e :: es) t)
    (hdb : (x == ("__debug__" : Str)) = false := by decide) (he : starEach (e :: es) X.env = (false, eval e X.env) :: starEach es X.env := by rfl) (hpl : (backTo pos (starEach es X.env)).any (·.1) = false := by rfl) :
    PE X (.Call (.Name x p) (e :: es) [] pos) (tMakeS C sp E t) := by
  constructor
  intro pins s σ H Q I h
  apply wpAny_Call_Name_kw
  apply ld_glob I hg hm _ hdb
  apply PySem.W.callWith_K (h₀ := X.base) I.ok.mod.kin M.kp _ he hpl
  apply thn (ha.run pos pins s σ H _ I h)
  rintro us s1 ⟨vs, H1, I1, r, q⟩
  exact ⟨I1.kIn, make_slots M F hr hb (hx σ) I1 r q⟩
/-! ### lists and tuples of texts as data -/
theorem canAll_strs : ∀ {zs : List Str}, (∀ z ∈ zs, PyData.canLay0 (.str z) = true) → PyData.canLayAll0 (zs.map PyData.str) = true
  | [], _ => by simp [PyData.canLayAll0]
  | z :: r, h => by
    rw [List.map_cons, PyData.canLayAll0, Bool.and_eq_true]
    exact ⟨h z (List.mem_cons_self ..), canAll_strs fun y hy => h y (List.mem_cons_of_mem _ hy)⟩
theorem depthAll_strs : ∀ zs : List Str, PyData.depthAll (zs.map PyData.str) = 0
  | [] => by simp [PyData.depthAll]
  | z :: r => by rw [List.map_cons, PyData.depthAll, depthAll_strs r]; simp [PyData.depth]
theorem shaped_strs {zs : List Str} (h : ∀ z ∈ zs, PyData.canLay0 (.str z) = true) : SeqAt.shaped (.list (zs.map PyData.str)) = true := by
  unfold SeqAt.shaped
  rw [Bool.and_eq_true, PyData.canLay0, PyData.depth, depthAll_strs]
  exact ⟨canAll_strs h, by decide⟩
theorem dpAll_strs {K : PySem.W.Frag} {H : Hp} : ∀ zs : List Str, DpAll K H (zs.map V.str) (zs.map PyData.str)
  | [] => .nil
  | z :: r => .cons (.str z) (dpAll_strs r)
theorem eqvAll_strs : ∀ zs ys : List Str, PyData.eqvAll (zs.map PyData.str) (ys.map PyData.str) = decide (zs = ys)
  | [], [] => by simp [PyData.eqvAll]
  | [], _ :: _ => by simp [PyData.eqvAll]
  | _ :: _, [] => by simp [PyData.eqvAll]
  | z :: r, y :: q => by
    rw [List.map_cons, List.map_cons, PyData.eqvAll, eqvAll_strs r q, PyData.eqv]
    by_cases h1 : z = y <;> by_cases h2 : r = q <;> simp [h1, h2]
end Dl

namespace Dl
open PySem PySem.Spec PyProof.Rows L2
/-! ### the drawn names: one to three letters, and the number of the names before where it was there -/
def LT : Str := "abcdefghijklmnopqrstuvwxyz"
def isLet (c : Nat) : Prop := 97 ≤ c ∧ c ≤ 122
def dg (n : Nat) : List Nat := (Str.ofString (toString (n : Int))).cps.toList
theorem lt_facts : ∀ c ∈ LT.cps.toList, 97 ≤ c ∧ c ≤ 122 := by decide +kernel
theorem lt_len : LT.cps.toList.length = 26 := by decide +kernel
theorem dg_facts : ∀ k, k < 25 → dg k ≠ [] ∧ (dg k).length ≤ 2 ∧ ∀ c ∈ dg k, ¬ (97 ≤ c ∧ c ≤ 122) ∧ c ∈ SG.cps.toList ∧ c < 1114112 := by decide +kernel
theorem dg_inj : ∀ j, j < 25 → ∀ k, k < 25 → dg j = dg k → j = k := by decide +kernel
theorem let_sg : ∀ c, c < 123 → 97 ≤ c → c ∈ SG.cps.toList ∧ c < 1114112 := by decide +kernel
theorem sg_small' : ∀ c ∈ SG.cps.toList, c < 1114112 := by decide +kernel
theorem nil_codes : ("" : Str).cps.toList = [] := by decide +kernel
/-- the name that was drawn as number i -/
structure NameAt (i : Nat) (z : Str) : Prop where
  ex : ∃ l : List Nat, l ≠ [] ∧ l.length ≤ 3 ∧ (∀ c ∈ l, isLet c) ∧ (z.cps.toList = l ∨ z.cps.toList = l ++ dg i)
structure NamesOk (zs : List Str) : Prop where
  at_ : ∀ i z, zs[i]? = some z → NameAt i z
  nd : zs.Nodup
  few : zs.length ≤ 24
theorem codes_ext {a b : Str} (h : a.cps.toList = b.cps.toList) : a = b := by
  cases a; cases b
  congr
  exact Array.ext' h
theorem let_dg {l l' : List Nat} {j k : Nat} (hj : j < 25) (hk : k < 25) (hl : ∀ c ∈ l, isLet c) (hl' : ∀ c ∈ l', isLet c) (h : l' ++ dg j = l ++ dg k) : j = k := by
  have tw : ∀ (m d : List Nat), (∀ c ∈ m, isLet c) → (∀ c ∈ d, ¬ isLet c) → (m ++ d).dropWhile (fun c => decide (97 ≤ c ∧ c ≤ 122)) = d := by
    intro m
    induction m with
    | nil =>
      intro d _ hd
      cases d with
      | nil => rfl
      | cons a r =>
        have q : ¬ (97 ≤ a ∧ a ≤ 122) := hd a (List.mem_cons_self ..)
        simp only [List.nil_append, List.dropWhile]
        rw [decide_eq_false q]
    | cons a r ih =>
      intro d hm hd
      have q : 97 ≤ a ∧ a ≤ 122 := hm a (List.mem_cons_self ..)
      rw [List.cons_append, List.dropWhile, decide_eq_true q]
      exact ih d (fun c hc => hm c (List.mem_cons_of_mem _ hc)) hd
  have e := congrArg (List.dropWhile fun c => decide (97 ≤ c ∧ c ≤ 122)) h
  rw [tw l' (dg j) hl' fun c hc => ((dg_facts j hj).2.2 c hc).1, tw l (dg k) hl fun c hc => ((dg_facts k hk).2.2 c hc).1] at e
  exact dg_inj j hj k hk e
theorem fresh_tail {zs : List Str} {l : List Nat} {z : Str} (ok : NamesOk zs) (h23 : zs.length ≤ 23) (hl : ∀ c ∈ l, isLet c) (hz : z.cps.toList = l ++ dg zs.length) : z ∉ zs := by
  intro hm
  obtain ⟨i, hi⟩ := List.getElem?_of_mem hm
  have hlt : i < zs.length := (List.getElem?_eq_some_iff.mp hi).1
  obtain ⟨l', _, _, hl', e⟩ := (ok.at_ i z hi).ex
  rcases e with e | e
  · rw [hz] at e
    have d := dg_facts zs.length (by omega)
    cases hd : dg zs.length with
    | nil => exact d.1 hd
    | cons c r =>
      have m1 : c ∈ l' := by rw [← e, hd]; simp
      have m2 : c ∈ dg zs.length := by rw [hd]; simp
      exact (d.2.2 c m2).1 (hl' c m1)
  · rw [hz] at e
    have := let_dg (by omega) (by omega) hl hl' e.symm
    omega
theorem NameAt.sg {i : Nat} {z : Str} (h : NameAt i z) (hi : i < 25) : (∀ c ∈ z.cps.toList, c ∈ SG.cps.toList) ∧ 1 ≤ z.length ∧ z.length ≤ 5 := by
  obtain ⟨l, h1, h2, h3, h4⟩ := h.ex
  have zl : z.length = z.cps.toList.length := by simp [Str.length]
  have l1 : 1 ≤ l.length := by cases l with | nil => exact absurd rfl h1 | cons _ _ => simp
  have d := dg_facts i hi
  rcases h4 with e | e
  · refine ⟨fun c hc => ?_, by rw [zl, e]; exact l1, by rw [zl, e]; omega⟩
    rw [e] at hc
    exact (let_sg c (by have := (h3 c hc).2; omega) (h3 c hc).1).1
  · refine ⟨fun c hc => ?_, by rw [zl, e, List.length_append]; omega, by rw [zl, e, List.length_append]; omega⟩
    rw [e] at hc
    rcases List.mem_append.mp hc with hc | hc
    · exact (let_sg c (by have := (h3 c hc).2; omega) (h3 c hc).1).1
    · exact (d.2.2 c hc).2.1
theorem NameAt.valid {i : Nat} {z : Str} (h : NameAt i z) (hi : i < 25) : validN z = true := by
  obtain ⟨h1, h2, h3⟩ := h.sg hi
  unfold validN
  rw [decide_eq_true h2, decide_eq_true (show z.length ≤ 12 by omega), List.all_eq_true.mpr fun c hc => decide_eq_true (h1 c hc)]
  rfl
theorem NamesOk.valid {zs : List Str} (ok : NamesOk zs) {z : Str} (hz : z ∈ zs) : validN z = true := by
  obtain ⟨i, hi⟩ := List.getElem?_of_mem hz
  have hlt : i < zs.length := (List.getElem?_eq_some_iff.mp hi).1
  exact (ok.at_ i z hi).valid (by have := ok.few; omega)
theorem valid_small {z : Str} (h : validN z = true) : z.length ≤ 12 ∧ (∀ c ∈ z.cps.toList, c < 1114112) := by
  unfold validN at h
  simp only [Bool.and_eq_true, decide_eq_true_eq] at h
  exact ⟨h.2.1, fun c hc => sg_small' c (of_decide_eq_true (List.all_eq_true.mp h.2.2 c hc))⟩
/-- everything but the bag at b stands -/
def SameB (b : Addr) (H H' : Hp) : Prop := ∀ c o, c ≠ b → H c = some o → H' c = some o
theorem SameB.refl (b : Addr) (H : Hp) : SameB b H H := fun _ _ _ h => h
theorem SameB.trans {b : Addr} {H H1 H2 : Hp} (s : SameB b H H1) (t : SameB b H1 H2) : SameB b H H2 := fun c o n h => t c o n (s c o n h)
theorem SameB.upd {b : Addr} {H : Hp} {o : HO} : SameB b H (upd H b o) := fun c u n h => by rw [upd_ne n]; exact h
theorem SameB.of {b : Addr} {H H' : Hp} (s : Same H H') : SameB b H H' := fun c o _ h => s c o h
theorem SameB.free {b : Addr} {H H' : Hp} (s : SameB b H H') {c : Addr} (n : c ≠ b) (h : H' c = none) : H c = none := by
  cases e : H c with
  | none => rfl
  | some o => rw [s c o n e] at h; cases h
theorem upd_none {H : Hp} {b c : Addr} {o : HO} (h : upd H b o c = none) : H c = none ∧ c ≠ b := by
  by_cases e : c = b
  · subst e; rw [upd_same] at h; cases h
  · rw [upd_ne e] at h; exact ⟨h, e⟩
structure TxtM (mg : Str → Option Value) : Prop where
  range : mg "range" = none
  len : mg "len" = none
  str : mg "str" = none
def spName : Sp := fun vs H Q _ => ∃ (b u : Addr) (L : List Int) (zs : List Str), vs = [.ref b, .ref u] ∧ H b = some (.lst (L.map V.int)) ∧ BagOk L ∧ u ≠ b ∧ H u = some (.lst (zs.map V.str)) ∧ NamesOk zs ∧ zs.length ≤ 23 ∧
  ∀ (L' : List Int) (z : Str), BagOk L' → NameAt zs.length z → z ∉ zs → Q (.str z) (upd H b (.lst (L'.map V.int)))
def spNames : Sp := fun vs H Q _ => ∃ (b : Addr) (L : List Int) (n : Int), vs = [.ref b, .int n] ∧ H b = some (.lst (L.map V.int)) ∧ BagOk L ∧ 0 ≤ n ∧ n ≤ 24 ∧
  ∀ (H' : Hp) (u : Addr) (L' : List Int) (zs : List Str), SameB b H H' → H u = none → H' u = some (.lst (zs.map V.str)) → H' b = some (.lst (L'.map V.int)) → BagOk L' → NamesOk zs → zs.length = n.toNat → Q (.ref u) H'
theorem cat_codes (a b : Str) : (a ++ b).cps.toList = a.cps.toList ++ b.cps.toList := by
  show (a.cps ++ b.cps).toList = _
  simp
theorem cat_len (a b : Str) : (a ++ b).length = a.length + b.length := by
  show (a.cps ++ b.cps).size = _
  rw [Array.size_append]
  rfl
section
variable {P : Program} {w : World} {K : PySem.W.Frag} {mg : Str → Option Value} {base : Heap}
theorem scName : FnScope ["_law_bag_here", "_law_used", "_law_letters", "_law_name_here", "_law_k"] ["_law_bag_here", "_law_used"] (defScope sLawName) := ⟨rfl, rfl, rfl, by decide +kernel, rfl, by decide +kernel, by decide +kernel⟩
theorem ok_name {f : Addr} {fd : FuncData} (F : Fun K "_law_name" "_law_name" sLawName f fd) (T : TxtM mg) (gT : Dfn P w K mg base CX0 1 "_law_take" ["_law_bag_here", "_law_size"] spTake) :
    FnOk P w K mg base CX0 2 f fd ["_law_bag_here", "_law_used"] spName := by
  obtain ⟨fT, dT, mT, kT, bT, GT⟩ := gT
  refine F.ok scName (fun vs H Q E h => ?_) (fun cdv A outer s H vs Q E hr h => ?_)
  · obtain ⟨a, u, L, zs, rfl, _⟩ := h
    rfl
  · obtain ⟨b, u, L, zs, rfl, hb, hok, hub, hu, ok, hlen, k⟩ := h
    have hr1 : Room 1 _ := hr
    refine ⟨_, (pss_cons (ps_set (i := 2) scName.nd rfl (Or.inl rfl) pe_str)
        (pss_cons (ps_set (i := 3) scName.nd rfl (Or.inl rfl) pe_str)
        (pss_cons (ps_for PassesOwn.never rfl (pi_range1 (by rfl) T.range (pa_cons (pe_op op_add pe_int (pe_call GT hr1 (by rfl) mT kT bT .nil pass0 (pa_cons (pv 0) (pa_cons pe_int pa_nil)))) pa_nil)) (pg_name (i := 4) scName.nd rfl (Or.inl rfl)) (pss_one (ps_set (i := 3) scName.nd rfl (Or.inl rfl) (pe_op op_add_str (pv 3) (pe_ix ix_str (pv 2) (pe_call GT hr1 (by rfl) mT kT bT .nil pass0 (pa_cons (pv 0) (pa_cons pe_int pa_nil))) (fun _ _ => rfl))))))
        (pss_cons (ps_if (pt_cmpR op_in_seq (pv 3) (pv 1) (by rfl)) (pss_one (ps_set (i := 3) scName.nd rfl (Or.inl rfl) (pe_op op_add_str (pv 3) (pe_callTy call_str_int (by rfl) T.str (by decide +kernel) (pa_cons (pe_callB call_len_seq (by rfl) T.len PySem.boot_len (pa_cons (pv 1) pa_nil)) pa_nil))))) pss_nil)
        (pss_one (ps_ret (pv 3))))))), ?_⟩
    refine ⟨_, rfl, b, L, 3, rfl, hb, hok, by decide, by decide, fun L1 r ok1 r0 r1 => ⟨_, _, rfl, rfl, _, rfl, by omega, by omega, for_range (n := (1 + r).toNat) (lo := 0)
      (fun i σ H' => ∃ (z : Str) (x : Option V) (L2 : List Int), σ = [some (.ref b), some (.ref u), some (.str LT), some (.str z), x] ∧ H' = upd H b (.lst (L2.map V.int)) ∧ BagOk L2 ∧ z.cps.toList.length = i ∧ ∀ c ∈ z.cps.toList, isLet c)
      ⟨_, none, L1, rfl, rfl, ok1, by decide +kernel, fun c hc => absurd hc (by rw [nil_codes]; exact List.not_mem_nil)⟩ ?_ ?_⟩⟩
    · rintro i σ H2 hi ⟨z, x, L2, rfl, rfl, ok2, hz, hzc⟩
      refine ⟨_, rfl, _, rfl, _, rfl, b, L2, 26, rfl, upd_same, ok2, by decide, by decide, fun L3 q ok3 q0 q1 => ?_⟩
      have hq3 : q.toNat < LT.cps.toList.length := by rw [lt_len]; omega
      refine ⟨LT, q, LT.cps.toList[q.toNat], rfl, rfl, by decide +kernel, ?_, ?_⟩
      · have e := atI_nat (xs := LT.cps.toList) (j := q.toNat) (List.getElem?_eq_getElem hq3)
        rw [Int.toNat_of_nonneg q0] at e
        exact e
      · have ez : z.length = i := hz
        refine ⟨z, _, rfl, rfl, ?_, ?_⟩
        · rw [ez]
          exact Nat.le_of_lt (small1000 (by show i + 1 ≤ 1000; omega))
        · refine ⟨_, _, L3, rfl, upd_upd, ok3, ?_, ?_⟩
          · rw [cat_codes, List.length_append, hz]
            rfl
          · intro c hc
            rw [cat_codes] at hc
            rcases List.mem_append.mp hc with h | h
            · exact hzc c h
            · obtain rfl : c = LT.cps.toList[q.toNat] := by simpa using h
              exact lt_facts _ (List.getElem_mem hq3)
    · rintro σ H2 ⟨z, x, L2, rfl, rfl, ok2, hz, hzc⟩
      have zl : z.length = (1 + r).toNat := hz
      have hne : z.cps.toList ≠ [] := by
        intro e
        rw [e] at hz
        simp at hz
        omega
      have at0 : NameAt zs.length z := ⟨z.cps.toList, hne, by omega, hzc, .inl rfl⟩
      refine ⟨_, rfl, _, rfl, u, _, rfl, .inl (SqL.of (by rw [upd_ne hub]; exact hu)), rfl, flat_strs zs, _, rfl, ?_⟩
      show if (inV (.str z) (zs.map V.str)) = true then _ else _
      rw [inV_str]
      by_cases hm : z ∈ zs
      · rw [decide_eq_true hm]
        refine iteT ⟨_, rfl, _, rfl, u, _, rfl, .inl (SqL.of (by rw [upd_ne hub]; exact hu)), _, rfl, ?_, z, _, rfl, rfl, ?_, _, rfl, ?_⟩
        · rw [List.length_map]
          have : ((zs.length : Nat) : Int).natAbs = zs.length := by simp
          rw [this]
          exact Nat.lt_of_le_of_lt (Nat.log2_le_self _) (by omega)
        · have d := (dg_facts zs.length (by omega)).2.1
          have e : (Str.ofString (toString ((((zs.map V.str).length : Nat) : Int)))).length = (dg zs.length).length := by
            rw [List.length_map]
            simp [dg, Str.length]
          show z.length + (Str.ofString (toString ((((zs.map V.str).length : Nat) : Int)))).length ≤ sizeLine
          rw [e, zl]
          exact Nat.le_of_lt (small1000 (by omega))
        · have ez : (z ++ (Str.ofString (toString ((((zs.map V.str).length : Nat) : Int))))).cps.toList = z.cps.toList ++ dg zs.length := by
            rw [cat_codes, List.length_map]
            rfl
          exact k L2 _ ok2 ⟨z.cps.toList, hne, by omega, hzc, .inr ez⟩ (fresh_tail ok hlen hzc ez)
      · rw [decide_eq_false hm]
        exact iteF ⟨_, rfl, k L2 z ok2 at0 hm⟩
theorem scNames : FnScope ["_law_bag_here", "_law_count", "_law_names_here", "_law_k"] ["_law_bag_here", "_law_count"] (defScope sLawNames) := ⟨rfl, rfl, rfl, by decide +kernel, rfl, by decide +kernel, by decide +kernel⟩
theorem ok_names {f : Addr} {fd : FuncData} (F : Fun K "_law_names" "_law_names" sLawNames f fd) (T : TxtM mg) (gN : Dfn P w K mg base CX0 2 "_law_name" ["_law_bag_here", "_law_used"] spName) :
    FnOk P w K mg base CX0 3 f fd ["_law_bag_here", "_law_count"] spNames := by
  obtain ⟨fNm, dNm, mNm, kNm, bNm, GNm⟩ := gN
  refine F.ok scNames (fun vs H Q E h => ?_) (fun cdv A outer s H vs Q E hr h => ?_)
  · obtain ⟨a, L, n, rfl, _⟩ := h
    rfl
  · obtain ⟨b, L, n, rfl, hb, hok, hn0, hn1, k⟩ := h
    have hr2 : Room 2 _ := hr
    refine ⟨_, (pss_cons (ps_set (i := 2) scNames.nd rfl (Or.inl rfl) (pe_lst pa_nil))
        (pss_cons (ps_for PassesOwn.never rfl (pi_range1 (by rfl) T.range (pa_cons (pv 1) pa_nil)) (pg_name (i := 3) scNames.nd rfl (Or.inl rfl)) (pss_one (ps_expr (pe_bm PySem.F.plainAttrs_list PySem.F.slot_list_append PySem.F.type_list_append mt_append (pv 2) (pa_cons (pe_call GNm hr2 (by rfl) mNm kNm bNm .nil pass0 (pa_cons (pv 0) (pa_cons (pv 2) pa_nil))) pa_nil)))))
        (pss_one (ps_ret (pv 2))))), ?_⟩
    refine ⟨Nat.zero_le _, fun u hu => ?_⟩
    have nub : u ≠ b := fun e => by rw [e, hb] at hu; cases hu
    refine ⟨_, rfl, _, rfl, by omega, by omega, for_range (n := n.toNat) (lo := 0)
      (fun i σ H' => ∃ (zs : List Str) (x : Option V) (L2 : List Int), σ = [some (.ref b), some (.int n), some (.ref u), x] ∧ SameB b H H' ∧ H' b = some (.lst (L2.map V.int)) ∧ BagOk L2 ∧ H' u = some (.lst (zs.map V.str)) ∧ NamesOk zs ∧ zs.length = i)
      ⟨[], none, L, rfl, SameB.of (Same.upd_new hu), by rw [upd_ne nub.symm]; exact hb, hok, upd_same, ⟨fun i z h => by simp at h, by simp, by simp⟩, rfl⟩ ?_ ?_⟩
    · rintro i σ H2 hi ⟨zs, x, L2, rfl, s2, hb2, ok2, hu2, okz, hz⟩
      refine ⟨_, rfl, .inl ⟨rfl, _, SqL.of hu2⟩, _, rfl, _, rfl, b, u, L2, zs, rfl, hb2, ok2, nub, hu2, okz, by omega, fun L3 z ok3 hat hnz => ?_⟩
      refine ⟨u, _, _, rfl, rfl, by rw [upd_ne nub]; exact hu2, ?_, ?_⟩
      · rw [List.length_map]
        exact small1000 (by omega)
      · refine ⟨zs ++ [z], _, L3, rfl, fun c o n h => ?_, ?_, ok3, ?_, ⟨fun j y h => ?_, ?_, ?_⟩, ?_⟩
        · have ncu : c ≠ u := ne_of_none h hu
          rw [upd_ne ncu, upd_ne n]
          exact s2 c o n h
        · rw [upd_ne nub.symm, upd_same]
        · rw [upd_same, List.map_append]
          rfl
        · by_cases hj : j < zs.length
          · rw [List.getElem?_append_left hj] at h
            exact okz.at_ j y h
          · rw [List.getElem?_append_right (by omega)] at h
            have hj0 : j - zs.length = 0 := by
              have := (List.getElem?_eq_some_iff.mp h).1
              simp at this
              omega
            rw [hj0] at h
            obtain rfl : z = y := by simpa using h
            have : j = zs.length := by omega
            rw [this]
            exact hat
        · rw [List.nodup_append]
          refine ⟨okz.nd, by simp, fun a ha c hc => ?_⟩
          obtain rfl := List.mem_singleton.mp hc
          exact fun e => hnz (e ▸ ha)
        · rw [List.length_append]
          simp
          omega
        · rw [List.length_append, hz]
          rfl
    · rintro σ H2 ⟨zs, x, L2, rfl, s2, hb2, ok2, hu2, okz, hz⟩
      exact ⟨_, rfl, k H2 u L2 zs s2 hu hu2 hb2 ok2 okz hz⟩
end
end Dl

namespace Dl
open PySem PySem.Spec PyProof.Rows L2
/-! ### texts: what is a valid name -/
theorem len_pos {z : Str} (h : ¬ z = ("" : Str)) : 1 ≤ z.length := by
  have e0 : ("" : Str) = ⟨#[]⟩ := by decide +kernel
  cases z with
  | mk cps =>
    by_cases q : cps.size = 0
    · exfalso
      apply h
      rw [e0, Array.eq_empty_of_size_eq_zero q]
    · show 1 ≤ cps.size
      omega
theorem valid_of {z : Str} (h1 : 1 ≤ z.length) (h : ∀ c ∈ z.cps.toList, c ∈ SG.cps.toList) : validN z = decide (z.length ≤ 12) := by
  unfold validN
  rw [decide_eq_true h1, List.all_eq_true.mpr fun c hc => decide_eq_true (h c hc)]
  simp
theorem invalid_of {z : Str} {c : Nat} (hc : c ∈ z.cps.toList) (h : c ∉ SG.cps.toList) : validN z = false := by
  unfold validN
  have q : (z.cps.toList.all fun c => decide (c ∈ SG.cps.toList)) = false := by
    rw [List.all_eq_false]
    exact ⟨c, hc, by simpa using h⟩
  rw [q]
  simp
end Dl

namespace Dl
open PySem PySem.Spec PyProof.Rows L2
/-! ### names and texts as data -/
def canS (z : Str) : Prop := PyData.canLay0 (.str z) = true
theorem can_of {z : Str} (h : ∀ c ∈ z.cps.toList, c < 1114112) : canS z := by
  unfold canS PyData.canLay0 PyData.strOk
  rw [Array.all_eq_true]
  intro i hi
  exact decide_eq_true (h _ (by simp))
/-- a value that is passed as a name, as data -/
def NmD (H : Hp) : V → Prop
  | .str z => canS z ∧ z.length ≤ 1000
  | .int _ => True
  | .non => True
  | .ref p => ∃ zs : List Str, H p = some (.lst (zs.map V.str)) ∧ ∀ z ∈ zs, canS z
  | _ => False
theorem NmD.ok {H : Hp} {v : V} (h : NmD H v) : NmOk H v := by
  cases v with
  | str z => exact Nat.le_of_lt (small1000 h.2)
  | int i => trivial
  | non => trivial
  | ref p => obtain ⟨zs, e, _⟩ := h; exact ⟨_, e⟩
  | bl _ => exact h.elim
  | byt _ => exact h.elim
  | flt _ => exact h.elim
  | ty _ => exact h.elim
theorem NmD.of {H H' : Hp} {v : V} (s : Same H H') (h : NmD H v) : NmD H' v := by
  cases v with
  | str z => exact h
  | int i => trivial
  | non => trivial
  | ref p => obtain ⟨zs, e, q⟩ := h; exact ⟨zs, s _ _ e, q⟩
  | bl _ => exact h.elim
  | byt _ => exact h.elim
  | flt _ => exact h.elim
  | ty _ => exact h.elim
theorem any_str (es : List Str) (y : Str) : (es.map PyData.str).any (fun z => PyData.eqv z (.str y)) = decide (y ∈ es) := by
  rw [List.any_map]
  induction es with
  | nil => simp
  | cons a r ih =>
    rw [List.any_cons, ih]
    show (PyData.eqv (.str a) (.str y) || decide (y ∈ r)) = _
    rw [PyData.eqv]
    by_cases h : a = y
    · subst h; simp
    · have h2 : ¬ y = a := fun q => h q.symm
      simp [h, h2]
theorem any_no (es : List Str) {d : PyData} (h : ∀ z : Str, PyData.eqv (.str z) d = false) : (es.map PyData.str).any (fun z => PyData.eqv z d) = false := by
  rw [List.any_map, List.any_eq_false]
  intro z _
  show ¬ PyData.eqv (.str z) d = true
  rw [h z]
  decide
/-- the data of a name -/
theorem NmD.dat (K : PySem.W.Frag) {H : Hp} {v : V} (h : NmD H v) : ∃ d, Dp K H v d ∧ PyData.canLay0 d = true ∧ d.depth ≤ 1 ∧ ∀ es : List Str, (es.map PyData.str).any (fun z => PyData.eqv z d) = knows v es := by
  cases v with
  | str z => exact ⟨.str z, .str z, h.1, by simp [PyData.depth], fun es => any_str es z⟩
  | int i => exact ⟨.int i, .int i, by simp [PyData.canLay0], by simp [PyData.depth], fun es => any_no es fun z => by rw [PyData.eqv]⟩
  | non => exact ⟨.none, .non, by simp [PyData.canLay0], by simp [PyData.depth], fun es => any_no es fun z => by rw [PyData.eqv]⟩
  | ref p =>
    obtain ⟨zs, e, q⟩ := h
    refine ⟨.list (zs.map PyData.str), .lst (SqL.of e) (dpAll_strs zs), ?_, ?_, fun es => any_no es fun z => by rw [PyData.eqv]⟩
    · rw [PyData.canLay0]; exact canAll_strs q
    · rw [PyData.depth, depthAll_strs]; decide
  | bl _ => exact h.elim
  | byt _ => exact h.elim
  | flt _ => exact h.elim
  | ty _ => exact h.elim
theorem shaped_of {d : PyData} (h : PyData.canLay0 d = true) (h2 : d.depth ≤ 1) : SeqAt.shaped d = true := by
  unfold SeqAt.shaped
  rw [h, Bool.true_and]
  exact decide_eq_true (by omega)
theorem room65 {k : Nat} {A : Around} (r : Room k A) : A.units + 65 < cLine := by
  have := r.un
  omega
theorem valid_can {z : Str} (h : validN z = true) : canS z := can_of (valid_small h).2
end Dl

/-! == of two dicts of tuples of texts with the same keys; == by an own __eq__, both ways -/
namespace Dl
open PySem PySem.Spec PyProof.Rows L2
theorem eqAllS (xs ys : List Str) : PyData.eqvAll (xs.map PyData.str) (ys.map PyData.str) = decide (xs = ys) := eqvAll_strs xs ys
theorem eqv_tups (xs ys : List Str) : PyData.eqv (.tuple (xs.map PyData.str)) (.tuple (ys.map PyData.str)) = decide (xs = ys) := by
  rw [PyData.eqv]
  exact eqAllS xs ys
theorem eqv_lists (xs ys : List Str) : PyData.eqv (.list (xs.map PyData.str)) (.list (ys.map PyData.str)) = decide (xs = ys) := by
  rw [PyData.eqv]
  exact eqAllS xs ys
theorem shaped_tups {zs : List Str} (h : ∀ z ∈ zs, PyData.canLay0 (.str z) = true) : SeqAt.shaped (.tuple (zs.map PyData.str)) = true := by
  unfold SeqAt.shaped
  rw [Bool.and_eq_true, PyData.canLay0, PyData.depth, depthAll_strs]
  exact ⟨canAll_strs h, by decide⟩
theorem room66 {k : Nat} {A : Around} (r : Room k A) : A.units + 66 < cLine := by
  have := r.un
  omega
section
variable {X : Cx}
def rEqRows : R2 := fun x y H Q => ∃ a b ks ls rs ss, x = .ref a ∧ y = .ref b ∧ H a = some (.dK ks) ∧ H b = some (.dK ls) ∧ RowsAt H rs ks ∧ RowsAt H ss ls ∧ rs.map Prod.fst = ss.map Prod.fst ∧ (rs.map Prod.fst).Nodup ∧
  (∀ x ∈ rs, ∀ z ∈ x.2, canS z) ∧ (∀ x ∈ ss, ∀ z ∈ x.2, canS z) ∧ Q (.bl (decide (rs = ss))) H
theorem hits_rows {P : Program} {w : World} {A : Around} {s : Shared} {H : Hp} (ih : ∀ a b (xs ys : List Str), H a = some (.tup (xs.map V.str)) → H b = some (.tup (ys.map V.str)) → (∀ z ∈ xs, canS z) → (∀ z ∈ ys, canS z) → SeqAt.EqP P w A s (.ref a) (.ref b) (decide (xs = ys)))
    {vb : List (Key × Value)} : ∀ {rs ss : List (Str × List Str)} {ks ls : List (Key × V)} {va : List (Key × Value)}, RowsAt H rs ks → RowsAt H ss ls → KV ks va → rs.map Prod.fst = ss.map Prod.fst → (∀ x ∈ rs, ∀ z ∈ x.2, canS z) → (∀ x ∈ ss, ∀ z ∈ x.2, canS z) →
      (∀ p ∈ ls, ∃ u, valueAt vb p.1 = some u ∧ RelV p.2 u) → PySem.W.KeqHitsP P w A s vb va (decide (rs = ss))
  | [], ss, ks, ls, va, hr, hs, hk, e, _, _, _ => by
    cases ss with
    | cons _ _ => cases e
    | nil =>
      cases hr
      unfold KV at hk
      cases hk
      rw [decide_eq_true rfl]
      exact .nil
  | (k, xs) :: rs, ss, ks, ls, va, hr, hs, hk, e, c1, c2, hv => by
    cases ss with
    | nil => cases e
    | cons y ss =>
      obtain ⟨k2, ys⟩ := y
      rw [List.map_cons, List.map_cons] at e
      injection e with e1 e2
      have e1' : k = k2 := e1
      subst e1'
      cases hr with
      | @cons _ _ a _ kvs ha hr =>
      cases hs with
      | @cons _ _ b _ lvs hb hs =>
      unfold KV at hk
      cases hk with
      | @cons p q ps qs h t =>
      obtain ⟨h1, h2⟩ := h
      obtain ⟨key, v⟩ := q
      have h1' : Sum.inr k = key := h1
      subst h1'
      cases h2
      obtain ⟨u, hu, ru⟩ := hv _ (List.mem_cons_self ..)
      cases ru
      have d : decide ((k, xs) :: rs = (k, ys) :: ss) = (decide (xs = ys) && decide (rs = ss)) := by
        by_cases q1 : xs = ys <;> by_cases q2 : rs = ss <;> simp [q1, q2]
      rw [d]
      exact .hit hu (ih a b xs ys ha hb (c1 _ (List.mem_cons_self ..)) (c2 _ (List.mem_cons_self ..)))
        (hits_rows ih hr hs t e2 (fun x hx => c1 x (List.mem_cons_of_mem _ hx)) (fun x hx => c2 x (List.mem_cons_of_mem _ hx)) (fun p hp => hv p (List.mem_cons_of_mem _ hp)))
theorem vals_rows {H : Hp} {ls : List (Key × V)} {vb : List (Key × Value)} (rb : KV ls vb) {ss : List (Str × List Str)} (hs : RowsAt H ss ls) (nd : (ss.map Prod.fst).Nodup) : ∀ p ∈ ls, ∃ u, valueAt vb p.1 = some u ∧ RelV p.2 u := fun p hp => by
  have nk : (ls.map (·.1)).Nodup := by
    rw [hs.keys]
    exact List.Pairwise.map Sum.inr (fun a b h e => h (Sum.inr.inj e)) nd
  have hv : valV ls p.1 = some p.2 := by
    clear hs rb
    unfold valV
    induction ls with
    | nil => cases hp
    | cons q r ih =>
      rw [List.map_cons, List.nodup_cons] at nk
      rcases List.mem_cons.mp hp with h | h
      · subst h
        simp
      · have ne : ¬ q.1 = p.1 := fun e => nk.1 (by rw [e]; exact List.mem_map.mpr ⟨p, h, rfl⟩)
        rw [List.find?_cons_of_neg (by simpa using ne)]
        exact ih h nk.2
  have rr : RelO (some p.2) (valueAt vb p.1) := by rw [← hv]; exact rb.val p.1
  obtain ⟨y, hy, ry⟩ := rr.some_of
  exact ⟨y, hy, ry⟩
theorem op_eqRows (hu : X.A.units + 66 < cLine) : OpR X (compareOp .Eq) rEqRows := by
  intro pins s σ H x y v u Q I rx ry h
  obtain ⟨a, b, ks, ls, rs, ss, rfl, rfl, ha, hb, hr, hs, e, nd, c1, c2, q⟩ := h
  cases rx
  cases ry
  obtain ⟨_, ya, va, ra, da⟩ := (show ObjOk X.prog X.w H s.heap a (.dK ks) from I.hok a _ ha)
  obtain ⟨_, yb, vb, rb, db⟩ := (show ObjOk X.prog X.w H s.heap b (.dK ls) from I.hok b _ hb)
  have hl : va.length = vb.length := by
    rw [← ra.length, ← rb.length, hr.length, hs.length]
    have := congrArg List.length e
    rw [List.length_map, List.length_map] at this
    exact this
  have ih : ∀ a b (xs ys : List Str), H a = some (.tup (xs.map V.str)) → H b = some (.tup (ys.map V.str)) → (∀ z ∈ xs, canS z) → (∀ z ∈ ys, canS z) → SeqAt.EqP X.prog X.w X.A.in1 s (.ref a) (.ref b) (decide (xs = ys)) := fun a b xs ys ha hb ca cb => by
    by_cases ab : a = b
    · subst ab
      rw [ha] at hb
      have exy : xs = ys := by
        have e : xs.map V.str = ys.map V.str := by
          injection hb with h1
          injection h1
        exact (List.map_inj_right (f := V.str) fun _ _ h => by cases h; rfl).mp e
      rw [decide_eq_true exy]
      exact (SeqAt.EqAt.same _).eqP
    · refine SeqAt.eqP_refs ab fun E Q q => ?_
      obtain ⟨as, r1⟩ := Dp.reads I (.tuple (xs.map PyData.str)) (.ref a) (.ref a) (.tup (SqT.of ha) (dpAll_strs xs)) rfl
      obtain ⟨bs, r2⟩ := Dp.reads I (.tuple (ys.map PyData.str)) (.ref b) (.ref b) (.tup (SqT.of hb) (dpAll_strs ys)) rfl
      exact SeqAt.compareEq_shaped r1 r2 (shaped_tups ca) (shaped_tups cb) (by show X.A.units + 1 + 64 < cLine; omega) (by rw [eqv_tups]; exact q)
  show wpAny (model X.prog X.w) X.A (richCompare .Eq (.ref a) (.ref b)) _ _ s
  refine PySem.W.rcP_dicts (knd := mixKind X.prog X.w) (r := decide (rs = ss)) ya yb da db (by omega) (fun _ => hits_rows ih hr hs ra e c1 c2 (vals_rows rb hs (by rw [← e]; exact nd))) _ _ ?_
  rw [show (va.length == vb.length && decide (rs = ss)) = decide (rs = ss) from by rw [hl]; simp]
  exact ⟨.bl _, H, I, rfl, q⟩
/-- a == b by the own __eq__ of a's class -/
def rEqOwn (C : Addr) (sp : Sp) (E : XK) : R2 := fun x y H Q => ∃ a b dx dy fs gs, x = .ref a ∧ y = .ref b ∧ H a = some (.ins C dx fs) ∧ H b = some (.ins C dy gs) ∧ sp [.ref a, .ref b] H (fun v H' => ∃ t, v = .bl t ∧ Q (.bl t) H') E
theorem op_eqOwn {CX : CXT} {k : Nat} {C f : Addr} {fd : FuncData} {ps : List Str} {sp : Sp} {E : XK} (F : FnOk X.prog X.w X.K X.mg X.base CX k f fd ps sp) (hs : PySem.W.findIn X.K (.ref C) "__eq__" = some (some (.ref f))) (hf : PySem.W.isFn X.K (.ref f) = true)
    (hr : Room k X.A) (hb : Binds X.K fd ps []) (hx : Passes CX X E) : OpR X (compareOp .Eq) (rEqOwn C sp E) := by
  intro pins s σ H x y v u Q I rx ry h
  obtain ⟨a, b, dx, dy, fs, gs, rfl, rfl, ha, hb', hsp⟩ := h
  cases rx
  cases ry
  obtain ⟨mA, J, _⟩ := ins_get I.hok ha
  obtain ⟨mB, J', _⟩ := ins_get I.hok hb'
  obtain ⟨od, J, _⟩ := J.look
  obtain ⟨od', J', _⟩ := J'.look
  obtain ⟨m, hF⟩ := I.fr
  show wpAny (model X.prog X.w) X.A (richCompare .Eq (.ref a) (.ref b)) (EP X pins σ Q) X.xe s
  refine PySem.W.cmp_K (op := .Eq) (tb := .ref C) hr.units0 hF I.ok.mod.kin J J'.type (by simp [PySem.W.notFirst]) hs hf ?_
  refine wpAny_mono (run_at (A := X.A) rfl F hr hb hx I (show Vals [V.ref a, V.ref b] [Value.ref a, Value.ref b] from .cons rfl (.cons rfl .nil)) hsp) (fun v s' hv => ?_) fun _ _ y => y
  obtain ⟨z, H', I', rz, t, ez, q⟩ := hv
  subst ez
  cases rz
  exact ⟨.bl t, H', I', rfl, q⟩
end
end Dl

namespace Dl
open PySem PySem.Spec PyProof.Rows L2
/-! Table: shown, alike, [..], len -/
structure TabT (P : Program) (w : World) (K : PySem.W.Frag) (mg : Str → Option Value) (base : Heap) (CT : Addr) (C : Cs) : Prop where
  cl : Cls K CT
  nL : NoAttr K CT "lamps"
  nK : NoAttr K CT "looks"
  nS : NoAttr K CT "_shown"
  tuple : mg "tuple" = none
  len : mg "len" = none
  known : Dfn P w K mg base (L2.CX P w) 4 "check_known" ["name", "names"] (spKnown K C)
def keysOf (rs : List (Str × List Str)) : List Str := rs.map fun x : Str × List Str => x.1
theorem knows_row {v : V} {rs : List (Str × List Str)} (h : knows v (keysOf rs) = true) : ∃ x ∈ rs, v = .str x.1 := by
  cases v <;> simp only [knows] at h <;> first | cases h; done | skip
  rename_i z
  obtain ⟨x, hx, e⟩ := List.mem_map.mp (of_decide_eq_true h)
  exact ⟨x, hx, by rw [← e]⟩
def seenOf (rs : List (Str × List Str)) (z : Str) : List Str := (rs.filter fun x : Str × List Str => decide (z ∈ x.2)).map fun x : Str × List Str => x.1
theorem seen_step {rs : List (Str × List Str)} {z : Str} {i : Nat} {x : Str × List Str} (h : rs[i]? = some x) : seenOf (rs.take (i + 1)) z = seenOf (rs.take i) z ++ (if decide (z ∈ x.2) = true then [x.1] else []) := by
  unfold seenOf
  have e : rs.take (i + 1) = rs.take i ++ [x] := by rw [List.take_succ, h]; rfl
  rw [e, List.filter_append, List.map_append]
  by_cases q : z ∈ x.2 <;> simp [q]
theorem seen_len {rs : List (Str × List Str)} {z : Str} {i : Nat} : (seenOf (rs.take i) z).length ≤ i := by
  unfold seenOf
  rw [List.length_map]
  exact Nat.le_trans (List.length_filter_le _ _) (by rw [List.length_take]; omega)
def spTShown (K : PySem.W.Frag) (CT : Addr) (C : Cs) : Sp := fun vs H Q E => ∃ (p : Addr) (v : V) (ls : List Str) (rs : List (Str × List Str)), vs = [.ref p, v] ∧ TableAt CT H p ls rs ∧ TabOk ls rs ∧ NmOk H v ∧
  (∀ x ∈ rs, v = .str x.1 → ∀ a, H a = some (.tup (x.2.map V.str)) → Q (.ref a) H) ∧ (knows v (keysOf rs) = false → Out1 C.unk "name" v H E)
def spTAlike (K : PySem.W.Frag) (CT : Addr) (C : Cs) : Sp := fun vs H Q E => ∃ (p : Addr) (v u : V) (ls : List Str) (rs : List (Str × List Str)), vs = [.ref p, v, u] ∧ TableAt CT H p ls rs ∧ TabOk ls rs ∧ NmOk H v ∧ NmOk H u ∧
  (∀ x ∈ rs, ∀ y ∈ rs, v = .str x.1 → u = .str y.1 → Q (.bl (decide (x.2 = y.2))) H) ∧ (knows v (keysOf rs) = false → Out1 C.unk "name" v H E) ∧ (knows v (keysOf rs) = true → knows u (keysOf rs) = false → Out1 C.unk "name" u H E)
def spTGet (K : PySem.W.Frag) (CT : Addr) (C : Cs) : Sp := fun vs H Q E => ∃ (p q : Addr) (v u : V) (ls : List Str) (rs : List (Str × List Str)), vs = [.ref p, .ref q] ∧ TableAt CT H p ls rs ∧ TabOk ls rs ∧ H q = some (.tup [v, u]) ∧ NmOk H v ∧ NmOk H u ∧
  (∀ z ∈ ls, ∀ x ∈ rs, v = .str z → u = .str x.1 → Q (.bl (decide (z ∈ x.2))) H) ∧ (knows v ls = false → Out1 C.unk "name" v H E) ∧ (knows v ls = true → knows u (keysOf rs) = false → Out1 C.unk "name" u H E)
def spTSeen (K : PySem.W.Frag) (CT : Addr) (C : Cs) : Sp := fun vs H Q E => ∃ (p : Addr) (v : V) (ls : List Str) (rs : List (Str × List Str)), vs = [.ref p, v] ∧ TableAt CT H p ls rs ∧ TabOk ls rs ∧ NmOk H v ∧
  (∀ z ∈ ls, v = .str z → ∀ H' a, Same H H' → H a = none → H' a = some (.tup ((seenOf rs z).map V.str)) → Q (.ref a) H') ∧ (knows v ls = false → Out1 C.unk "name" v H E)
def spTLen (CT : Addr) : Sp := fun vs H Q _ => ∃ (p : Addr) (ls : List Str) (rs : List (Str × List Str)), vs = [.ref p] ∧ TableAt CT H p ls rs ∧ Q (.int (rs.length : Int)) H
section
variable {P : Program} {w : World} {K : PySem.W.Frag} {mg : Str → Option Value} {base : Heap} {C : Cs} {CT : Addr}
theorem scTShown : FnScope ["self", "look"] ["self", "look"] (defScope sTableShown) := ⟨rfl, rfl, rfl, by decide +kernel, rfl, by decide +kernel, by decide +kernel⟩
theorem ok_tshown {f : Addr} {fd : FuncData} (F : Fun K "shown" "Table.shown" sTableShown f fd) (T : TabT P w K mg base CT C) : FnOk P w K mg base (L2.CX P w) 5 f fd ["self", "look"] (spTShown K CT C) := by
  obtain ⟨fK, dK, mK, kK, bK, GK⟩ := T.known
  refine F.okX scTShown (fun vs H Q E h => ?_) (fun cdv A outer s H vs Q E hr h => ?_)
  · obtain ⟨p, v, ls, rs, rfl, _⟩ := h
    rfl
  · obtain ⟨p, v, ls, rs, rfl, ⟨dx, lt, sd, kt, kvs, hp, hlt, hsd, hkt, hrs⟩, ok, hv, k, kx⟩ := h
    have hr4 : Room 4 _ := hr
    refine ⟨_, (pss_cons (ps_expr (pe_call GK hr4 (by rfl) mK kK bK .nil (passes_call (takes_of rfl rfl rfl rfl) (fun _ _ _ _ h => h)) (pa_cons (pv 1) (pa_cons (pe_fld (pv 0) rfl) pa_nil))))
        (pss_one (ps_ret (pe_dget (hu_of hr) (pe_fld (pv 0) rfl) (pv 1) (fun _ _ => rfl))))), ?_⟩
    refine ⟨_, rfl, _, rfl, p, CT, dx, _, _, rfl, hp, T.cl, T.nK, pf3_looks _ _ _, v, kt, keysOf rs, rfl, hv, SqT.of hkt, fun hk => ?_, fun hk => kx hk⟩
    obtain ⟨x, hx, rfl⟩ := knows_row hk
    obtain ⟨a, hval, ha⟩ := hrs.val ok.knd hx
    have dg : DGet H sd (kV (Sum.inr x.1)) (some (.ref a)) := by rw [← hval]; exact DGet.k hsd
    exact ⟨_, rfl, p, CT, dx, _, _, rfl, hp, T.cl, T.nS, pf3_shown _ _ _, _, rfl, sd, _, rfl, dg, k x hx rfl a ha⟩
theorem scTGet : FnScope ["self", "at", "lamp", "look"] ["self", "at"] (defScope sTableGetitem) := ⟨rfl, rfl, rfl, by decide +kernel, rfl, by decide +kernel, by decide +kernel⟩
theorem ok_tget {f : Addr} {fd : FuncData} (F : Fun K "__getitem__" "Table.__getitem__" sTableGetitem f fd) (T : TabT P w K mg base CT C) : FnOk P w K mg base (L2.CX P w) 5 f fd ["self", "at"] (spTGet K CT C) := by
  obtain ⟨fK, dK, mK, kK, bK, GK⟩ := T.known
  refine F.okX scTGet (fun vs H Q E h => ?_) (fun cdv A outer s H vs Q E hr h => ?_)
  · obtain ⟨p, q, v, u, ls, rs, rfl, _⟩ := h
    rfl
  · obtain ⟨p, q, v, u, ls, rs, rfl, ⟨dx, lt, sd, kt, kvs, hp, hlt, hsd, hkt, hrs⟩, ok, hq, hv, hu, k, kx, ky⟩ := h
    have hr4 : Room 4 _ := hr
    refine ⟨_, (pss_cons (ps_asg (pv 1) (pg_tup rfl (pgs_cons (pg_name (i := 2) scTGet.nd rfl (Or.inl rfl)) (pgs_cons (pg_name (i := 3) scTGet.nd rfl (Or.inl rfl)) pgs_nil))))
        (pss_cons (ps_expr (pe_call GK hr4 (by rfl) mK kK bK .nil (passes_call (takes_of rfl rfl rfl rfl) (fun _ _ _ _ h => h)) (pa_cons (pv 2) (pa_cons (pe_fld (pv 0) rfl) pa_nil))))
        (pss_cons (ps_expr (pe_call GK hr4 (by rfl) mK kK bK .nil (passes_call (takes_of rfl rfl rfl rfl) (fun _ _ _ _ h => h)) (pa_cons (pv 3) (pa_cons (pe_fld (pv 0) rfl) pa_nil))))
        (pss_one (ps_ret (pe_cmpR op_in_seq (pv 2) (pe_dget (hu_of hr) (pe_fld (pv 0) rfl) (pv 3) (fun _ _ => rfl)) (by rfl))))))), ?_⟩
    refine ⟨_, rfl, q, _, rfl, SqT.of hq, rfl, _, _, rfl, _, _, rfl, rfl, ?_⟩
    refine ⟨_, rfl, _, rfl, p, CT, dx, _, _, rfl, hp, T.cl, T.nL, pf3_lamps _ _ _, v, lt, ls, rfl, hv, SqT.of hlt, fun hk => ?_, fun hk => kx hk⟩
    refine ⟨_, rfl, _, rfl, p, CT, dx, _, _, rfl, hp, T.cl, T.nK, pf3_looks _ _ _, u, kt, keysOf rs, rfl, hu, SqT.of hkt, fun hk2 => ?_, fun hk2 => ky hk hk2⟩
    obtain ⟨z, rfl, hz⟩ := knows_str hk
    obtain ⟨x, hx, rfl⟩ := knows_row hk2
    obtain ⟨a, hval, ha⟩ := hrs.val ok.knd hx
    have dg : DGet H sd (kV (Sum.inr x.1)) (some (.ref a)) := by rw [← hval]; exact DGet.k hsd
    refine ⟨_, rfl, _, rfl, p, CT, dx, _, _, rfl, hp, T.cl, T.nS, pf3_shown _ _ _, _, rfl, sd, _, rfl, dg, a, _, rfl, .inr (SqT.of ha), rfl, flat_strs _, ?_⟩
    rw [inV_str]
    exact k z hz x hx rfl rfl
theorem scTLen : FnScope ["self"] ["self"] (defScope sTableLen) := ⟨rfl, rfl, rfl, by decide +kernel, rfl, by decide +kernel, by decide +kernel⟩
theorem ok_tlen {f : Addr} {fd : FuncData} (F : Fun K "__len__" "Table.__len__" sTableLen f fd) (T : TabT P w K mg base CT C) : FnOk P w K mg base CX0 1 f fd ["self"] (spTLen CT) := by
  refine F.ok scTLen (fun vs H Q E h => ?_) (fun cdv A outer s H vs Q E hr h => ?_)
  · obtain ⟨p, ls, rs, rfl, _⟩ := h
    rfl
  · obtain ⟨p, ls, rs, rfl, ⟨dx, lt, sd, kt, kvs, hp, hlt, hsd, hkt, hrs⟩, k⟩ := h
    refine ⟨_, (pss_one (ps_ret (pe_callB call_len_seq (by rfl) T.len PySem.boot_len (pa_cons (pe_fld (pv 0) rfl) pa_nil)))), ?_⟩
    refine ⟨_, rfl, p, CT, dx, _, _, rfl, hp, T.cl, T.nK, pf3_looks _ _ _, kt, _, rfl, .inr (SqT.of hkt), ?_⟩
    rw [List.length_map, List.length_map]
    exact k
end
end Dl

namespace Dl
open PySem PySem.Spec PyProof.Rows L2
/-! ### drawn rows: a list of pairs of a look and a list of some of the lamps -/
def BagIn (H : Hp) (b : Addr) : Prop := ∃ L : List Int, H b = some (.lst (L.map V.int)) ∧ BagOk L
theorem BagIn.lst {H : Hp} {b : Addr} (h : BagIn H b) : ∃ xs, H b = some (.lst xs) := let ⟨L, e, _⟩ := h; ⟨_, e⟩
theorem BagIn.upd {H : Hp} {b : Addr} {L : List Int} (h : BagOk L) : BagIn (upd H b (.lst (L.map V.int))) b := ⟨L, upd_same, h⟩
theorem BagIn.of {H H' : Hp} {b : Addr} (s : Same H H') (h : BagIn H b) : BagIn H' b := let ⟨L, e, o⟩ := h; ⟨L, s _ _ e, o⟩
structure RowD (b : Addr) (lamps : List Str) (H : Hp) (r : RowIn) : Prop where
  look : ∃ k, r.look = .str k
  pair : H r.t = some (.tup [r.look, .ref r.s])
  ns : r.s ≠ b
  lst : H r.s = some (.lst r.xs)
  sub : ∃ sh : List Str, r.xs = sh.map V.str ∧ sh.Sublist lamps
theorem ne_tup_lst {H : Hp} {a c : Addr} {xs ys : List V} (h1 : H a = some (.tup xs)) (h2 : H c = some (.lst ys)) : a ≠ c := fun e => by
  rw [e, h2] at h1; cases h1
theorem RowD.of {b : Addr} {lamps : List Str} {H H' : Hp} {r : RowIn} (hb : ∃ xs, H b = some (.lst xs)) (s : SameB b H H') (h : RowD b lamps H r) : RowD b lamps H' r :=
  ⟨h.look, s _ _ (let ⟨_, e⟩ := hb; ne_tup_lst h.pair e) h.pair, h.ns, s _ _ h.ns h.lst, h.sub⟩
def refsOf (rows : List RowIn) : List V := rows.map fun r => V.ref r.t
/-- the rows stand at R -/
structure RowsD (b : Addr) (lamps ks : List Str) (H : Hp) (R : Addr) (rows : List RowIn) : Prop where
  nR : R ≠ b
  lst : H R = some (.lst (refsOf rows))
  all : ∀ r ∈ rows, RowD b lamps H r
  looks : rows.map (·.look) = ks.map V.str
theorem RowsD.of {b : Addr} {lamps ks : List Str} {H H' : Hp} {R : Addr} {rows : List RowIn} (hb : ∃ xs, H b = some (.lst xs)) (s : SameB b H H') (h : RowsD b lamps ks H R rows) : RowsD b lamps ks H' R rows :=
  ⟨h.nR, s _ _ h.nR h.lst, fun r hr => (h.all r hr).of hb s, h.looks⟩
theorem RowsD.length {b : Addr} {lamps ks : List Str} {H : Hp} {R : Addr} {rows : List RowIn} (h : RowsD b lamps ks H R rows) : rows.length = ks.length := by
  have q := congrArg List.length h.looks
  rw [List.length_map, List.length_map] at q
  exact q
/-- a draw keeps everything but the bag -/
theorem draw_same {b : Addr} {H : Hp} {L : List Int} : SameB b H (upd H b (.lst (L.map V.int))) := SameB.upd
def spRows3 : Sp := fun vs H Q _ => ∃ (b a c : Addr) (ls ks : List Str), vs = [.ref b, .ref a, .ref c] ∧ BagIn H b ∧ a ≠ b ∧ c ≠ b ∧ H a = some (.lst (ls.map V.str)) ∧ H c = some (.lst (ks.map V.str)) ∧ ls.length ≤ 24 ∧ ks.length ≤ 24 ∧
  ∀ (H' : Hp) (R : Addr) (rows : List RowIn), SameB b H H' → BagIn H' b → RowsD b ls ks H' R rows → Q (.ref R) H'
theorem map_at {α β : Type} {l : List α} {f : α → β} {i : Nat} {v : β} (h : (l.map f)[i]? = some v) : ∃ x, l[i]? = some x ∧ v = f x := by
  rw [List.getElem?_map] at h
  cases e : l[i]? with
  | none => rw [e] at h; cases h
  | some x => rw [e] at h; exact ⟨x, rfl, (Option.some.inj h).symm⟩
theorem take_at {α : Type} {l : List α} {i : Nat} {x : α} (h : l[i]? = some x) : l.take (i + 1) = l.take i ++ [x] := by
  rw [List.take_succ, h]
  rfl
theorem sub_short {b : Addr} {lamps : List Str} {H : Hp} {r : RowIn} (h : RowD b lamps H r) (n : Nat) (hn : lamps.length ≤ n) : r.xs.length ≤ n := by
  obtain ⟨sh, e, s⟩ := h.sub
  rw [e, List.length_map]
  exact Nat.le_trans s.length_le hn
theorem cut_drop (xs : List V) (i : Nat) : cutV xs (some (i : Int)) none = xs.drop i := by
  unfold cutV
  rw [HT.sIx_nat, HT.sIx_none]
  by_cases h : i ≤ xs.length
  · rw [Nat.min_eq_left h, List.take_of_length_le (by rw [List.length_drop]; omega)]
  · rw [Nat.min_eq_right (by omega), List.drop_eq_nil_of_le (Nat.le_refl _), List.drop_eq_nil_of_le (by omega)]
    simp
/-- the data of rows -/
theorem RowD.dat (K : PySem.W.Frag) {b : Addr} {ls : List Str} {H : Hp} {r : RowIn} (h : RowD b ls H r) (hl : ∀ z ∈ ls, canS z) (hk : ∀ k, r.look = .str k → canS k) : ∃ d, Dp K H (.ref r.t) d ∧ PyData.canLay0 d = true ∧ d.depth ≤ 2 := by
  obtain ⟨k, ek⟩ := h.look
  obtain ⟨sh, es, hs⟩ := h.sub
  have hsh : ∀ z ∈ sh, PyData.canLay0 (.str z) = true := fun z hz => hl z (hs.subset hz)
  refine ⟨.tuple [.str k, .list (sh.map PyData.str)], .tup (SqT.of h.pair) (.cons (by rw [ek]; exact .str k) (.cons (.lst (SqL.of h.lst) (by rw [es]; exact dpAll_strs sh)) .nil)), ?_, ?_⟩
  · rw [PyData.canLay0, PyData.canLayAll0, PyData.canLayAll0, PyData.canLayAll0, show PyData.canLay0 (.str k) = true from hk k ek, PyData.canLay0, canAll_strs hsh]
    rfl
  · simp only [PyData.depth, PyData.depthAll, depthAll_strs]
    decide
theorem rows_dat (K : PySem.W.Frag) {b : Addr} {ls : List Str} {H : Hp} (hl : ∀ z ∈ ls, canS z) : ∀ {rows : List RowIn}, (∀ r ∈ rows, RowD b ls H r ∧ ∀ k, r.look = .str k → canS k) →
    ∃ ds, DpAll K H (refsOf rows) ds ∧ ds.length = rows.length ∧ PyData.canLayAll0 ds = true ∧ PyData.depthAll ds ≤ 2
  | [], _ => ⟨[], .nil, rfl, by simp [PyData.canLayAll0], by simp [PyData.depthAll]⟩
  | r :: q, h => by
    obtain ⟨ds, h1, h2, h3, h4⟩ := rows_dat K hl (rows := q) fun x hx => h x (List.mem_cons_of_mem _ hx)
    obtain ⟨R, hk⟩ := h r (List.mem_cons_self ..)
    obtain ⟨d, d1, d2, d3⟩ := R.dat K hl hk
    refine ⟨d :: ds, .cons d1 h1, by rw [List.length_cons, List.length_cons, h2], ?_, ?_⟩
    · rw [PyData.canLayAll0, d2, h3]; rfl
    · rw [PyData.depthAll]; omega
theorem shaped_list {ds : List PyData} (h1 : PyData.canLayAll0 ds = true) (h2 : PyData.depthAll ds ≤ 2) : SeqAt.shaped (.list ds) = true := by
  unfold SeqAt.shaped
  rw [PyData.canLay0, h1, Bool.true_and, PyData.depth]
  exact decide_eq_true (by omega)
theorem eqv_nil {ds : List PyData} : PyData.eqv (.list ds) (.list []) = decide (ds = []) := by
  cases ds with
  | nil => simp [PyData.eqv, PyData.eqvAll]
  | cons _ _ => simp [PyData.eqv, PyData.eqvAll]
theorem looks_can {b : Addr} {ls ks : List Str} {H : Hp} {R : Addr} {rows : List RowIn} (h : RowsD b ls ks H R rows) (hk : ∀ z ∈ ks, canS z) {r : RowIn} (hr : r ∈ rows) : ∀ k, r.look = .str k → canS k := fun k e => by
  have m : r.look ∈ ks.map V.str := by rw [← h.looks]; exact List.mem_map_of_mem hr
  obtain ⟨z, hz, ez⟩ := List.mem_map.mp m
  rw [e] at ez
  cases ez
  exact hk _ hz
/-- a row as it stands, whatever it holds -/
structure RowG (H : Hp) (r : RowIn) : Prop where
  pair : H r.t = some (.tup [r.look, .ref r.s])
  lst : H r.s = some (.lst r.xs)
theorem RowG.of {H H' : Hp} {r : RowIn} (s : Same H H') (h : RowG H r) : RowG H' r := ⟨s _ _ h.pair, s _ _ h.lst⟩
theorem RowD.g {b : Addr} {ls : List Str} {H : Hp} {r : RowIn} (h : RowD b ls H r) : RowG H r := ⟨h.pair, h.lst⟩
def turned (way : Int) (r : RowIn) : V × List V := (r.look, if way = 1 then r.xs.reverse else r.xs)
theorem row_of {rows : List RowIn} {rs : List (Str × List Str)} (hdat : rows.map RowIn.dat = rs.map rdat) {i : Nat} {v : V} (hv : (refsOf rows)[i]? = some v) : ∃ r, ∃ h : i < rs.length, r ∈ rows ∧ v = .ref r.t ∧ r.look = .str rs[i].1 ∧ r.xs = rs[i].2.map V.str ∧ rs[i]? = some rs[i] := by
  obtain ⟨r, hr, rfl⟩ := map_at (show (rows.map fun r => V.ref r.t)[i]? = some v from hv)
  have hi : i < rows.length := (List.getElem?_eq_some_iff.mp hr).1
  have hrl : rows.length = rs.length := by
    have e := congrArg List.length hdat
    rw [List.length_map, List.length_map] at e
    exact e
  have hir : i < rs.length := by omega
  have ed : r.dat = rdat rs[i] := by
    have e := congrArg (fun l => l[i]?) hdat
    simp only [List.getElem?_map, hr, List.getElem?_eq_getElem hir, Option.map_some] at e
    exact Option.some.inj e
  exact ⟨r, hir, List.mem_of_getElem? hr, rfl, congrArg Prod.fst ed, congrArg Prod.snd ed, List.getElem?_eq_getElem hir⟩
end Dl

namespace Dl
open PySem PySem.Spec PyProof.Rows L2
structure TxtR (mg : Str → Option Value) : Prop where
  range : mg "range" = none
  len : mg "len" = none
  list : mg "list" = none
theorem atI0 {α : Type} {xs : List α} {i : Nat} {v : α} (h : xs[i]? = some v) : atI xs (0 + (i : Int)) = some v := by
  rw [Int.zero_add]
  exact atI_nat h
structure EndsD (H : Hp) (e : Addr × Int × Int) : Prop where
  at_ : H e.1 = some (.tup [.int e.2.1, .int e.2.2])
section
variable {P : Program} {w : World} {K : PySem.W.Frag} {mg : Str → Option Value} {base : Heap}
end
end Dl

namespace Dl
open PySem PySem.Spec PyProof.Rows L2
def spFlip : Sp := fun vs H Q _ => ∃ (b a R : Addr) (ls ks : List Str) (rows : List RowIn), vs = [.ref b, .ref a, .ref R] ∧ BagIn H b ∧ a ≠ b ∧ H a = some (.lst (ls.map V.str)) ∧ RowsD b ls ks H R rows ∧ (∀ z ∈ ls, canS z) ∧ (∀ z ∈ ks, canS z) ∧ ls.length ≤ 24 ∧ ks.length ≤ 24 ∧
  ∀ (H' : Hp) (R' : Addr) (rows' : List RowIn), SameB b H H' → BagIn H' b → RowsD b ls ks H' R' rows' → Q (.ref R') H'
def spRows3c : Sp := fun vs H Q _ => ∃ (b a c : Addr) (ls ks : List Str), vs = [.ref b, .ref a, .ref c] ∧ BagIn H b ∧ a ≠ b ∧ c ≠ b ∧ H a = some (.lst (ls.map V.str)) ∧ H c = some (.lst (ks.map V.str)) ∧ (∀ z ∈ ls, canS z) ∧ (∀ z ∈ ks, canS z) ∧ ls.length ≤ 24 ∧ ks.length ≤ 24 ∧
  ∀ (H' : Hp) (R : Addr) (rows : List RowIn), SameB b H H' → BagIn H' b → RowsD b ls ks H' R rows → Q (.ref R) H'
section
variable {P : Program} {w : World} {K : PySem.W.Frag} {mg : Str → Option Value} {base : Heap}
theorem scFlip : FnScope ["_law_bag_here", "_law_lamps", "_law_rows", "_law_spot", "_law_lamp", "_law_old", "_law_new", "_law_one"] ["_law_bag_here", "_law_lamps", "_law_rows"] (defScope sLawFlipped) := ⟨rfl, rfl, rfl, by decide +kernel, rfl, by decide +kernel, by decide +kernel⟩
theorem ok_flip {f : Addr} {fd : FuncData} (F : Fun K "_law_flipped" "_law_flipped" sLawFlipped f fd) (T : TxtR mg) (gT : Dfn P w K mg base CX0 1 "_law_take" ["_law_bag_here", "_law_size"] spTake) :
    FnOk P w K mg base CX0 2 f fd ["_law_bag_here", "_law_lamps", "_law_rows"] spFlip := by
  obtain ⟨fT, dT, mT, kT, bT, GT⟩ := gT
  refine F.ok scFlip (fun vs H Q E h => ?_) (fun cdv A outer s H vs Q E hr h => ?_)
  · obtain ⟨a, b, c, ls, ks, rows, rfl, _⟩ := h
    rfl
  · obtain ⟨b, a, R, ls, ks, rows, rfl, hb, hab, ha, hR, hlc, hkc, hll, hkl, k⟩ := h
    have hr1 : Room 1 _ := hr
    have hrl := hR.length
    refine ⟨_, (pss_cons (ps_if (PW.pt (pw_or (pt_cmpR (op_eqD hr.units) (pv 1) (pe_lst pa_nil) (nomark _)) (pw_or1 (pt_cmpR (op_eqD hr.units) (pv 2) (pe_lst pa_nil) (nomark _))))) (pss_one (ps_ret (pv 2))) pss_nil)
        (pss_cons (ps_set (i := 3) scFlip.nd rfl (Or.inl rfl) (pe_call GT hr1 (by rfl) mT kT bT .nil pass0 (pa_cons (pv 0) (pa_cons (pe_callB call_len_seq (by rfl) T.len PySem.boot_len (pa_cons (pv 2) pa_nil)) pa_nil))))
        (pss_cons (ps_set (i := 4) scFlip.nd rfl (Or.inr rfl) (pe_ix ix_list (pv 1) (pe_call GT hr1 (by rfl) mT kT bT .nil pass0 (pa_cons (pv 0) (pa_cons (pe_callB call_len_seq (by rfl) T.len PySem.boot_len (pa_cons (pv 1) pa_nil)) pa_nil))) (fun _ _ => rfl)))
        (pss_cons (ps_set (i := 5) scFlip.nd rfl (Or.inr rfl) (pe_ix ix_tup (pe_ix ix_list (pv 2) (pv 3) (fun _ _ => rfl)) pe_int (fun _ _ => rfl)))
        (pss_cons (ps_setLc (i := 6) (own := [("_law_one", 7)]) (g := gName 7) rfl scFlip.nd rfl rfl (sw_true rfl rfl rfl (by decide +kernel)) (pi_list (pv 1)) (blkOk_by (N := ["_law_bag_here", "_law_lamps", "_law_rows", "_law_spot", "_law_lamp", "_law_old", "_law_new", "_law_one"]) (sc := defScope sLawFlipped) (by decide +kernel)) (fun _ _ _ _ _ => (pg_name (i := 7) scFlip.nd rfl (Or.inl rfl))) (fun _ _ _ _ _ => (pts_one (pt_cmpR op_ne (pe_cmpR (by exact op_in_seq : OpR _ _ (rIn K false)) (pv 7) (pv 5) (by rfl)) (pe_cmpR op_eq (pv 7) (pv 4) (nomark _)) (nomark _)))) (fun _ _ _ _ _ => (pv 7)))
        (pss_one (ps_ret (pe_op op_cat (pe_op op_cat (pe_slice sl_list (pv 2) po_none (po_some (pv 3))) (pe_lst (pa_cons (pe_tup (pa_cons (pe_ix ix_tup (pe_ix ix_list (pv 2) (pv 3) (fun _ _ => rfl)) pe_int (fun _ _ => rfl)) (pa_cons (pv 6) pa_nil))) pa_nil))) (pe_slice sl_list (pv 2) (po_some (pe_op op_add (pv 3) pe_int)) po_none))))))))), ?_⟩
    refine ⟨_, rfl, Nat.zero_le _, fun e1 he1 => ?_⟩
    have s1 : Same H (upd H e1 (.lst [])) := Same.upd_new he1
    refine ⟨.list (ls.map PyData.str), .list [], .lst (SqL.of (s1 _ _ ha)) (dpAll_strs ls), .lst (SqL.of upd_same) .nil, shaped_strs hlc, shaped_list (by simp [PyData.canLayAll0]) (by simp [PyData.depthAll]), _, rfl, ?_⟩
    rw [eqv_nil]
    refine ite2 (fun _ => ⟨_, rfl, k _ R rows (SameB.of s1) (hb.of s1) (hR.of hb.lst (SameB.of s1))⟩) (fun c1 => ?_)
    have hls0 : ls ≠ [] := by simpa using c1
    have hlp : 1 ≤ ls.length := by cases ls with | nil => exact absurd rfl hls0 | cons _ _ => simp
    refine ⟨_, rfl, Nat.zero_le _, fun e2 he2 => ?_⟩
    have s2' : Same (upd H e1 (.lst [])) (upd (upd H e1 (.lst [])) e2 (.lst [])) := Same.upd_new he2
    have s2 := s1.trans s2'
    have hR2 := hR.of hb.lst (SameB.of s2)
    obtain ⟨ds, hd1, hd2, hd3, hd4⟩ := rows_dat K hlc (rows := rows) (H := upd (upd H e1 (.lst [])) e2 (.lst [])) fun r hr => ⟨hR2.all r hr, looks_can hR hkc hr⟩
    refine ⟨.list ds, .list [], .lst (SqL.of hR2.lst) hd1, .lst (SqL.of upd_same) .nil, shaped_list hd3 hd4, shaped_list (by simp [PyData.canLayAll0]) (by simp [PyData.depthAll]), _, rfl, ?_⟩
    rw [eqv_nil]
    refine ite2 (fun _ => ⟨_, rfl, k _ R rows (SameB.of s2) (hb.of s2) hR2⟩) (fun c2 => ?_)
    have hds0 : ds ≠ [] := by simpa using c2
    have hrp : 1 ≤ rows.length := by rw [← hd2]; cases ds with | nil => exact absurd rfl hds0 | cons _ _ => simp
    generalize upd (upd H e1 (.lst [])) e2 (.lst []) = H2 at *
    have ha2 := s2 _ _ ha
    have hb2 := hb.of s2
    obtain ⟨L2, hbl2, ok2⟩ := hb2
    have hlen : (refsOf rows).length = rows.length := by unfold refsOf; rw [List.length_map]
    refine ⟨_, rfl, _, rfl, R, _, rfl, .inl (SqL.of hR2.lst), b, L2, _, rfl, hbl2, ok2, by rw [hlen]; omega, by rw [hlen]; omega, fun L3 q ok3 q0 q1 => ?_⟩
    obtain ⟨q, rfl⟩ := Int.eq_ofNat_of_zero_le q0
    rw [hlen] at q1
    refine ⟨_, rfl, _, rfl, _, rfl, a, _, rfl, .inl (SqL.of (by rw [upd_ne hab]; exact ha2)), b, L3, _, rfl, upd_same, ok3, by rw [List.length_map]; omega, by rw [List.length_map]; omega, fun L4 p ok4 p0 p1 => ?_⟩
    obtain ⟨p, rfl⟩ := Int.eq_ofNat_of_zero_le p0
    rw [List.length_map] at p1
    rw [upd_upd]
    have hpl : p < ls.length := by omega
    have hqr : q < rows.length := by omega
    have s4 : SameB b H2 (upd H2 b (.lst (L4.map V.int))) := draw_same
    have hb4 : BagIn (upd H2 b (.lst (L4.map V.int))) b := BagIn.upd ok4
    have hR4 := hR2.of ⟨_, hbl2⟩ s4
    have ha4 := s4 _ _ hab ha2
    have s04 : SameB b H (upd H2 b (.lst (L4.map V.int))) := (SameB.of s2).trans s4
    generalize upd H2 b (.lst (L4.map V.int)) = H4 at *
    have hRq : (refsOf rows)[q]? = some (.ref rows[q].t) := by unfold refsOf; rw [List.getElem?_map, List.getElem?_eq_getElem hqr]; rfl
    have Dq := hR4.all _ (List.getElem_mem hqr)
    refine ⟨a, _, (p : Int), _, rfl, rfl, SqL.of ha4, atI_nat (by rw [List.getElem?_map, List.getElem?_eq_getElem hpl]; rfl), ?_⟩
    refine ⟨_, rfl, _, rfl, R, _, (q : Int), _, rfl, rfl, SqL.of hR4.lst, atI_nat hRq, rows[q].t, _, 1, _, rfl, rfl, SqT.of Dq.pair, rfl, ?_⟩
    obtain ⟨sho, esho, hsho⟩ := Dq.sub
    refine ⟨_, rfl, a, rfl, ⟨_, SqL.of ha4⟩, fun D hD => lc_it (walk_list (K := K) (a := a) (xs := ls.map V.str)) (fun j H' => ∃ sh : List Str, H' = upd H4 D (.lst (sh.map V.str)) ∧ sh.Sublist (ls.take j)) ⟨[], rfl, List.nil_sublist _⟩ (fun j H' _ ⟨sh, e, _⟩ => SqL.of (by rw [e]; exact Same.upd_new hD _ _ ha4)) ?_ ?_⟩
    · rintro j y H5 H6 hj ⟨sh, rfl, hsub⟩ ⟨rfl, hy⟩
      obtain ⟨l, hl, rfl⟩ := map_at hy
      have s6 : Same H4 (upd H4 D (.lst (sh.map V.str))) := Same.upd_new hD
      have hshl : sh.length ≤ 24 := Nat.le_trans hsub.length_le (Nat.le_trans (by rw [List.length_take]; omega) hll)
      refine ⟨rfl, _, rfl, _, rfl, rows[q].s, _, rfl, .inl (SqL.of (s6 _ _ Dq.lst)), rfl, by rw [esho]; exact flat_strs sho, _, rfl, _, rfl, rfl, rfl, _, rfl, ?_⟩
      refine ite2 (fun _ => ?_) (fun _ => ?_)
      · refine ⟨_, rfl, _, upd_same, by rw [List.length_map]; exact small1000 (by omega), sh ++ [l], by rw [upd_upd, List.map_append]; rfl, ?_⟩
        rw [take_at hl]
        exact hsub.append (List.Sublist.refl _)
      · refine ⟨sh, rfl, ?_⟩
        rw [take_at hl]
        exact hsub.trans (List.sublist_append_left _ _)
    rintro H5 ⟨sh, rfl, hsub⟩
    have hsub' : sh.Sublist ls := hsub.trans (List.take_sublist _ _)
    have s5 : Same H4 (upd H4 D (.lst (sh.map V.str))) := Same.upd_new hD
    have hD5 : upd H4 D (.lst (sh.map V.str)) D = some (.lst (sh.map V.str)) := upd_same
    have nDb : D ≠ b := fun e => by obtain ⟨x, hx⟩ := hb4.lst; rw [e, hx] at hD; cases hD
    have hR5 := hR4.of hb4.lst (SameB.of s5)
    have hb5 := hb4.of s5
    have s05 := s04.trans (SameB.of s5 (b := b))
    generalize upd H4 D (.lst (sh.map V.str)) = H5 at *
    have Dq5 := hR5.all _ (List.getElem_mem hqr)
    refine ⟨_, rfl, _, rfl, (q : Int), rfl, R, _, rfl, SqL.of hR5.lst, fun p1' hp1 => ?_⟩
    have t1 : Same H5 (upd H5 p1' (.lst (cutV (refsOf rows) none (some (q : Int))))) := Same.upd_new hp1
    refine ⟨_, rfl, _, rfl, R, _, (q : Int), _, rfl, rfl, SqL.of (t1 _ _ hR5.lst), atI_nat hRq, rows[q].t, _, 0, _, rfl, rfl, SqT.of (t1 _ _ Dq5.pair), rfl, _, rfl, by show 2 ≤ sizeLine; decide, fun t ht => ?_⟩
    have t2 : Same (upd H5 p1' (.lst (cutV (refsOf rows) none (some (q : Int))))) (upd (upd H5 p1' (.lst (cutV (refsOf rows) none (some (q : Int))))) t (.tup [rows[q].look, .ref D])) := Same.upd_new ht
    refine ⟨by show 1 ≤ sizeLine; decide, fun p2 hp2 => ?_⟩
    have t3 := Same.upd_new hp2 (o := .lst [.ref t])
    have lens : (cutV (refsOf rows) none (some (q : Int))).length ≤ 24 := Nat.le_trans (cutV_length _ _ _) (by rw [hlen, hrl]; exact hkl)
    refine ⟨p1', p2, _, _, rfl, rfl, t3 _ _ (t2 _ _ upd_same), upd_same, Nat.le_of_lt (small1000 (by simp; omega)), fun p3 hp3 => ?_⟩
    have t4 := Same.upd_new hp3 (o := .lst (cutV (refsOf rows) none (some (q : Int)) ++ [.ref t]))
    have tt := t1.trans (t2.trans (t3.trans t4))
    refine ⟨_, rfl, _, rfl, _, _, rfl, rfl, (q : Int) + 1, rfl, R, _, rfl, SqL.of (tt _ _ hR5.lst), fun p4 hp4 => ?_⟩
    have t5 := Same.upd_new hp4 (o := .lst (cutV (refsOf rows) (some ((q : Int) + 1)) none))
    have lens2 : (cutV (refsOf rows) (some ((q : Int) + 1)) none).length ≤ 24 := Nat.le_trans (cutV_length _ _ _) (by rw [hlen, hrl]; exact hkl)
    refine ⟨p3, p4, _, _, rfl, rfl, t5 _ _ upd_same, upd_same, Nat.le_of_lt (small1000 (by rw [List.length_append]; simp; omega)), fun p5 hp5 => ?_⟩
    have t6 := Same.upd_new hp5 (o := .lst (cutV (refsOf rows) none (some (q : Int)) ++ [.ref t] ++ cutV (refsOf rows) (some ((q : Int) + 1)) none))
    have all := tt.trans (t5.trans t6)
    have nb5 : p5 ≠ b := fun e => by
      obtain ⟨x, hx⟩ := hb5.lst
      have := (tt.trans t5) _ _ hx
      rw [e, this] at hp5
      cases hp5
    refine k _ p5 (rows.take q ++ [⟨t, rows[q].look, D, sh.map V.str⟩] ++ rows.drop (q + 1)) (s05.trans (SameB.of all)) (hb5.of all) ⟨nb5, ?_, fun r hr => ?_, ?_⟩
    · have e2 : ((q : Nat) : Int) + 1 = ((q + 1 : Nat) : Int) := by omega
      rw [upd_same, cut_take, e2, cut_drop]
      unfold refsOf
      rw [List.map_append, List.map_append, List.map_take, List.map_drop]
      rfl
    · have old : ∀ r ∈ rows, RowD b ls _ r := fun r hr => (hR5.all r hr).of hb5.lst (SameB.of all)
      rcases List.mem_append.mp hr with h | h
      · rcases List.mem_append.mp h with h | h
        · exact old r (List.mem_of_mem_take h)
        · obtain rfl := List.mem_singleton.mp h
          exact ⟨Dq5.look, (t3.trans (t4.trans (t5.trans t6))) _ _ upd_same, nDb, all _ _ hD5, ⟨sh, rfl, hsub'⟩⟩
      · exact old r (List.mem_of_mem_drop h)
    · rw [← hR5.looks, List.map_append, List.map_append]
      have hsplit : rows = rows.take q ++ [rows[q]] ++ rows.drop (q + 1) := by
        rw [← take_at (List.getElem?_eq_getElem hqr), List.take_append_drop]
      conv => rhs; rw [hsplit]
      rw [List.map_append, List.map_append]
      rfl
end
end Dl

namespace Dl
open PySem PySem.Spec PyProof.Rows L2
def spGiven : Sp := fun vs H Q _ => ∃ (R : Addr) (way : Int) (rows : List RowIn), vs = [.ref R, .int way] ∧ (way = 0 ∨ way = 1) ∧ H R = some (.lst (refsOf rows)) ∧ (∀ r ∈ rows, RowG H r) ∧ rows.length ≤ 900 ∧
  ∀ (H' : Hp) (R' : Addr) (rows' : List RowIn), Same H H' → H R' = none → H' R' = some (.lst (refsOf rows')) → (∀ r ∈ rows', RowG H' r ∧ r.s ≠ R' ∧ H r.s = none) → rows'.map RowIn.dat = rows.map (turned way) → Q (.ref R') H'
section
variable {P : Program} {w : World} {K : PySem.W.Frag} {mg : Str → Option Value} {base : Heap}
theorem scGiven : FnScope ["_law_rows", "_law_way", "_law_given_here", "_law_row", "_law_shown"] ["_law_rows", "_law_way"] (defScope sLawGiven) := ⟨rfl, rfl, rfl, by decide +kernel, rfl, by decide +kernel, by decide +kernel⟩
theorem ok_given {f : Addr} {fd : FuncData} (F : Fun K "_law_given" "_law_given" sLawGiven f fd) (T : TxtR mg) : FnOk P w K mg base CX0 1 f fd ["_law_rows", "_law_way"] spGiven := by
  refine F.ok scGiven (fun vs H Q E h => ?_) (fun cdv A outer s H vs Q E hr h => ?_)
  · obtain ⟨a, b, rows, rfl, _⟩ := h
    rfl
  · obtain ⟨R, way, rows, rfl, hw, hR, hrw, hrl, k⟩ := h
    refine ⟨_, (pss_cons (ps_set (i := 2) scGiven.nd rfl (Or.inl rfl) (pe_lst pa_nil))
        (pss_cons (ps_for PassesOwn.never rfl (pi_list (pv 0)) (pg_name (i := 3) scGiven.nd rfl (Or.inl rfl)) (pss_cons (ps_set (i := 4) scGiven.nd rfl (Or.inl rfl) (pe_callTy call_list_of (by rfl) T.list (by decide +kernel) (pa_cons (pe_ix ix_tup (pv 3) pe_int (fun _ _ => rfl)) pa_nil)))
        (pss_cons (ps_if (pt_cmpR op_eq (pv 1) pe_int (nomark _)) (pss_one (ps_expr (pe_bm0 PySem.F.plainAttrs_list PySem.F.slot_list_reverse PySem.F.type_list_reverse mt_reverse (pv 4)))) pss_nil)
        (pss_one (ps_expr (pe_bm PySem.F.plainAttrs_list PySem.F.slot_list_append PySem.F.type_list_append mt_append (pv 2) (pa_cons (pe_tup (pa_cons (pe_ix ix_tup (pv 3) pe_int (fun _ _ => rfl)) (pa_cons (pv 4) pa_nil))) pa_nil)))))))
        (pss_one (ps_ret (pv 2))))), ?_⟩
    refine ⟨Nat.zero_le _, fun G hG0 => ?_⟩
    have s0 : Same H (upd H G (.lst [])) := Same.upd_new hG0
    refine ⟨_, rfl, R, rfl, ⟨_, SqL.of (s0 _ _ hR)⟩, for_it (walk_list (K := K) (a := R) (xs := refsOf rows)) (fun i σ H' => ∃ (x3 x4 : Option V) (rows' : List RowIn), σ = [some (.ref R), some (.int way), some (.ref G), x3, x4] ∧ Same H H' ∧ H' G = some (.lst (refsOf rows')) ∧
        (∀ r ∈ rows', RowG H' r ∧ r.s ≠ G ∧ H r.s = none) ∧ rows'.map RowIn.dat = (rows.take i).map (turned way) ∧ rows'.length = i)
      ⟨none, none, [], rfl, s0, upd_same, fun r hr => absurd hr (by simp), rfl, rfl⟩ (fun i σ H' _ ⟨_, _, _, _, s1, _⟩ => SqL.of (s1 _ _ hR)) ?_ ?_⟩
    · rintro i v σ H2 H3 hi ⟨x3, x4, rows', rfl, s2, hG2, hrs, hdat, hlen'⟩ ⟨rfl, hv⟩
      obtain ⟨r, hr', rfl⟩ := map_at (show (rows.map fun r => V.ref r.t)[i]? = some v from hv)
      have hlt : i < rows.length := (List.getElem?_eq_some_iff.mp hr').1
      have hg := hrw r (List.mem_of_getElem? hr')
      refine ⟨_, rfl, r.t, _, 1, .ref r.s, rfl, rfl, SqT.of (hg.of s2).pair, rfl, r.s, _, rfl, .inl (SqL.of (hg.of s2).lst), fun D hD => ?_⟩
      rcases hw with rfl | rfl
      ·
        refine ⟨_, rfl, rfl, _, rfl, ?_⟩
        rw [decide_eq_false (show ¬ V.int 0 = V.int 1 from fun e => by cases e)]
        refine iteF ?_
        have nGD : G ≠ D := ne_of_none hG2 hD
        have hD0 : H D = none := s2.free hD
        refine ⟨_, rfl, .inl ⟨rfl, _, SqL.of (by rw [upd_ne nGD]; exact hG2)⟩, _, rfl, r.t, _, 0, r.look, rfl, rfl, SqT.of ((Same.upd_new hD) _ _ (hg.of s2).pair), rfl, _, rfl, by show 2 ≤ sizeLine; decide, fun t ht => ?_⟩
        have ht0 : H3 t = none := (upd_none ht).1
        have ntG : G ≠ t := ne_of_none hG2 ht0
        have ntD : D ≠ t := (upd_none ht).2.symm
        refine ⟨G, _, _, rfl, rfl, by rw [upd_ne ntG]; rw [upd_ne nGD]; exact hG2, ?_, ?_⟩
        · unfold refsOf
          rw [List.length_map]
          exact small1000 (by omega)
        · have keep : ∀ {d : Addr} {o : HO}, d ≠ G → H3 d = some o → upd (upd (upd H3 D (.lst r.xs)) t (.tup [r.look, .ref D])) G (.lst (refsOf rows' ++ [.ref t])) d = some o := fun n h => by
            rw [upd_ne n, upd_ne (ne_of_none h ht0), upd_ne (ne_of_none h hD)]; exact h
          refine ⟨_, _, rows' ++ [⟨t, r.look, D, r.xs⟩], rfl, fun d o h => keep (ne_of_none h hG0) (s2 _ _ h), by rw [upd_same]; unfold refsOf; rw [List.map_append]; rfl, fun x hx => ?_, ?_, ?_⟩
          · rcases List.mem_append.mp hx with h | h
            · obtain ⟨g, ng, nf⟩ := hrs x h
              exact ⟨⟨keep (ne_tup_lst g.pair hG2) g.pair, keep ng g.lst⟩, ng, nf⟩
            · obtain rfl := List.mem_singleton.mp h
              exact ⟨⟨by rw [upd_ne ntG.symm, upd_same], by rw [upd_ne nGD.symm, upd_ne ntD]; exact upd_same⟩, nGD.symm, hD0⟩
          · rw [List.map_append, hdat, take_at hr', List.map_append]
            rfl
          · rw [List.length_append, hlen']
            rfl
      ·
        refine ⟨_, rfl, rfl, _, rfl, ?_⟩
        rw [decide_eq_true (rfl : V.int 1 = V.int 1)]
        refine iteT ⟨_, rfl, .inl ⟨rfl, _, SqL.of upd_same⟩, D, _, rfl, rfl, upd_same, ?_⟩
        have nGD : G ≠ D := ne_of_none hG2 hD
        have hD0 : H D = none := s2.free hD
        refine ⟨_, rfl, .inl ⟨rfl, _, SqL.of (by rw [upd_upd, upd_ne nGD]; exact hG2)⟩, _, rfl, r.t, _, 0, r.look, rfl, rfl, SqT.of (by rw [upd_upd]; exact (Same.upd_new hD) _ _ (hg.of s2).pair), rfl, _, rfl, by show 2 ≤ sizeLine; decide, fun t ht => ?_⟩
        rw [upd_upd] at ht
        have ht0 : H3 t = none := (upd_none ht).1
        have ntG : G ≠ t := ne_of_none hG2 ht0
        have ntD : D ≠ t := (upd_none ht).2.symm
        refine ⟨G, _, _, rfl, rfl, by rw [upd_ne ntG]; rw [upd_upd, upd_ne nGD]; exact hG2, ?_, ?_⟩
        · unfold refsOf
          rw [List.length_map]
          exact small1000 (by omega)
        · have keep : ∀ {d : Addr} {o : HO}, d ≠ G → H3 d = some o → upd (upd (upd (upd H3 D (.lst r.xs)) D (.lst r.xs.reverse)) t (.tup [r.look, .ref D])) G (.lst (refsOf rows' ++ [.ref t])) d = some o := fun n h => by
            rw [upd_ne n, upd_ne (ne_of_none h ht0), upd_ne (ne_of_none h hD), upd_ne (ne_of_none h hD)]; exact h
          refine ⟨_, _, rows' ++ [⟨t, r.look, D, r.xs.reverse⟩], rfl, fun d o h => keep (ne_of_none h hG0) (s2 _ _ h), by rw [upd_same]; unfold refsOf; rw [List.map_append]; rfl, fun x hx => ?_, ?_, ?_⟩
          · rcases List.mem_append.mp hx with h | h
            · obtain ⟨g, ng, nf⟩ := hrs x h
              exact ⟨⟨keep (ne_tup_lst g.pair hG2) g.pair, keep ng g.lst⟩, ng, nf⟩
            · obtain rfl := List.mem_singleton.mp h
              exact ⟨⟨by rw [upd_ne ntG.symm, upd_same], by rw [upd_ne nGD.symm, upd_ne ntD]; exact upd_same⟩, nGD.symm, hD0⟩
          · rw [List.map_append, hdat, take_at hr', List.map_append]
            rfl
          · rw [List.length_append, hlen']
            rfl
    · rintro σ H2 ⟨x3, x4, rows', rfl, s2, hG2, hrs, hdat, hlen'⟩
      have hlen2 : (refsOf rows).length = rows.length := by unfold refsOf; rw [List.length_map]
      rw [hlen2, List.take_length] at hdat
      exact ⟨_, rfl, k H2 G rows' s2 hG0 hG2 hrs hdat⟩
end
end Dl

namespace Dl
open PySem L2
/-! ### a table of good names is made -/
theorem chosen_sub {sh ls : List Str} (h : sh.Sublist ls) (nd : ls.Nodup) : chosen ls sh = sh := by
  unfold chosen
  induction h with
  | slnil => rfl
  | @cons sh ls a h ih =>
    rw [List.nodup_cons] at nd
    have na : ¬ a ∈ sh := fun m => nd.1 (h.subset m)
    rw [List.filter_cons_of_neg (by simpa using na)]
    exact ih nd.2
  | @cons_cons sh ls a h ih =>
    rw [List.nodup_cons] at nd
    rw [List.filter_cons_of_pos (by simp)]
    congr 1
    rw [← ih nd.2]
    apply List.filter_congr
    intro z hz
    have nz : z ≠ a := fun e => nd.1 (e ▸ hz)
    rw [ih nd.2]
    simp [nz]
theorem names_ok' : ∀ {zs acc : List Str}, zs.Nodup → (∀ z ∈ zs, validN z = true ∧ z ∉ acc) → chkNames (zs.map V.str) acc = .ok (acc ++ zs)
  | [], acc, _, _ => by simp [chkNames]
  | z :: r, acc, nd, h => by
    rw [List.nodup_cons] at nd
    have hz := h z (List.mem_cons_self ..)
    have e : chkNew (.str z) acc = none := by simp [chkNew, hz.1, hz.2]
    rw [List.map_cons, chkNames, e]
    show chkNames (r.map V.str) (acc ++ [z]) = _
    rw [names_ok' nd.2 fun y hy => ⟨(h y (List.mem_cons_of_mem _ hy)).1, fun m => by
      rcases List.mem_append.mp m with m | m
      · exact (h y (List.mem_cons_of_mem _ hy)).2 m
      · obtain rfl := List.mem_singleton.mp m
        exact nd.1 hy⟩]
    simp
theorem names_ok {zs : List Str} (nd : zs.Nodup) (h : ∀ z ∈ zs, validN z = true) : chkNames (zs.map V.str) [] = .ok zs := by
  rw [names_ok' nd fun z hz => ⟨h z hz, by simp⟩]
  simp
theorem shown_ok' : ∀ {zs ls prev : List Str}, zs.Nodup → (∀ z ∈ zs, z ∈ ls ∧ z ∉ prev) → chkShown (zs.map V.str) ls prev = none
  | [], _, _, _, _ => by simp [chkShown]
  | z :: r, ls, prev, nd, h => by
    rw [List.nodup_cons] at nd
    have hz := h z (List.mem_cons_self ..)
    rw [List.map_cons, chkShown, if_pos (show knows (.str z) ls = true by simp [knows, hz.1]), if_neg (show ¬ strOf (.str z) ∈ prev from hz.2)]
    refine shown_ok' nd.2 fun y hy => ⟨(h y (List.mem_cons_of_mem _ hy)).1, fun m => ?_⟩
    rcases List.mem_append.mp m with m | m
    · exact (h y (List.mem_cons_of_mem _ hy)).2 m
    · have e : y = z := List.mem_singleton.mp m
      exact nd.1 (e ▸ hy)
theorem rows_ok' {ls : List Str} (lnd : ls.Nodup) : ∀ {xs acc : List (Str × List Str)}, (xs.map (·.1)).Nodup → (∀ x ∈ xs, validN x.1 = true ∧ x.2.Sublist ls ∧ x.1 ∉ acc.map (·.1)) → initRows ls (xs.map fun x => (V.str x.1, x.2.map V.str)) acc = .ok (acc ++ xs)
  | [], acc, _, _ => by simp [initRows]
  | x :: r, acc, nd, h => by
    rw [List.map_cons, List.nodup_cons] at nd
    obtain ⟨h1, h2, h3⟩ := h x (List.mem_cons_self ..)
    have e : chkNew (.str x.1) (acc.map (·.1)) = none := by simp only [chkNew, h1, if_true]; rw [if_neg h3]
    have e2 : chkShown (x.2.map V.str) ls [] = none := shown_ok' (h2.nodup lnd) fun z hz => ⟨h2.subset hz, by simp⟩
    have e3 : (x.2.map V.str).map strOf = x.2 := by rw [List.map_map]; exact List.map_id _
    rw [List.map_cons, initRows, e, e2]
    show initRows ls _ (acc ++ [(x.1, chosen ls ((x.2.map V.str).map strOf))]) = _
    rw [e3, chosen_sub h2 lnd, rows_ok' lnd nd.2 fun y hy => ⟨(h y (List.mem_cons_of_mem _ hy)).1, (h y (List.mem_cons_of_mem _ hy)).2.1, fun m => by
      rw [List.map_append] at m
      rcases List.mem_append.mp m with m | m
      · exact (h y (List.mem_cons_of_mem _ hy)).2.2 m
      · have q : y.1 = x.1 := by simpa using m
        exact nd.1 (by rw [← q]; exact List.mem_map.mpr ⟨y, hy, rfl⟩)⟩]
    simp
theorem init_ok {ls : List Str} {rs : List (Str × List Str)} (ok : TabOk ls rs) : initT (ls.map V.str) (rs.map rdat) = .ok (ls, rs) := by
  unfold initT
  rw [if_neg (by rw [List.length_map, List.length_map]; have := ok.lfew; have := ok.kfew; omega), names_ok ok.lnd ok.lval]
  have e : initRows ls (rs.map rdat) [] = .ok rs := by
    have q := rows_ok' ok.lnd (xs := rs) (acc := []) ok.knd fun x hx => ⟨ok.kval x hx, ok.sub x hx, by simp⟩
    rw [List.nil_append] at q
    exact q
  simp only [e]
end Dl

namespace Dl
open PySem PySem.Spec PyProof.Rows L2
theorem TabOk.lampsNm {ls : List Str} {rs : List (Str × List Str)} (ok : TabOk ls rs) {H : Hp} : ∀ v ∈ ls.map V.str, NmOk H v := fun v hv => by
  obtain ⟨z, hz, rfl⟩ := List.mem_map.mp hv
  have h := ok.lval z hz
  unfold validN at h
  simp only [Bool.and_eq_true, decide_eq_true_eq] at h
  exact Nat.le_of_lt (small1000 (by have := h.2.1; omega))
theorem validN_nm {z : Str} (h : validN z = true) {H : Hp} : NmOk H (.str z) := by
  unfold validN at h
  simp only [Bool.and_eq_true, decide_eq_true_eq] at h
  exact Nat.le_of_lt (small1000 (by have := h.2.1; omega))
theorem TableAt.of {CT : Addr} {H H' : Hp} {p : Addr} {ls : List Str} {rs : List (Str × List Str)} (s : Same H H') (h : TableAt CT H p ls rs) : TableAt CT H' p ls rs := by
  obtain ⟨dx, lt, sd, kt, kvs, hp, hlt, hsd, hkt, hrs⟩ := h
  exact ⟨dx, lt, sd, kt, kvs, s _ _ hp, s _ _ hlt, s _ _ hsd, s _ _ hkt, hrs.of fun b ys e => s _ _ e⟩
theorem strs_back (zs : List Str) : (zs.map V.str).map strOf = zs := by rw [List.map_map]; exact List.map_id _
theorem strs_nm {zs : List Str} (h : ∀ z ∈ zs, validN z = true) {H : Hp} : ∀ v ∈ zs.map V.str, NmOk H v := fun v hv => by
  obtain ⟨z, hz, rfl⟩ := List.mem_map.mp hv
  exact validN_nm (h z hz)
end Dl

namespace Dl
open PySem PySem.Spec PyProof.Rows L2
/-! ### one more look -/
def LN : Str := "longername12"
theorem ln_valid : validN LN = true := by decide +kernel
theorem ln_len : LN.cps.toList.length = 12 := by decide +kernel
theorem rowsApp {ls : List Str} : ∀ {xs ys : List (V × List V)} {acc acc' : List (Str × List Str)}, initRows ls xs acc = .ok acc' → initRows ls (xs ++ ys) acc = initRows ls ys acc'
  | [], ys, acc, acc', h => by cases h; rfl
  | (k, sh) :: r, ys, acc, acc', h => by
    rw [List.cons_append]
    unfold initRows at h
    cases e1 : chkNew k (acc.map (·.1)) with
    | some e => rw [e1] at h; cases h
    | none =>
      rw [e1] at h
      simp only at h
      cases e2 : chkShown sh ls [] with
      | some e => rw [e2] at h; cases h
      | none =>
        rw [e2] at h
        have q := rowsApp (ys := ys) h
        rw [← q]
        rw [initRows, e1, e2]
/-- the word of Table for a table's rows and one more -/
def moreT (ls : List Str) (rs : List (Str × List Str)) (nm : V) (xs : List V) : Except Er (List Str × List (Str × List Str)) :=
  if 24 < rs.length + 1 then .error .many else
  match chkNew nm (rs.map (·.1)) with
  | some e => .error e
  | none => match chkShown xs ls [] with
    | some e => .error e
    | none => .ok (ls, rs ++ [(strOf nm, chosen ls (xs.map strOf))])
theorem init_more {ls : List Str} {rs : List (Str × List Str)} (ok : TabOk ls rs) (nm : V) (xs : List V) : initT (ls.map V.str) (rs.map rdat ++ [(nm, xs)]) = moreT ls rs nm xs := by
  unfold initT moreT
  have e : initRows ls (rs.map rdat) [] = .ok rs := by
    have q := rows_ok' ok.lnd (xs := rs) (acc := []) ok.knd fun x hx => ⟨ok.kval x hx, ok.sub x hx, by simp⟩
    rw [List.nil_append] at q
    exact q
  have lf := ok.lfew
  by_cases h : 24 < rs.length + 1
  · rw [if_pos h, if_pos (by simp only [List.length_append, List.length_map, List.length_cons, List.length_nil]; omega)]
  · rw [if_neg h, if_neg (by rw [List.length_append, List.length_map, List.length_map]; simp only [List.length_cons, List.length_nil]; omega), names_ok ok.lnd ok.lval]
    simp only [rowsApp e]
    rw [initRows]
    cases chkNew nm (rs.map (·.1)) with
    | some er => rfl
    | none =>
      simp only
      cases chkShown xs ls [] with
      | some er => rfl
      | none => rfl
end Dl

namespace Dl
open PySem PySem.Spec PyProof.Rows L2
theorem int_nd {i j : Int} (h : i ≠ j) : decide (V.int i = V.int j) = false := decide_eq_false fun q => h (V.int.inj q)
theorem int_yd {i : Int} : decide (V.int i = V.int i) = true := decide_eq_true rfl
theorem iteY {c : Bool} {A B : Prop} (e : c = true) (h : A) : if c = true then A else B := by rw [if_pos e]; exact h
theorem iteZ {c : Bool} {A B : Prop} (e : c = false) (h : B) : if c = true then A else B := by rw [if_neg (by rw [e]; decide)]; exact h
end Dl

/-! a dict comprehension as an assigned value, a walk for it; list(d.values()); list(reversed(a list)): my own rules -/
namespace Dl
open PySem PySem.Spec PyProof.Rows L2
section
variable {X : Cx}
/-- the dict that an expression gives, frozen from then on -/
def tFrozen (td : TE) : TE := fun σ H Q => td σ H fun x H1 => ∃ d kvs, x = .ref d ∧ H1 d = some (.dK kvs) ∧ ∀ od, Q x (upd H1 d (.frz od (.dK kvs)))
theorem pe_frozen {e : Expr} {td : TE} (he : PE X e td) : PE X e (tFrozen td) := by
  constructor
  intro pins s σ H Q I h
  apply thn (he.run pins s σ H _ I h)
  rintro v s1 ⟨x, H1, I1, r1, d, kvs, rfl, hd, q⟩
  obtain ⟨od, I2⟩ := I1.lock hd True.intro
  exact ⟨.ref d, _, I2, r1, q od⟩
theorem sw_dict {kx vx : Expr} {gs : List Comprehension} {scope : Scope} {pos py : Pos} {y : Str} {l : Nat} {env : Env} (hk : env.scope.kind = .function) (hy : env.scope.names.lookup y = some .local) (hl : (py.line == pos.line) = true)
    (ha : (scope.names.any fun (n, k) => n == y && (k == .local || k == .cell)) = false) : swapsWith (.DictComp kx vx gs scope pos) (some (.Name y py)) l env = pure true := by
  have kind : env.kindOf y = some .local := hy
  have block : env.blockKind = .function := by
    unfold Env.blockKind
    rw [hk]
    rfl
  unfold swapsWith
  simp only [block, kind, ha, Expr.pos, hl]
  rfl
theorem ps_setDc1 {i : Nat} {y : Str} {py spos : Pos} {kx vx tg iter : Expr} {ifs : List Expr} {scope : Scope} {own : List (Str × Nat)} {pos : Pos} {wi : TI} {g : TG} {tt : TT} {tk tv : TE} (calm : X.calm = true) (nd : X.N.Nodup) (at_ : X.N[i]? = some y) (loc : X.env.scope.names.lookup y = some .local) (sw : swapsWith (.DictComp kx vx [⟨tg, iter, ifs, 0⟩] scope pos) (some (.Name y py)) spos.line X.env = pure true) (src : PI X tg iter wi) (ok : BlkOk X.N X.env.scope scope own)
    (pg : ∀ (s : Shared) (H : Hp) (C : Addr) (cl : List (Str × Addr)) (fp : List Addr), PG (X.blk s H scope (compEnvC scope cl C X.env) fp) tg g) (pt : ∀ (s : Shared) (H : Hp) (C : Addr) (cl : List (Str × Addr)) (fp : List Addr), PTs (X.blk s H scope (compEnvC scope cl C X.env) fp) ifs tt)
    (pk : ∀ (s : Shared) (H : Hp) (C : Addr) (cl : List (Str × Addr)) (fp : List Addr), PE (X.blk s H scope (compEnvC scope cl C X.env) fp) kx tk) (pv : ∀ (s : Shared) (H : Hp) (C : Addr) (cl : List (Str × Addr)) (fp : List Addr), PE (X.blk s H scope (compEnvC scope cl C X.env) fp) vx tv)
    (plain : ∀ x, foldedSetIterable iter X.env x = pure x := by intro _; rfl) :
    PS X (.Assign [.Name y py] (.DictComp kx vx [⟨tg, iter, ifs, 0⟩] scope pos) spos) (tAsg (tDc wi g tt tk tv (own.map (·.2))) (gName i)) := by
  constructor
  intro pins s σ H D I h
  rw [exec_Assign_Name_used _ _ _ _ sw]
  apply wpAny_bind
  apply wpAny_standAt
  apply wpAny_bind
  show wpAny _ X.A (do let _ ← comprehension (.DictComp kx vx [⟨tg, iter, ifs, 0⟩] scope pos) scope X.env (firstIterPos [⟨tg, iter, ifs, 0⟩] pos) newDict false (eval iter X.env) (some (assign (.Name y py) X.env))) _ _ s
  have told : tDc wi g tt tk tv (own.map (·.2)) σ H (fun x H1 => gName i x σ H1 D.nx) := h
  apply wpAny_bind
  apply thn (dc_core (Qf := fun _ s' => SP X pins D .next s') calm nd I src ok pg pt pk pv plain told fun L C s' m H' I' q hn f => ?_)
  · exact fun _ s' hq => wpAny_pure (wpAny_pure hq)
  · show wpAny _ _ (assign (.Name y py) X.env (.ref L)) _ _ _
    refine wpAny_assign_Name (store_ok2 (v := V.ref L) I' nd at_ (.inl loc) rfl (fun s2 I2 more => ?_) (.inr loc))
    obtain ⟨a, sb, ha⟩ := more
    obtain ⟨f0, f1, f2, f3, f4, f5⟩ := f
    have apart : C ≠ a := ha.elim (fun z => by rw [z]; exact f1) fun z e => f4 y a z e.symm
    exact ⟨m, hn.sameBut sb apart, fun h3 sb3 => ⟨_, H', I2.turned (t' := s2.toks) (fun b o hb e => (sb3.2 b hb).trans e) f0 f1 f3 f4 f5, q⟩⟩
theorem dc1_it {n : Nat} {G : Hp → Prop} {Y : Nat → Hp → V → Hp → Prop} {J : It} (w : Walk J n G Y) {g : TG} {tt : TT} {tk tv : TE} {vs : List Nat} {σ : L2.St} {H1 : Hp} {D : Addr} {Qd : Hp → Prop} (Pv : Nat → Hp → Prop) (h0 : Pv 0 (upd H1 D (.dK []))) (hG : ∀ i H, i ≤ n → Pv i H → G H)
    (hs : ∀ i x H H', i < n → Pv i H → Y i H x H' → g x (wipe σ vs) H' fun σ2 H2 => wipe σ2 vs = wipe σ vs ∧ tt σ2 H2 fun b H3 =>
      if b = true then tk σ2 H3 fun y H4 => tv σ2 H4 fun z H5 => ∃ kvs k, y = kV k ∧ H5 D = some (.dK kvs) ∧ kvs.length < sizeLine ∧ Pv (i + 1) (upd H5 D (.dK (putK kvs k z))) else Pv (i + 1) H3) (hd : ∀ H, Pv n H → Qd H) :
    ∃ W : Nat → Nat → Hp → Prop, (∃ m, W 0 m (upd H1 D (.dK []))) ∧ ∀ i m H, W i m H →
      (J.stop i H ∧ Qd H) ∨ (J.go i H ∧ ∃ Nx : Hp → Prop, (∀ H', Nx H' → ∃ m', m' < m ∧ W (i + 1) m' H') ∧ ∀ x H', J.yld i H x H' → g x (wipe σ vs) H' fun σ2 H2 => wipe σ2 vs = wipe σ vs ∧ tt σ2 H2 fun b H3 =>
        if b = true then tk σ2 H3 fun y H4 => tv σ2 H4 fun z H5 => ∃ kvs k, y = kV k ∧ H5 D = some (.dK kvs) ∧ kvs.length < sizeLine ∧ Nx (upd H5 D (.dK (putK kvs k z))) else Nx H3) := by
  refine ⟨fun i m H => m = n - i ∧ i ≤ n ∧ Pv i H, ⟨n, by simp, Nat.zero_le _, h0⟩, ?_⟩
  rintro i m H ⟨rfl, hi, p⟩
  have q := hG i H hi p
  by_cases hlt : i < n
  · exact .inr ⟨w.goes i H hlt q, Pv (i + 1), fun H' p' => ⟨n - (i + 1), by omega, rfl, hlt, p'⟩, fun x H' y => hs i x H H' hlt p (w.yields i H x H' hlt q y)⟩
  · have e : i = n := by omega
    subst e
    exact .inl ⟨w.stops H q, hd H p⟩
end
end Dl

/-! sorted of a tuple, or of a list or tuple, of texts (from r_xval, without its exceptions); an iterable of two kinds -/
namespace Dl
open PySem PySem.Spec PyProof.Rows L2
section
variable {X : Cx}
theorem pi_or {tg e : Expr} {w1 w2 : TI} (h1 : PI X tg e w1) (h2 : PI X tg e w2) : PI X tg e (fun σ H R => w1 σ H R ∨ w2 σ H R) :=
  ⟨fun pins s σ H R I h => h.elim (h1.run pins s σ H R I) (h2.run pins s σ H R I)⟩
/-- sorted(t) of a tuple of texts -/
def rSortedST (K : PySem.W.Frag) : List V → Hp → VK → Prop := fun vs H Q => ∃ (a : Addr) (xs : List Str), vs = [V.ref a] ∧ SqT K H a (xs.map V.str) ∧ xs.length < 64 ∧
    ∀ ys p, ys.Perm xs → sortedS ys = true → H p = none → Q (.ref p) (upd H p (.lst (ys.map V.str)))
theorem cr_sortedST : CallR X (.builtin "sorted") (rSortedST X.K) := by
  intro pins s σ H vs us Q I r h
  obtain ⟨a, xs, rfl, hs, h64, q⟩ := h
  obtain ⟨its, rv, ht, _⟩ := I.tuple hs
  rw [Vals.ref1 r]
  have hlen0 := rv.length
  rw [List.length_map] at hlen0
  have hl64 : its.length < 64 := by omega
  have hS : StrsAre its xs := rv.strs
  obtain ⟨o, ho, hc, n, hd⟩ := id ht
  refine Calls.call_function_entry PyProof.Rows.kind_sorted PyProof.Rows.plain_sorted PyProof.Rows.entry_sorted (PyProof.Rows.args_sorted1 _) ?_
  unfold Builtin.«sorted»
  refine wpAny_bind (m := checkCount "sorted" 1 1 _) (wpAny_pure ?_)
  refine wpAny_bind (wpAny_collect_seq (A := X.A.in1) a (.inr rfl) ho hc hd (fun h' hk => ?_) (by show its.toArray.size ≤ sizeLine; rw [List.size_toArray, sizeLine_eq]; omega))
  rw [List.toList_toArray]
  have I1 : Inv X pins σ H { s with heap := h', toks := s.toks } := I.kept hk
  refine wpAny_bind (wpAny_newList ?_ (by rw [sizeLine_eq]; omega))
  have hoL : (h'.push (seqObj "list" its.toArray 0)).get? h'.objs.size = some (seqObj "list" its.toArray 0) := Heap.get?_push_size _ rfl
  show wpAny _ _ _ _ _ { s with heap := h'.push (seqObj "list" its.toArray 0) }
  refine wpAny_bind (wpAny_holding (wpAny_call_entry PyProof.Rows.slot_list_sort ⟨_, hoL, rfl⟩ PyProof.Rows.entry_list_sort
    (list_sort_treeK strKind_oneLt (s := { s with heap := h'.push (seqObj "list" its.toArray 0) }) hoL hS.keysOf (fun v₁ v₂ rest e => keyKind_strs (by rw [← e]; exact hS)) hl64 fun st' hp hs => ⟨_, rfl, ?_⟩)
    (PyProof.Rows.args_list_sort _)))
  obtain ⟨ys, g1, g2, g3⟩ := sorted_out_str hS hp hs
  obtain ⟨e', he'⟩ := PyProof.Rows.sortedHeap_at (vs := its) (out := (arrOf st').map (·.2)) hoL
  have hlen : (ys.map V.str).length ≤ sizeLine := by
    rw [List.length_map, g2.length_eq]
    exact Nat.le_trans (Nat.le_of_lt h64) (by decide)
  refine wpAny_pure ⟨_, rfl, .ref h'.objs.size, upd H h'.objs.size (.lst (ys.map V.str)), I1.laid (t' := s.toks) (fun b u e => ?_) (Nat.le_refl _)
    (show ObjOk X.prog X.w _ _ _ (.lst (ys.map V.str)) from ⟨hlen, ((arrOf st').map (·.2)).toList, e', vals_of_strs g1, by rw [Array.toArray_toList]; exact he'⟩), rfl, q ys _ g2 g3 (I1.hok.fresh (Nat.le_refl _))⟩
  have hb : b < h'.objs.size := Heap.lt_size e
  rw [PyProof.Rows.sortedHeap_old (Nat.ne_of_lt hb) (by rw [size_push']; exact Nat.lt_succ_of_lt hb)]
  exact Heap.get?_push_of_some _ e
def rSortedSE (K : PySem.W.Frag) : List V → Hp → VK → Prop := fun vs H Q => ∃ (a : Addr) (xs : List Str), vs = [V.ref a] ∧ (SqL K H a (xs.map V.str) ∨ SqT K H a (xs.map V.str)) ∧ xs.length < 64 ∧
    ∀ ys p, ys.Perm xs → sortedS ys = true → H p = none → Q (.ref p) (upd H p (.lst (ys.map V.str)))
theorem cr_sortedSE : CallR X (.builtin "sorted") (rSortedSE X.K) := by
  rintro pins s σ H vs us Q I r ⟨a, xs, e, hs, h64, q⟩
  rcases hs with hs | hs
  · exact cr_sortedS pins s σ H vs us Q I r ⟨a, xs, e, hs, h64, q⟩
  · exact cr_sortedST pins s σ H vs us Q I r ⟨a, xs, e, hs, h64, q⟩
end
/-- sorted lists of texts that are permutations of each other are equal -/
theorem risingS_pw : ∀ (l : List Str) (p : Str), risingS p l = true → (p :: l).Pairwise (fun a b => a.cps.toList ≤ b.cps.toList)
  | [], p, _ => List.pairwise_singleton ..
  | x :: r, p, h => by
    have h2 : (!ltCps x.cps.toList p.cps.toList && risingS x r) = true := h
    rw [Bool.and_eq_true, Bool.not_eq_true', ltCps_eq, decide_eq_false_iff_not] at h2
    have ih := risingS_pw r x h2.2
    refine List.pairwise_cons.mpr ⟨fun y hy => ?_, ih⟩
    have hx : p.cps.toList ≤ x.cps.toList := h2.1
    rcases List.mem_cons.mp hy with e | hy
    · rw [e]; exact hx
    · exact List.le_trans hx ((List.pairwise_cons.mp ih).1 y hy)
theorem sortedS_pw {l : List Str} (h : sortedS l = true) : l.Pairwise (fun a b => a.cps.toList ≤ b.cps.toList) := by
  cases l with
  | nil => exact .nil
  | cons x r => exact risingS_pw r x h
theorem sortedS_uniq {l r : List Str} (hl : sortedS l = true) (hr : sortedS r = true) (p : l.Perm r) : l = r :=
  List.Perm.eq_of_pairwise (le := fun a b : Str => a.cps.toList ≤ b.cps.toList) (fun a b _ _ h1 h2 => by
    have e := List.le_antisymm h1 h2
    cases a; cases b
    congr
    exact Array.ext' e) (sortedS_pw hl) (sortedS_pw hr) p
end Dl

/-! a + b, a - b by an own method, both of one class; v in a by an own __contains__: my own rules -/
namespace Dl
open PySem PySem.Spec PyProof.Rows L2
section
variable {X : Cx} {CX : CXT} {k : Nat} {C f : Addr} {fd : FuncData} {ps : List Str} {sp : Sp} {E : XK}
theorem no_notimpl {z : V} : ¬ RelV z .notImplemented := by
  intro r
  cases z <;> first
    | (obtain ⟨t, e⟩ := (show ∃ t, Value.notImplemented = _ from r); cases e; done)
    | (have e : Value.notImplemented = _ := r; cases e; done)
def rBinOwn (C : Addr) (sp : Sp) (E : XK) : R2 := fun x y H Q => ∃ a dx fs b dy gs, x = .ref a ∧ H a = some (.ins C dx fs) ∧ y = .ref b ∧ H b = some (.ins C dy gs) ∧ sp [x, y] H Q E
theorem op_binOwn {op : Operator} (F : FnOk X.prog X.w X.K X.mg X.base CX k f fd ps sp) (self1 : PySem.W.selfFirst X.K C = true) (hs : PySem.W.findIn X.K (.ref C) (PySem.dunder op.info.2) = some (some (.ref f))) (hf : PySem.W.isFn X.K (.ref f) = true)
    (hr : Room k X.A) (hb : Binds X.K fd ps []) (hx : Passes CX X E) : OpR X (binaryOp op) (rBinOwn C sp E) := by
  intro pins s σ H x y v u Q I rx ry h
  obtain ⟨a, dx, fs, b, dy, gs, rfl, ha, rfl, hb2, hsp⟩ := h
  cases rx
  cases ry
  obtain ⟨mA, J, _⟩ := ins_get I.hok ha
  obtain ⟨od, J, _⟩ := J.look
  obtain ⟨mB, J2, _⟩ := ins_get I.hok hb2
  obtain ⟨od2, J2, _⟩ := J2.look
  obtain ⟨m, hF⟩ := I.fr
  refine PySem.W.binop_K hF I.ok.mod.kin J J2.type self1 hs hf ?_
  refine wpAny_mono (run_at (A := X.A) rfl F hr hb hx I (show Vals [V.ref a, .ref b] [Value.ref a, .ref b] from .cons rfl (.cons rfl .nil)) hsp) (fun v s' hv => ?_) fun _ _ e => e
  have hv2 := hv
  obtain ⟨z, H', I', rz, q⟩ := hv2
  cases v <;> first | exact hv | exact (no_notimpl rz).elim
def rInOwn (C : Addr) (sp : Sp) (E : XK) : R2 := fun x y H Q => ∃ a dx fs, y = .ref a ∧ H a = some (.ins C dx fs) ∧ sp [y, x] H (fun z H' => ∃ c : Bool, z = .bl c ∧ Q (.bl c) H') E
theorem op_inOwn (F : FnOk X.prog X.w X.K X.mg X.base CX k f fd ps sp) (hs : PySem.W.findIn X.K (.ref C) "__contains__" = some (some (.ref f))) (hf : PySem.W.isFn X.K (.ref f) = true)
    (hr : Room k X.A) (hb : Binds X.K fd ps []) (hx : Passes CX X E) : OpR X (compareOp .In) (rInOwn C sp E) := by
  intro pins s σ H x y v u Q I rx ry h
  obtain ⟨a, dx, fs, rfl, ha, hsp⟩ := h
  cases ry
  obtain ⟨mA, J, _⟩ := ins_get I.hok ha
  obtain ⟨od, J, _⟩ := J.look
  obtain ⟨m, hF⟩ := I.fr
  refine PySem.W.in_K hF I.ok.mod.kin J hs hf ?_
  refine wpAny_mono (run_at (A := X.A) rfl F hr hb hx I (show Vals [V.ref a, x] [Value.ref a, v] from .cons rfl (.cons rx .nil)) hsp) (fun r s' hv => ?_) fun _ _ e => e
  obtain ⟨z, H', I', rz, c, rfl, q⟩ := hv
  have er : r = .bool c := rz
  subst er
  exact wpAny_truthy_bool ⟨.bl c, H', I', rfl, q⟩
def rUnOwn (C : Addr) (sp : Sp) (E : XK) : V → Hp → VK → Prop := fun x H Q => ∃ a dx fs, x = .ref a ∧ H a = some (.ins C dx fs) ∧ sp [x] H Q E
theorem un_negOwn (F : FnOk X.prog X.w X.K X.mg X.base CX k f fd ps sp) (hs : PySem.W.findIn X.K (.ref C) "__neg__" = some (some (.ref f))) (hf : PySem.W.isFn X.K (.ref f) = true)
    (hr : Room k X.A) (hb : Binds X.K fd ps []) (hx : Passes CX X E) : UnR X (unaryOp .USub) (rUnOwn C sp E) := by
  intro pins s σ H x v Q I rx h
  obtain ⟨a, dx, fs, rfl, ha, hsp⟩ := h
  cases rx
  obtain ⟨mA, J, _⟩ := ins_get I.hok ha
  obtain ⟨od, J, _⟩ := J.look
  unfold unaryOp
  refine wpAny_holding ?_
  show wpAny _ _ (callSpecial? (.ref a) "__neg__" [] >>= _) _ _ _
  refine wpAny_bind (PySem.W.special_fn I.kIn J hs (beq_iff_eq.mp hf) ?_)
  refine wpAny_mono (run_at (A := X.A) rfl F hr hb hx I (show Vals [V.ref a] [Value.ref a] from .cons rfl .nil) hsp) (fun r s' hv => ?_) fun _ _ e => e
  exact wpAny_pure hv
/-- C(*y), the __init__ with a star parameter -/
def tMakeR1 (K : PySem.W.Frag) (C : Addr) (sp : Sp) (E : XK) (te : TE) : TE := fun σ H Q => te σ H fun y H1 => ∃ a xs, y = V.ref a ∧ (SqT K H1 a xs ∨ SqL K H1 a xs) ∧ ∀ x dx, H1 x = Option.none → H1 dx = Option.none → dx ≠ x →
  sp (V.ref x :: xs) (upd (upd H1 dx (.own x)) x (.ins C dx [])) (fun v H2 => v = .non ∧ Q (.ref x) H2) E
theorem pe_makeR1 {x : Str} {e : Expr} {te : TE} {p at_ pos : Pos} (M : Mk X.K C f) (F : FnR X.prog X.w X.K X.mg X.base CX k f sp) (room : Room (k + 1) X.A) (glob : Gl X x) (here : X.mg x = some (.ref C)) (quiet : Passes CX X E) (arg : PE X e te)
    (dbg : (x == ("__debug__" : Str)) = false := by decide) (one : starEach [.Starred e at_] X.env = [(true, eval e X.env)] := by rfl) : PE X (.Call (.Name x p) [.Starred e at_] [] pos) (tMakeR1 X.K C sp E te) := by
  constructor
  intro qs t τ G W J want
  apply wpAny_Call_Name_kw
  apply ld_glob J glob here _ dbg
  apply PySem.W.callWith_S (h₀ := X.base) J.ok.mod.kin M.kp _ one
  apply thn (arg.run qs t τ G _ J want)
  rintro v t1 ⟨y, G1, J1, rel, a, xs, rfl, seq, go⟩
  cases rel
  exact StX.star_any J1 seq fun us t2 J2 rv => ⟨J2.kIn, StX.run_makeR M F room quiet J2 rv go⟩
theorem pe_makeR0 {x : Str} {p pos : Pos} (M : Mk X.K C f) (F : FnR X.prog X.w X.K X.mg X.base CX k f sp) (room : Room (k + 1) X.A) (glob : Gl X x) (here : X.mg x = some (.ref C)) (quiet : Passes CX X E)
    (dbg : (x == ("__debug__" : Str)) = false := by decide) : PE X (.Call (.Name x p) [] [] pos) (StX.tMakeR C sp E tNil) := by
  constructor
  intro qs t τ G W J want
  apply wpAny_Call_Name_kw
  apply ld_glob J glob here _ dbg
  exact PySem.W.callWith_K0 J.kIn M.kp (StX.run_makeR (us := []) M F room quiet J .nil want)
end
end Dl

/-! a + n, n + a with an own __add__, __radd__ and a whole number n: my own rules -/
namespace Dl
open PySem PySem.Spec PyProof.Rows L2
section
variable {X : Cx} {CX : CXT} {k : Nat} {C f : Addr} {fd : FuncData} {ps : List Str} {sp : Sp} {E : XK}
def rBinInt (C : Addr) (sp : Sp) (E : XK) : R2 := fun x y H Q => ∃ a dx fs i, x = .ref a ∧ H a = some (.ins C dx fs) ∧ y = .int i ∧ sp [x, y] H Q E
theorem op_binInt {op : Operator} (F : FnOk X.prog X.w X.K X.mg X.base CX k f fd ps sp) (self1 : PySem.W.selfFirst X.K C = true) (hs : PySem.W.findIn X.K (.ref C) (PySem.dunder op.info.2) = some (some (.ref f))) (hf : PySem.W.isFn X.K (.ref f) = true)
    {rc fo ro : Option Value} (h0 : PySem.W.findIn X.K (.ref C) (PySem.dunderR op.info.2) = some rc) (hp : rc = none ∨ ∃ g : Addr, rc = some (.ref g)) (h1 : PySem.W.findIn X.K (.type "int") (PySem.dunder op.info.2) = some fo) (h2 : PySem.W.findIn X.K (.type "int") (PySem.dunderR op.info.2) = some ro)
    (hsub : PySem.W.subIn X.K (.type "int") (.ref C) = some false) (hr : Room k X.A) (hb : Binds X.K fd ps []) (hx : Passes CX X E) : OpR X (binaryOp op) (rBinInt C sp E) := by
  intro pins s σ H x y v u Q I rx ry h
  obtain ⟨a, dx, fs, i, rfl, ha, rfl, hsp⟩ := h
  cases rx
  obtain ⟨t, rfl⟩ := ry
  obtain ⟨mA, J, _⟩ := ins_get I.hok ha
  obtain ⟨od, J, _⟩ := J.look
  obtain ⟨m, hF⟩ := I.fr
  refine PySem.W.ksp_binT (T := "int") hF I.ok.mod.kin J rfl self1 hs hf h0 hp h1 h2 hsub ?_
  refine wpAny_mono (run_at (A := X.A) rfl F hr hb hx I (show Vals [V.ref a, .int i] [Value.ref a, Value.int i t] from .cons rfl (.cons ⟨t, rfl⟩ .nil)) hsp) (fun v s' hv => ?_) fun _ _ e => e
  have hv2 := hv
  obtain ⟨z, H', I', rz, q⟩ := hv2
  cases v <;> first | exact hv | exact (no_notimpl rz).elim
theorem int_add_inst {prog : Program} {w : World} {A : Around} {E : Value → Shared → Prop} {s : Shared} {i : Int} {t : Tok} {a dx : Addr} {C : Addr} {Q : Value → Shared → Prop} (ha : s.heap.get? a = some (PySem.W.instObj C dx)) (q : Q .notImplemented s) :
    wpAny (model prog w) A (call (.builtin "int.__add__") [.int i t, .ref a]) Q E s := by
  refine wpAny_call_entry (s := s) PySem.F.slot_int_add (typeIs_int s i t) PySem.F.entry_int_add ?_ (PySem.F.args_int_add_2 _ _)
  unfold Builtin.«int.__add__» Builtin.Int.intBinary
  refine wpAny_bind (m := slotArgs _ _ _) (wpAny_of_eq (a := (Value.int i t, [Value.ref a])) rfl ?_)
  refine wpAny_bind (m := Builtin.Int.intOfSelf _) (wpAny_of_eq (a := i) rfl ?_)
  refine wpAny_bind ?_
  show wpAny _ _ (load a >>= _) _ _ _
  refine wpAny_bind (wpAny_load ha ?_)
  refine wpAny_pure ?_
  refine wpAny_bind (wpAny_rule ?_)
  exact wpAny_pure ⟨_, rfl, q⟩
def rIntBin (C : Addr) (sp : Sp) (E : XK) : R2 := fun x y H Q => ∃ a dx fs i, y = .ref a ∧ H a = some (.ins C dx fs) ∧ x = .int i ∧ sp [y, x] H Q E
theorem op_intAdd (F : FnOk X.prog X.w X.K X.mg X.base CX k f fd ps sp) (self1 : PySem.W.selfFirst X.K C = true) {g : Addr} (h0 : PySem.W.findIn X.K (.ref C) (PySem.dunder "add") = some (some (.ref g))) (hs : PySem.W.findIn X.K (.ref C) (PySem.dunderR "add") = some (some (.ref f))) (hf : PySem.W.isFn X.K (.ref f) = true)
    (hsub : PySem.W.subIn X.K (.ref C) (.type "int") = some false) (hr : Room k X.A) (hb : Binds X.K fd ps []) (hx : Passes CX X E) : OpR X (binaryOp .Add) (rIntBin C sp E) := by
  intro pins s σ H x y v u Q I rx ry h
  obtain ⟨a, dx, fs, i, rfl, ha, rfl, hsp⟩ := h
  obtain ⟨t, rfl⟩ := rx
  cases ry
  obtain ⟨mA, J0, _⟩ := ins_get I.hok ha
  obtain ⟨od, J, _⟩ := J0.look
  obtain ⟨m, hF⟩ := I.fr
  have X0 := I.ok.mod.kin.keeps hF.keep
  obtain ⟨cd, rest, hcd, hm⟩ := PySem.W.ksp_first self1
  have L3 := PySem.W.fills_K (M := model X.prog X.w) (nm := "add") X0 hcd hm h0
  have L5 := PySem.W.looks_subIn (M := model X.prog X.w) X0 hsub
  have one := PySem.W.ksp_try (M := model X.prog X.w) (A := X.A) (b := .int i t) (E := X.xe) (Q := EP X pins σ Q) X0 J hs hf (wpAny_mono (run_at (A := X.A) rfl F hr hb hx I (show Vals [V.ref a, .int i] [Value.ref a, Value.int i t] from .cons rfl (.cons ⟨t, rfl⟩ .nil)) hsp) (fun v s' hv => by
    have hv2 := hv
    obtain ⟨z, H', I', rz, q⟩ := hv2
    cases v <;> first | exact hv | exact (no_notimpl rz).elim) fun _ _ e => e)
  have hne : (Value.type "int" == Value.ref C) = false := Bool.eq_false_iff.mpr fun q => by cases beq_iff_eq.mp q
  unfold binaryOp
  refine wpAny_holding (wpAny_bind ?_)
  unfold binaryOp1
  refine wpAny_bind (wpAny_typeOf (typeIs_int s i t) (wpAny_bind (J.type.here (wpAny_bind (wpAny_of_eq PySem.F.fills_int_add ?_)))))
  simp only [hne, Bool.false_eq_true, if_false]
  refine wpAny_bind (L3.here ?_)
  simp only [Bool.and_self, if_true]
  refine wpAny_bind (L5.here ?_)
  simp only [Bool.false_eq_true, if_false, Bool.not_false, Bool.and_true, if_true]
  refine wpAny_bind (wpAny_of_eq (a := false) rfl ?_)
  simp only [Bool.false_eq_true, if_false]
  refine wpAny_bind (m := tryMethod (.int i t) _ (.ref a)) ?_
  unfold tryMethod
  refine wpAny_bind (wpAny_callSpecial?_slot (typeIs_int s i t) PySem.F.slot_int_add (int_add_inst J0.obj ?_))
  refine wpAny_pure ?_
  dsimp only
  refine wpAny_bind (m := tryMethod (.ref a) _ (.int i t)) ?_
  refine wpAny_mono one (fun r s' hr' => ?_) fun _ _ e => e
  obtain ⟨v, rfl, hq⟩ := hr'
  dsimp only
  refine wpAny_bind (wpAny_rule ?_)
  exact wpAny_pure (wpAny_pure hq)
end
end Dl

/-! == of two dicts with keys that are texts and values that are data, in any order: my own rule -/
namespace Dl
open PySem PySem.Spec PyProof.Rows L2
/-- the value of the key -/
def dval {α : Type} (ds : List (Str × α)) (k : Str) : Option α := (ds.find? fun p => decide (p.1 = k)).map (·.2)
/-- what == of the dicts answers -/
def deq (ds es : List (Str × PyData)) : Bool := decide (ds.length = es.length) && ds.all fun p => match dval es p.1 with | none => false | some y => PyData.eqv p.2 y
/-- the dict at a has these pairs -/
def DDp (K : PySem.W.Frag) (H : Hp) (a : Addr) (ds : List (Str × PyData)) : Prop := ∃ L : List (Str × V × PyData), L.map (fun q => (q.1, q.2.2)) = ds ∧ Rd H a (.dK (L.map fun q => (Sum.inr q.1, q.2.1))) ∧ ∀ q ∈ L, Dp K H q.2.1 q.2.2 ∧ SeqAt.shaped q.2.2 = true
section
variable {X : Cx}
theorem valV_dd (k : Str) : ∀ L : List (Str × V × PyData), valV (L.map fun q => ((Sum.inr q.1 : Key), q.2.1)) (.inr k) = (L.find? fun q => decide (q.1 = k)).map (·.2.1)
  | [] => rfl
  | p :: r => by
    rw [List.map_cons, List.find?_cons]
    by_cases e : p.1 = k
    · rw [valV_pos (by rw [e]), decide_eq_true e]
      rfl
    · rw [valV_neg (fun q => e (Sum.inr.inj q)), decide_eq_false e]
      exact valV_dd k r
theorem dval_dd (k : Str) : ∀ L : List (Str × V × PyData), dval (L.map fun q => (q.1, q.2.2)) k = (L.find? fun q => decide (q.1 = k)).map (·.2.2)
  | [] => rfl
  | p :: r => by
    have ih := dval_dd k r
    unfold dval at ih ⊢
    rw [List.map_cons, List.find?_cons, List.find?_cons]
    by_cases e : p.1 = k
    · rw [decide_eq_true e]
      rfl
    · rw [decide_eq_false e]
      exact ih
theorem eqP_dp {pins : List (Addr × Obj)} {σ : L2.St} {H : Hp} {s : Shared} (I : Inv X pins σ H s) (hu : X.A.units + 66 < cLine) {x y : V} {v u : Value} {d e : PyData} (rx : RelV x v) (ry : RelV y u) (dx : Dp X.K H x d) (dy : Dp X.K H y e) (sx : SeqAt.shaped d = true) (sy : SeqAt.shaped e = true) :
    SeqAt.EqP X.prog X.w X.A.in1 s v u (PyData.eqv d e) := by
  obtain ⟨as, ra⟩ := Dp.reads I d x v dx rx
  obtain ⟨bs, rb⟩ := Dp.reads I e y u dy ry
  exact (SeqAt.eqAt_reads d e X.A.in1 s v u as bs ra rb (SeqAt.canLay_of_shaped sx) (SeqAt.canLay_of_shaped sy) (SeqAt.room_of_shaped sx (by show X.A.units + 1 + 64 < cLine; omega))).eqP
theorem hits_dd {pins : List (Addr × Obj)} {σ : L2.St} {H : Hp} {s : Shared} (I : Inv X pins σ H s) (hu : X.A.units + 66 < cLine) {M : List (Str × V × PyData)} {vb : List (Key × Value)} (hM : ∀ q ∈ M, Dp X.K H q.2.1 q.2.2 ∧ SeqAt.shaped q.2.2 = true) (rb : KV (M.map fun q => ((Sum.inr q.1 : Key), q.2.1)) vb) :
    ∀ {L : List (Str × V × PyData)} {va : List (Key × Value)}, KV (L.map fun q => ((Sum.inr q.1 : Key), q.2.1)) va → (∀ q ∈ L, Dp X.K H q.2.1 q.2.2 ∧ SeqAt.shaped q.2.2 = true) →
      PySem.W.KeqHitsP X.prog X.w X.A.in1 s vb va ((L.map fun q => (q.1, q.2.2)).all fun p => match dval (M.map fun q => (q.1, q.2.2)) p.1 with | none => false | some y => PyData.eqv p.2 y)
  | [], va, r, _ => by
    unfold KV at r
    cases r
    exact .nil
  | p :: L, va, r, h => by
    unfold KV at r
    cases r with
    | @cons _ q _ qs h1 t =>
    obtain ⟨e1, r1⟩ := h1
    obtain ⟨key, v⟩ := q
    have e1' : Sum.inr p.1 = key := e1
    subst e1'
    rw [List.map_cons, List.all_cons]
    have ro := rb.val (.inr p.1)
    rw [valV_dd] at ro
    show PySem.W.KeqHitsP _ _ _ _ _ _ ((match dval (M.map fun q => (q.1, q.2.2)) p.1 with | none => false | some y => PyData.eqv p.2.2 y) && _)
    rw [dval_dd]
    cases hf : M.find? (fun q => decide (q.1 = p.1)) with
    | none =>
      rw [hf] at ro
      refine .miss ?_
      have := ro.isSome_eq
      cases hv : valueAt vb (.inr p.1) with
      | none => rfl
      | some _ => rw [hv] at this; cases this
    | some m =>
      rw [hf] at ro
      obtain ⟨y, hy, ry⟩ := ro.some_of
      obtain ⟨dm, sm⟩ := hM m (List.mem_of_find?_eq_some hf)
      obtain ⟨dp, sp⟩ := h p (List.mem_cons_self ..)
      exact .hit hy (eqP_dp I hu r1 ry dp dm sp sm) (hits_dd I hu hM rb t fun q hq => h q (List.mem_cons_of_mem _ hq))
def rEqDD (K : PySem.W.Frag) : R2 := fun x y H Q => ∃ a b ds es, x = .ref a ∧ y = .ref b ∧ DDp K H a ds ∧ DDp K H b es ∧ Q (.bl (deq ds es)) H
theorem op_eqDD (hu : X.A.units + 66 < cLine) : OpR X (compareOp .Eq) (rEqDD X.K) := by
  intro pins s σ H x y v u Q I rx ry h
  obtain ⟨a, b, ds, es, rfl, rfl, ⟨L, rfl, ha, hL⟩, ⟨M, rfl, hb, hM⟩, q⟩ := h
  cases rx
  cases ry
  obtain ⟨_, ya, va, ra, da⟩ := dk_rd I.hok ha
  obtain ⟨_, yb, vb, rb, db⟩ := dk_rd I.hok hb
  show wpAny (model X.prog X.w) X.A (richCompare .Eq (.ref a) (.ref b)) _ _ s
  refine PySem.W.rcP_dicts (knd := mixKind X.prog X.w) ya yb da db (by omega) (fun _ => hits_dd I hu hM rb ra hL) _ _ ?_
  have l1 : va.length = L.length := by rw [← ra.length, List.length_map]
  have l2 : vb.length = M.length := by rw [← rb.length, List.length_map]
  refine ⟨.bl _, H, I, ?_, q⟩
  show Value.bool _ = Value.bool _
  unfold deq
  rw [l1, l2, List.length_map, List.length_map]
  rfl
end
end Dl

/-! a dict comprehension as an assigned value, a walk for it; list(d.values()); list(reversed(a list)): my own rules -/
namespace Dl
open PySem PySem.Spec PyProof.Rows L2
section
variable {X : Cx}
theorem vals_kv : ∀ {kvs : List (Key × V)} {vs : List (Key × Value)} {us : List Value}, KV kvs vs → us.length = vs.length → (∀ (j : Nat) (v : Value), us[j]? = some v → ∃ k, vs[j]? = some (k, v)) → Vals (kvs.map (·.2)) us
  | [], vs, us, r, l, h => by
    unfold KV at r
    cases r
    cases us with
    | nil => exact .nil
    | cons _ _ => cases l
  | p :: kvs, vs, us, r, l, h => by
    unfold KV at r
    cases r with
    | @cons _ q _ qs h1 t =>
    cases us with
    | nil => cases l
    | cons u us =>
      obtain ⟨k, e⟩ := h 0 u rfl
      have e : q = (k, u) := Option.some.inj e
      subst e
      exact .cons h1.2 (vals_kv t (Nat.succ.inj l) fun j v e => h (j + 1) v e)
/-- list(d.values()) -/
def tListVals (te : TE) : TE := fun σ H Q => te σ H fun v H1 => ∃ (a : Addr) (kvs : List (Key × V)), v = .ref a ∧ Rd H1 a (.dK kvs) ∧ ∀ p, H1 p = none → Q (.ref p) (upd H1 p (.lst (kvs.map (·.2))))
theorem pe_listVals {e : Expr} {te : TE} {p pos apos cpos : Pos} (hc : X.calm = true) (hg : Gl X "list") (hm : X.mg "list" = none) (he : PE X e te) (hbase : attributeBase e "values" X.env (eval e X.env) = eval e X.env := by rfl) (hline : (apos.endLine == cpos.line) = true := by rfl)
    (hs : starEach [.Call (.Attribute e "values" apos) [] [] cpos] X.env = (false, eval (.Call (.Attribute e "values" apos) [] [] cpos) X.env) :: starEach [] X.env := by rfl) :
    PE X (.Call (.Name "list" p) [.Call (.Attribute e "values" apos) [] [] cpos] [] pos) (tListVals te) := by
  refine ⟨fun pins s σ H Q I h => ?_⟩
  refine Call_ (ld_blt I hg hm boot_list (PyProof.Rows.callWith_type1 (args_cons (wpAny_Call_method (T := "dict") (id := "dict.values") hbase rfl hline PySem.F.plainAttrs_dict PySem.F.slot_dict_values PySem.F.type_dict_values (thn (he.run pins s σ H _ I h) fun u s1 ⟨x, H1, I1, rx, d, kvs, ex, hd, q⟩ => ?_)) hs) hs rfl))
  subst ex
  obtain rfl : u = Value.ref d := rx
  obtain ⟨z, lo, vs, rel, dd⟩ := dk_rd I1.hok hd
  obtain ⟨ep, hat⟩ := dd.dictAt
  refine ⟨dd.typeIs, dd.mapOf.noDict, ?_⟩
  refine method_meetsIn PySem.F.slot_dict_values PySem.F.entry_dict_values rfl (PySem.evalArgs_none ⟨rfl, dd.typeIs, PySem.F.args_dict_values_1 _, _, meets_dict_values (mixKind X.prog X.w) d lo, ⟨vs, dd⟩, args_nil ?_⟩)
  have I2 : Inv X pins σ H1 { s1 with heap := s1.heap.push { cls := .type "dict_values", data := .fields #[.ref d] } } := I1.kept (t' := s1.toks) fun b ob q => Heap.get?_push_of_some _ q
  refine PySem.W.kdl_call (PySem.W.kdl_values (knd := mixKind X.prog X.w) (kvs := vs) (ep := ep)) (I1.ok.hd hc) ⟨⟨_, Heap.get?_push_size _ rfl, rfl, rfl⟩, hat.push _⟩ (by rw [← rel.length]; exact z) fun h' tk acc c' hk hD hacc => ?_
  have hv : Vals (kvs.map (·.2)) acc.toList := vals_kv rel (by rw [Array.length_toList]; exact hacc.1) fun j v e => hacc.2 j v (by rw [← Array.getElem?_toList]; exact e)
  refine ⟨.ref _, upd H1 _ (.lst (kvs.map (·.2))), I2.laid (t' := tk) hk (Nat.le_refl _) (show ObjOk X.prog X.w _ _ _ (.lst (kvs.map (·.2))) from ⟨by rw [List.length_map]; exact z, acc.toList, c', hv, by rw [Array.toArray_toList]; exact hD⟩), rfl, q _ (I2.hok.fresh (Nat.le_refl _))⟩
end
section
variable {prog : Program} {w : World} {A : Around} {E : Value → Shared → Prop} {s : Shared}
/-- list(it), it a reversed list from its end on -/
theorem call_list_rev {it l : Addr} {items : Array Value} {Q : Value → Shared → Prop} (hh : A.handled = none) (hit : s.heap.IsRevIter it l ((items.size : Int) - 1)) (hl : s.heap.IsList l items) (hne : l ≠ it) (hn : items.size ≤ sizeLine)
    (hQ : ∀ (h' : Heap) (tk : Nat) (acc : Array Value) (c' : Nat), (∀ b o, b ≠ it → s.heap.get? b = some o → h'.get? b = some o) → h'.get? s.heap.objs.size = some { cls := .type "list", dict := none, data := .seq acc c', slots := #[] } →
      ItemsOf (fun i v => items[items.size - 1 - i]? = some v) acc items.size → Q (.ref s.heap.objs.size) { s with heap := h', toks := tk }) :
    wpAny (model prog w) A (call (.type "list") [.ref it]) Q E s := by
  obtain ⟨oi, hoi, _⟩ := id hit
  obtain ⟨ol, hol, _⟩ := id hl
  have hSi : s.heap.objs.size ≠ it := Nat.ne_of_gt (Heap.lt_size hoi)
  have hSl : s.heap.objs.size ≠ l := Nat.ne_of_gt (Heap.lt_size hol)
  have hSf : s.heap.objs.size ∉ [it, l] := by simp only [List.mem_cons, List.not_mem_nil, or_false, not_or]; exact ⟨hSi, hSl⟩
  refine callType_codes (Q₁ := fun obj s₁ => obj = .ref s.heap.objs.size ∧ s₁ = { s with heap := s.heap.push { cls := .type "list", data := .seq #[] } }) PySem.F.called_list (PySem.F.typeCall_list_1 _) PySem.F.entry_list_init
    (code_list_new _ ⟨rfl, rfl⟩) fun obj s₁ h₁ => ?_
  obtain ⟨rfl, rfl⟩ := h₁
  have hS : (s.heap.push { cls := .type "list", data := .seq #[] }).get? s.heap.objs.size = some { cls := .type "list", data := .seq #[] } := Heap.get?_push_size _ rfl
  refine ⟨⟨_, hS, rfl⟩, PySem.F.args_list_init_2 _ _, ?_⟩
  show wpAny _ _ (do let old ← Builtin.List.listItems (.ref s.heap.objs.size); Builtin.List.listUpdate (.ref s.heap.objs.size) (fun _ => #[]); letGo old.toList.reverse; Builtin.List.listExtendWith (.ref s.heap.objs.size) (.ref it) .none) _ _ _
  refine wpAny_bind ?_
  unfold Builtin.List.listItems
  refine wpAny_bind (wpAny_seqItems hS rfl (wpAny_pure ?_))
  show wpAny _ _ (updateSeq s.heap.objs.size (fun _ => #[]) >>= fun _ => letGo (#[] : Array Value).toList.reverse >>= fun _ => Builtin.List.listExtendWith (.ref s.heap.objs.size) (.ref it) .none) _ _ _
  refine wpAny_bind (wpAny_updateSeq hS rfl ?_)
  have hS₁ := Heap.get?_update_self (Obj.mapSeq (fun _ => (#[] : Array Value))) hS rfl
  have oth : ∀ b o, b ≠ s.heap.objs.size → s.heap.get? b = some o → ((s.heap.push { cls := .type "list", data := .seq #[] }).update s.heap.objs.size (Obj.mapSeq (fun _ => (#[] : Array Value)))).get? b = some o :=
    fun b o hb e => (Heap.get?_update_other _ _ (Ne.symm hb)).trans (Heap.get?_push_of_some _ e)
  refine wpAny_bind (wpAny_letGo ?_)
  generalize ((s.heap.push { cls := .type "list", data := .seq #[] }).update s.heap.objs.size (Obj.mapSeq (fun _ => (#[] : Array Value)))) = h1 at *
  have hit1 : h1.IsRevIter it l ((items.size : Int) - 1) := hit.at fun o e => oth _ o hSi.symm e
  have hl1 : h1.IsList l items := by
    obtain ⟨o, ho, r⟩ := hl
    exact ⟨o, oth _ o hSl.symm ho, r⟩
  have W := (Walks.listRev (prog := prog) (w := w) (A := A.in1.in1) hh it l hne items).toS
  have hT : ({ s with heap := h1 } : Shared).TypeIs (.ref it) "list_reverseiterator" := Heap.IsRevIter.typeIs (s := { s with heap := h1 }) hit1
  have hx : Builtin.List.listSameRef (.ref s.heap.objs.size) (.ref it) = false := by simp [Builtin.List.listSameRef, hSi]
  unfold Builtin.List.listExtendWith
  refine wpAny_bind (wpAny_typeOf hT ?_)
  rw [if_neg (by rw [hx]; decide)]
  refine wpAny_bind (wpAny_pyIter_revIter (s := { s with heap := h1 }) hit1 ?_)
  refine wpAny_bind (wpAny_holding ?_)
  unfold Builtin.List.listLengthHint
  refine wpAny_bind (wpAny_specialOf hT RT.nolen_lri ?_)
  show wpAny _ _ (specialOf (Value.ref it) (Str.ofString "__length_hint__") >>= _) _ _ _
  refine wpAny_bind (wpAny_specialOf hT RT.hint_lri ?_)
  generalize hid : ("list_reverseiterator.__length_hint__" : String) = id0
  wp_delta
  rw [show splitId id0 = some ("list_reverseiterator", "__length_hint__") from by subst hid; decide +kernel]
  subst hid
  refine wpAny_bind (wpAny_isInstance (b := true) hT (by rw [isSubtype_type]; kernel_rfl) ?_)
  refine wpAny_pure ?_
  rw [if_neg (by decide)]
  have e0 : ((items.size : Nat) : Int) - 1 - ((0 : Nat) : Int) = (items.size : Int) - 1 := by omega
  refine wpAny_pure ⟨plainId_quiet PySem.F.plain_extend_loop _, codeAny_extend_loopS W hn _ hSf _ items.size 0 _ _ _ rfl (Nat.zero_le _) ⟨Nat.zero_le _, by rw [e0]; exact hit1, hl1⟩ hS₁ (ItemsOf.nil _) fun s' acc' c' hm hS' hacc => ?_⟩
  rw [Moved.eq_with hm]
  refine ⟨rfl, hQ s'.heap s'.toks acc' c' (fun b o hb e => hm.heap b o (fun hmem => ?_) (oth b o (Nat.ne_of_lt (Heap.lt_size e)) e)) hS' hacc⟩
  rcases List.mem_cons.mp hmem with e' | hmem
  · exact absurd (Heap.lt_size e) (by rw [e']; exact Nat.lt_irrefl _)
  · exact hb (List.mem_singleton.mp hmem)
end
section
variable {X : Cx}
def tListRev (K : PySem.W.Frag) (te : TE) : TE := fun σ H Q => te σ H fun v H1 => ∃ (a : Addr) (xs : List V), v = .ref a ∧ SqL K H1 a xs ∧ ∀ q, H1 q = none → Q (.ref q) (upd H1 q (.lst xs.reverse))
theorem pe_listRev {e : Expr} {te : TE} {p p2 pos pos2 : Pos} (hc : X.calm = true) (hg : Gl X "list") (hm : X.mg "list" = none) (hg2 : Gl X "reversed") (hm2 : X.mg "reversed" = none) (he : PE X e te)
    (hs : starEach [e] X.env = (false, eval e X.env) :: starEach [] X.env := by rfl)
    (hs2 : starEach [.Call (.Name "reversed" p2) [e] [] pos2] X.env = (false, eval (.Call (.Name "reversed" p2) [e] [] pos2) X.env) :: starEach [] X.env := by rfl) :
    PE X (.Call (.Name "list" p) [.Call (.Name "reversed" p2) [e] [] pos2] [] pos) (tListRev X.K te) := by
  refine ⟨fun pins s σ H Q I h => ?_⟩
  refine Call_ (ld_blt I hg hm boot_list (PyProof.Rows.callWith_type1 (args_cons (Call_ (ld_blt I hg2 hm2 PyProof.Rows.boot_reversed (PyProof.Rows.callWith_type1 (args_cons (thn (he.run pins s σ H _ I h) fun u s1 ⟨v, H1, I1, r1, q1⟩ => args_nil ?_) hs) hs rfl))) hs2) hs2 rfl))
  obtain ⟨a, xs, ev, hq, q⟩ := q1
  subst ev
  obtain rfl : u = Value.ref a := r1
  obtain ⟨its, rv, p', hz⟩ := I1.list hq
  refine call_reversed_list p'.isList (args_nil ?_)
  have hl := p'.isList
  obtain ⟨ol, hol, _⟩ := id hl
  have hne : a ≠ s1.heap.objs.size := Nat.ne_of_lt (Heap.lt_size hol)
  have hn : its.toArray.size ≤ sizeLine := by rw [List.size_toArray, ← rv.length]; exact hz
  refine call_list_rev (s := { s1 with heap := s1.heap.push (revObj a ((its.toArray.size : Int) - 1)) }) (I1.ok.hd hc) ⟨_, Heap.get?_push_size _ rfl, rfl, rfl⟩ (hl.push _) hne hn fun h' tk acc c' hk hD hi => ?_
  have le : s1.heap.objs.size ≤ (s1.heap.push (revObj a ((its.toArray.size : Int) - 1))).objs.size := by rw [Heap.size_push]; exact Nat.le_succ _
  exact ⟨.ref _, upd H1 _ (.lst xs.reverse), I1.laid (t' := tk) (fun b o e => hk b o (Nat.ne_of_lt (Heap.lt_size e)) (Heap.get?_push_of_some _ e)) le
    (show ObjOk X.prog X.w _ _ _ (.lst xs.reverse) from ⟨by rw [List.length_reverse]; exact hz, acc.toList, c', RT.vals_rev rv hi, by rw [Array.toArray_toList]; exact hD⟩), rfl, q _ (I1.hok.fresh le)⟩
end
end Dl

/-! arrangements: their mathematics -/
namespace Dl
open PySem PySem.Spec PyProof.Rows L2
abbrev Span := Option (Int × Int)
def pdI (i : Int) : PyData := .int i
def pdO : Span → PyData
  | none => .none
  | some q => .tuple [.int q.1, .int q.2]
theorem pdI_eq (a b : Int) : PyData.eqv (pdI a) (pdI b) = decide (a = b) := by
  unfold pdI
  rw [PyData.eqv]
  exact (decide_eq_decide.mpr Iff.rfl)
theorem pdO_eq (a b : Span) : PyData.eqv (pdO a) (pdO b) = decide (a = b) := by
  cases a with
  | none =>
    cases b with
    | none => exact (by decide +kernel : PyData.eqv .none .none = true)
    | some q => rfl
  | some p =>
    cases b with
    | none => rfl
    | some q =>
      obtain ⟨p1, p2⟩ := p
      obtain ⟨q1, q2⟩ := q
      have e1 := pdI_eq p1 q1
      have e2 := pdI_eq p2 q2
      unfold pdI at e1 e2
      show PyData.eqv (.tuple [.int p1, .int p2]) (.tuple [.int q1, .int q2]) = _
      rw [PyData.eqv, PyData.eqvAll, PyData.eqvAll, PyData.eqvAll, e1, e2]
      by_cases h1 : p1 = q1 <;> by_cases h2 : p2 = q2 <;> simp [h1, h2]
def pdD {α : Type} (pd : α → PyData) (ds : List (Str × α)) : List (Str × PyData) := ds.map fun p => (p.1, pd p.2)
section
variable {α : Type} {pd : α → PyData}
theorem dval_pd (k : Str) : ∀ ds : List (Str × α), dval (pdD pd ds) k = (dval ds k).map pd
  | [] => rfl
  | p :: r => by
    have ih := dval_pd k r
    unfold dval pdD at ih ⊢
    rw [List.map_cons, List.find?_cons, List.find?_cons]
    by_cases e : p.1 = k
    · rw [decide_eq_true e]
      rfl
    · rw [decide_eq_false e]
      exact ih
theorem dval_mem : ∀ {ds : List (Str × α)}, (ds.map (·.1)).Nodup → ∀ {p : Str × α}, p ∈ ds → dval ds p.1 = some p.2
  | q :: r, nd, p, h => by
    have nd := List.nodup_cons.mp (by rw [List.map_cons] at nd; exact nd)
    unfold dval
    rw [List.find?_cons]
    rcases List.mem_cons.mp h with rfl | h
    · rw [decide_eq_true rfl]
      rfl
    · rw [decide_eq_false fun e => nd.1 (by rw [e]; exact List.mem_map_of_mem h)]
      exact dval_mem nd.2 h
theorem deq_len {ds es : List (Str × PyData)} (h : ds.length ≠ es.length) : deq ds es = false := by
  unfold deq
  rw [decide_eq_false h]
  rfl
theorem deq_all {ds es : List (Str × α)} (l : ds.length = es.length) (h : ∀ p ∈ ds, ∃ y, dval es p.1 = some y ∧ PyData.eqv (pd p.2) (pd y) = true) : deq (pdD pd ds) (pdD pd es) = true := by
  unfold deq
  rw [decide_eq_true (by unfold pdD; rw [List.length_map, List.length_map]; exact l), Bool.true_and, List.all_eq_true]
  intro q hq
  unfold pdD at hq
  obtain ⟨p, hp, rfl⟩ := List.mem_map.mp hq
  obtain ⟨y, h1, h2⟩ := h p hp
  rw [dval_pd, h1]
  exact h2
theorem deq_perm (refl : ∀ a, PyData.eqv (pd a) (pd a) = true) {ds es : List (Str × α)} (hp : ds.Perm es) (nd : (es.map (·.1)).Nodup) : deq (pdD pd ds) (pdD pd es) = true :=
  deq_all hp.length_eq fun p h => ⟨p.2, dval_mem nd (hp.mem_iff.mp h), refl _⟩
theorem keys_eq : ∀ {ds es : List (Str × α)}, ds.map (·.1) = es.map (·.1) → (es.map (·.1)).Nodup → (∀ p ∈ ds, ∃ y, dval es p.1 = some y ∧ p.2 = y) → ds = es
  | [], es, e, _, _ => by
    cases es with
    | nil => rfl
    | cons _ _ => cases e
  | p :: ds, es, e, nd, h => by
    cases es with
    | nil => cases e
    | cons q es =>
      rw [List.map_cons, List.map_cons] at e
      injection e with e1 e2
      obtain ⟨y, h1, h2⟩ := h p (List.mem_cons_self ..)
      have here : dval (q :: es) q.1 = some q.2 := dval_mem nd (List.mem_cons_self ..)
      rw [e1, here] at h1
      have ep : p = q := Prod.ext e1 (by rw [h2]; exact (Option.some.inj h1).symm)
      rw [List.map_cons, List.nodup_cons] at nd
      rw [ep, keys_eq e2 nd.2 fun r hr => ?_]
      obtain ⟨z, z1, z2⟩ := h r (List.mem_cons_of_mem _ hr)
      refine ⟨z, ?_, z2⟩
      unfold dval at z1 ⊢
      rw [List.find?_cons, decide_eq_false fun k => nd.1 (by rw [k, ← e2]; exact List.mem_map_of_mem hr)] at z1
      exact z1
theorem deq_keys [DecidableEq α] (heq : ∀ a b, PyData.eqv (pd a) (pd b) = decide (a = b)) {ds es : List (Str × α)} (ek : ds.map (·.1) = es.map (·.1)) (nd : (es.map (·.1)).Nodup) : deq (pdD pd ds) (pdD pd es) = decide (ds = es) := by
  by_cases e : ds = es
  · rw [decide_eq_true e, e]
    exact deq_perm (fun a => by rw [heq]; exact decide_eq_true rfl) (List.Perm.refl _) nd
  · rw [decide_eq_false e]
    cases hd : deq (pdD pd ds) (pdD pd es) with
    | false => rfl
    | true =>
      refine absurd (keys_eq ek nd fun p hp => ?_) e
      unfold deq at hd
      rw [Bool.and_eq_true, List.all_eq_true] at hd
      have := hd.2 (p.1, pd p.2) (List.mem_map_of_mem (f := fun p : Str × α => (p.1, pd p.2)) hp)
      rw [dval_pd] at this
      cases hv : dval es p.1 with
      | none => rw [hv] at this; cases this
      | some y =>
        rw [hv] at this
        have this : PyData.eqv (pd p.2) (pd y) = true := this
        rw [heq] at this
        exact ⟨y, rfl, of_decide_eq_true this⟩
end
abbrev SetL := List (Str × Int)
abbrev SpanL := List (Str × Span)
def inSp (z : Int) : Span → Bool
  | none => false
  | some q => decide (q.1 ≤ z) && decide (z ≤ q.2)
def mvSp (d : Int) : Span → Span := Option.map fun q => (q.1 + d, q.2 + d)
def tnSp : Span → Span := Option.map fun q => (-q.2, -q.1)
def glow (ts : SpanL) (z : Int) : List Str := (ts.filter fun p => inSp z p.2).map (·.1)
def mvL (d : Int) (ts : SpanL) : SpanL := ts.map fun p => (p.1, mvSp d p.2)
def tnL (ts : SpanL) : SpanL := ts.map fun p => (p.1, tnSp p.2)
def shL (d : Int) (ss : SetL) : SetL := ss.map fun p => (p.1, p.2 + d)
def ngL (ss : SetL) : SetL := ss.map fun p => (p.1, -p.2)
theorem inSp_mv (z d : Int) (o : Span) : inSp (z + d) (mvSp d o) = inSp z o := by
  cases o with
  | none => rfl
  | some q =>
    show (decide (q.1 + d ≤ z + d) && decide (z + d ≤ q.2 + d)) = (decide (q.1 ≤ z) && decide (z ≤ q.2))
    rw [decide_eq_decide.mpr (show q.1 + d ≤ z + d ↔ q.1 ≤ z by omega), decide_eq_decide.mpr (show z + d ≤ q.2 + d ↔ z ≤ q.2 by omega)]
theorem inSp_tn (z : Int) (o : Span) : inSp (-z) (tnSp o) = inSp z o := by
  cases o with
  | none => rfl
  | some q =>
    show (decide (-q.2 ≤ -z) && decide (-z ≤ -q.1)) = (decide (q.1 ≤ z) && decide (z ≤ q.2))
    rw [decide_eq_decide.mpr (show -q.2 ≤ -z ↔ z ≤ q.2 by omega), decide_eq_decide.mpr (show -z ≤ -q.1 ↔ q.1 ≤ z by omega), Bool.and_comm]
theorem glow_map {f : Span → Span} {z y : Int} (h : ∀ o, inSp y (f o) = inSp z o) (ts : SpanL) : glow (ts.map fun p => (p.1, f p.2)) y = glow ts z := by
  unfold glow
  rw [List.filter_map, List.map_map]
  congr 1
  refine List.filter_congr fun p _ => h p.2
theorem glow_mv (ts : SpanL) (z d : Int) : glow (mvL d ts) (z + d) = glow ts z := glow_map (fun o => inSp_mv z d o) ts
theorem glow_tn (ts : SpanL) (z : Int) : glow (tnL ts) (-z) = glow ts z := glow_map (fun o => inSp_tn z o) ts
theorem mv_zero (ts : SpanL) : mvL 0 ts = ts := by
  unfold mvL
  refine (List.map_congr_left fun p _ => ?_).trans (List.map_id _)
  obtain ⟨k, o⟩ := p
  cases o with
  | none => rfl
  | some q => show (k, some (q.1 + 0, q.2 + 0)) = _; rw [Int.add_zero, Int.add_zero]; rfl
theorem sh_zero (ss : SetL) : shL 0 ss = ss := by
  unfold shL
  refine (List.map_congr_left fun p _ => ?_).trans (List.map_id _)
  rw [Int.add_zero]
  rfl
theorem tn_tn (ts : SpanL) : tnL (tnL ts) = ts := by
  unfold tnL
  rw [List.map_map]
  refine (List.map_congr_left fun p _ => ?_).trans (List.map_id _)
  obtain ⟨k, o⟩ := p
  cases o with
  | none => rfl
  | some q => show (k, some (- -q.1, - -q.2)) = _; rw [Int.neg_neg, Int.neg_neg]; rfl
theorem ng_ng (ss : SetL) : ngL (ngL ss) = ss := by
  unfold ngL
  rw [List.map_map]
  refine (List.map_congr_left fun p _ => ?_).trans (List.map_id _)
  show (p.1, - -p.2) = _
  rw [Int.neg_neg]
  rfl
theorem keys_map {α : Type} (f : α → α) (ds : List (Str × α)) : (ds.map fun p => (p.1, f p.2)).map (·.1) = ds.map (·.1) := by
  rw [List.map_map]
  rfl
/-- what == of an arrangement and the same moved answers -/
theorem same_eq (d : Int) (ss : SetL) (ts : SpanL) : (decide (ss = shL d ss) && decide (ts = mvL d ts)) = (decide (d = 0) || (decide (ss = []) && decide (mvL d ts = ts))) := by
  by_cases h0 : d = 0
  · subst h0
    rw [sh_zero, mv_zero]
    simp
  · rw [decide_eq_false h0, Bool.false_or]
    cases ss with
    | nil =>
      show (decide (([] : SetL) = []) && _) = _
      rw [decide_eq_decide.mpr (eq_comm (a := ts) (b := mvL d ts))]
    | cons p r =>
      have : ¬ (p :: r = shL d (p :: r)) := fun e => by
        have e : p :: r = (p.1, p.2 + d) :: shL d r := e
        injection e with e1 _
        have := congrArg Prod.snd e1
        have : p.2 = p.2 + d := this
        omega
      rw [decide_eq_false this]
      simp
end Dl

/-! sorted(a dict) whose keys are texts: my own rule -/
namespace Dl
open PySem PySem.Spec PyProof.Rows L2
section
variable {X : Cx}
def rSortedSD : List V → Hp → VK → Prop := fun vs H Q => ∃ (a : Addr) (kvs : List (Key × V)) (xs : List Str), vs = [V.ref a] ∧ Rd H a (.dK kvs) ∧ kvs.map (·.1) = xs.map Sum.inr ∧ xs.length < 64 ∧
    ∀ ys p, ys.Perm xs → sortedS ys = true → H p = none → Q (.ref p) (upd H p (.lst (ys.map V.str)))
theorem cr_sortedSD (hc : X.calm = true) : CallR X (.builtin "sorted") rSortedSD := by
  intro pins s σ H vs us Q I r h
  obtain ⟨a, kvs, xs, rfl, hs, ek, h64, q⟩ := h
  rw [Vals.ref1 r]
  obtain ⟨z, lo, ws, rk, hd⟩ := dk_rd I.hok hs
  obtain ⟨ep, hat⟩ := hd.dictAt
  have hl : kvs.length = ws.length := Paired.length rk
  have hx : kvs.length = xs.length := by
    have := congrArg List.length ek
    rw [List.length_map, List.length_map] at this
    exact this
  refine Calls.call_function_entry PyProof.Rows.kind_sorted PyProof.Rows.plain_sorted PyProof.Rows.entry_sorted (PyProof.Rows.args_sorted1 _) ?_
  unfold Builtin.«sorted»
  refine wpAny_bind (m := checkCount "sorted" 1 1 _) (wpAny_pure ?_)
  refine wpAny_bind (PySem.W.kdu_collect (A := X.A.in1) (PySem.W.kdl_dict (knd := mixKind X.prog X.w) (kvs := ws) (ep := ep) lo) (I.ok.hd hc) hat (by rw [← hl]; exact z) fun h' tk acc hk hacc => ?_)
  have I1 : Inv X pins σ H { s with heap := h', toks := tk } := I.kept (t' := tk) hk
  have hS : StrsAre acc.toList xs := L2.strs_at (by rw [Array.length_toList, hacc.1, ← hl, hx]) fun j v hv => by
    obtain ⟨k, y, hky, hi⟩ := hacc.2 j v (by rw [← Array.getElem?_toList]; exact hv)
    have e1 : (kvs.map (·.1))[j]? = some k := by rw [KV.keys rk, List.getElem?_map, hky]; rfl
    rw [ek, List.getElem?_map] at e1
    obtain ⟨x, hxj, rfl⟩ : ∃ x, xs[j]? = some x ∧ k = Sum.inr x := by
      cases e : xs[j]? with
      | none => rw [e] at e1; cases e1
      | some x => rw [e] at e1; exact ⟨x, rfl, (Option.some.inj e1).symm⟩
    have hr : RelV (kV (Sum.inr x)) v := keyIs_rel hi
    obtain ⟨t, et⟩ := (show ∃ t, v = Value.str x t from hr)
    exact ⟨x, t, hxj, et⟩
  have hl64 : acc.toList.length < 64 := by rw [Array.length_toList, hacc.1, ← hl, hx]; exact h64
  generalize acc.toList = its at *
  refine wpAny_bind (wpAny_newList ?_ (by rw [sizeLine_eq]; omega))
  have hoL : (h'.push (seqObj "list" its.toArray 0)).get? h'.objs.size = some (seqObj "list" its.toArray 0) := Heap.get?_push_size _ rfl
  show wpAny _ _ _ _ _ { s with heap := h'.push (seqObj "list" its.toArray 0), toks := tk }
  refine wpAny_bind (wpAny_holding (wpAny_call_entry PyProof.Rows.slot_list_sort ⟨_, hoL, rfl⟩ PyProof.Rows.entry_list_sort
    (list_sort_treeK strKind_oneLt (s := { s with heap := h'.push (seqObj "list" its.toArray 0), toks := tk }) hoL hS.keysOf (fun v₁ v₂ rest e => keyKind_strs (by rw [← e]; exact hS)) hl64 fun st' hp hs => ⟨_, rfl, ?_⟩)
    (PyProof.Rows.args_list_sort _)))
  obtain ⟨ys, g1, g2, g3⟩ := sorted_out_str hS hp hs
  obtain ⟨e', he'⟩ := PyProof.Rows.sortedHeap_at (vs := its) (out := (arrOf st').map (·.2)) hoL
  have hlen : (ys.map V.str).length ≤ sizeLine := by
    rw [List.length_map, g2.length_eq]
    exact Nat.le_trans (Nat.le_of_lt h64) (by decide)
  refine wpAny_pure ⟨_, rfl, .ref h'.objs.size, upd H h'.objs.size (.lst (ys.map V.str)), I1.laid (t' := tk) (fun b u e => ?_) (Nat.le_refl _)
    (show ObjOk X.prog X.w _ _ _ (.lst (ys.map V.str)) from ⟨hlen, ((arrOf st').map (·.2)).toList, e', vals_of_strs g1, by rw [Array.toArray_toList]; exact he'⟩), rfl, q ys _ g2 g3 (I1.hok.fresh (Nat.le_refl _))⟩
  have hb : b < h'.objs.size := Heap.lt_size e
  rw [PyProof.Rows.sortedHeap_old (Nat.ne_of_lt hb) (by rw [size_push']; exact Nat.lt_succ_of_lt hb)]
  exact Heap.get?_push_of_some _ e
end
end Dl

namespace Dl
open PySem PySem.Spec PyProof.Rows L2
/-! ### what the laws over drawn tables share -/
def turnOf (way : Int) (x : Str × List Str) : Str × List Str := (x.1, if way = 1 then x.2.reverse else x.2)
def dataOf (x : Str × List Str) : PyData := .tuple [.str x.1, .list (x.2.map PyData.str)]
theorem rows_rs' {b : Addr} {ls : List Str} {H : Hp} : ∀ {rows : List RowIn} {ks : List Str}, (∀ r ∈ rows, RowD b ls H r) → rows.map (·.look) = ks.map V.str → ∃ rs : List (Str × List Str), rows.map RowIn.dat = rs.map rdat ∧ (rs.map fun x : Str × List Str => x.1) = ks ∧ ∀ x ∈ rs, x.2.Sublist ls
  | [], ks, _, e => by
    cases ks with
    | nil => exact ⟨[], rfl, rfl, fun x h => absurd h (by simp)⟩
    | cons _ _ => cases e
  | r :: q, ks, h, e => by
    cases ks with
    | nil => cases e
    | cons k ks =>
      rw [List.map_cons, List.map_cons] at e
      injection e with e1 e2
      obtain ⟨rs, q1, q2, q3⟩ := rows_rs' (rows := q) (ks := ks) (fun x hx => h x (List.mem_cons_of_mem _ hx)) e2
      obtain ⟨sh, s1, s2⟩ := (h r (List.mem_cons_self ..)).sub
      refine ⟨(k, sh) :: rs, ?_, ?_, fun x hx => ?_⟩
      · rw [List.map_cons, List.map_cons, q1]
        have : RowIn.dat r = rdat (k, sh) := by unfold RowIn.dat rdat; rw [e1, s1]
        rw [this]
      · rw [List.map_cons, q2]
      · rcases List.mem_cons.mp hx with h | h
        · rw [h]; exact s2
        · exact q3 x h
theorem NamesOk.bag {zs : List Str} (ok : NamesOk zs) : ∀ z ∈ zs, canS z := fun z h => valid_can (ok.valid h)
theorem tabok_of {ls ks : List Str} {rs : List (Str × List Str)} (okl : NamesOk ls) (okk : NamesOk ks) (e : (rs.map fun x : Str × List Str => x.1) = ks) (sub : ∀ x ∈ rs, x.2.Sublist ls) : TabOk ls rs :=
  ⟨okl.nd, fun z h => okl.valid h, okl.few, by rw [e]; exact okk.nd, fun x h => okk.valid (by rw [← e]; exact List.mem_map_of_mem h), by rw [← List.length_map (f := fun x : Str × List Str => x.1), e]; exact okk.few, sub⟩
theorem turned_map {rows : List RowIn} {rs : List (Str × List Str)} {way : Int} (e : rows.map RowIn.dat = rs.map rdat) : rows.map (turned way) = (rs.map (turnOf way)).map rdat := by
  induction rows generalizing rs with
  | nil => cases rs with
    | nil => rfl
    | cons _ _ => cases e
  | cons r q ih => cases rs with
    | nil => cases e
    | cons x rs =>
      rw [List.map_cons, List.map_cons] at e
      injection e with e1 e2
      rw [List.map_cons, List.map_cons, List.map_cons, ih e2]
      have h1 : r.look = .str x.1 := congrArg Prod.fst e1
      have h2 : r.xs = x.2.map V.str := congrArg Prod.snd e1
      have : turned way r = rdat (turnOf way x) := by
        unfold turned turnOf rdat
        rw [h1, h2]
        by_cases w : way = 1
        · rw [if_pos w, if_pos w, List.map_reverse]
        · rw [if_neg w, if_neg w]
      rw [this]
theorem chosen_turn {ls : List Str} {x : Str × List Str} {way : Int} (h : x.2.Sublist ls) (nd : ls.Nodup) : chosen ls (turnOf way x).2 = x.2 := by
  unfold turnOf
  by_cases w : way = 1
  · simp only [if_pos w]
    have : chosen ls x.2.reverse = chosen ls x.2 := by
      unfold chosen
      apply List.filter_congr
      intro z _
      simp
    rw [this, chosen_sub h nd]
  · simp only [if_neg w]
    exact chosen_sub h nd
theorem turn_rows {ls : List Str} (lnd : ls.Nodup) (way : Int) : ∀ {xs acc : List (Str × List Str)}, (xs.map (·.1)).Nodup → (∀ x ∈ xs, validN x.1 = true ∧ x.2.Sublist ls ∧ x.1 ∉ acc.map (·.1)) → initRows ls ((xs.map (turnOf way)).map rdat) acc = .ok (acc ++ xs)
  | [], acc, _, _ => by rw [List.map_nil, List.map_nil, initRows, List.append_nil]
  | x :: r, acc, nd, h => by
    obtain ⟨h1, h2, h3⟩ := h x (List.mem_cons_self ..)
    rw [List.map_cons, List.nodup_cons] at nd
    have e1 : chkNew (.str x.1) (acc.map (·.1)) = none := by simp only [chkNew, h1, if_true]; rw [if_neg h3]
    have snd : (turnOf way x).2.Nodup := by
      unfold turnOf
      by_cases w : way = 1
      · simp only [if_pos w]; exact List.pairwise_reverse.mpr (List.Pairwise.imp (fun h => Ne.symm h) (h2.nodup lnd))
      · simp only [if_neg w]; exact h2.nodup lnd
    have smem : ∀ z ∈ (turnOf way x).2, z ∈ ls ∧ z ∉ ([] : List Str) := fun z hz => ⟨h2.subset (by
      unfold turnOf at hz
      by_cases w : way = 1
      · simp only [if_pos w] at hz; exact List.mem_reverse.mp hz
      · simp only [if_neg w] at hz; exact hz), by simp⟩
    have e2 : chkShown ((turnOf way x).2.map V.str) ls [] = none := shown_ok' snd smem
    rw [List.map_cons, List.map_cons]
    show initRows ls ((V.str x.1, (turnOf way x).2.map V.str) :: (r.map (turnOf way)).map rdat) acc = _
    rw [initRows, e1, e2]
    show initRows ls ((r.map (turnOf way)).map rdat) (acc ++ [(x.1, chosen ls (((turnOf way x).2.map V.str).map strOf))]) = _
    rw [strs_back, chosen_turn h2 lnd, turn_rows lnd way nd.2 fun y hy => ⟨(h y (List.mem_cons_of_mem _ hy)).1, (h y (List.mem_cons_of_mem _ hy)).2.1, fun m => by
      rw [List.map_append] at m
      rcases List.mem_append.mp m with m | m
      · exact (h y (List.mem_cons_of_mem _ hy)).2.2 m
      · have e : y.1 = x.1 := by simpa using m
        exact nd.1 (by rw [← e]; exact List.mem_map.mpr ⟨y, hy, rfl⟩)⟩, List.append_assoc]
    rfl
theorem init_turn {ls : List Str} {rs : List (Str × List Str)} (ok : TabOk ls rs) (way : Int) : initT (ls.map V.str) ((rs.map (turnOf way)).map rdat) = .ok (ls, rs) := by
  unfold initT
  rw [if_neg (by rw [List.length_map, List.length_map, List.length_map]; have := ok.lfew; have := ok.kfew; omega), names_ok ok.lnd ok.lval]
  have q := turn_rows ok.lnd way (xs := rs) (acc := []) ok.knd fun x hx => ⟨ok.kval x hx, ok.sub x hx, by simp⟩
  rw [List.nil_append] at q
  simp only [q]
theorem dp_rows {K : PySem.W.Frag} {H : Hp} : ∀ {rows : List RowIn} {ts : List (Str × List Str)}, (∀ r ∈ rows, RowG H r) → rows.map RowIn.dat = ts.map rdat → DpAll K H (refsOf rows) (ts.map dataOf)
  | [], ts, _, e => by
    cases ts with
    | nil => exact .nil
    | cons _ _ => cases e
  | r :: q, ts, h, e => by
    cases ts with
    | nil => cases e
    | cons x ts =>
      rw [List.map_cons, List.map_cons] at e
      injection e with e1 e2
      have h1 : r.look = .str x.1 := congrArg Prod.fst e1
      have h2 : r.xs = x.2.map V.str := congrArg Prod.snd e1
      have G := h r (List.mem_cons_self ..)
      have pg := G.pair
      have qg := G.lst
      rw [h1] at pg
      rw [h2] at qg
      exact .cons (.tup (SqT.of pg) (.cons (.str _) (.cons (.lst (SqL.of qg) (dpAll_strs _)) .nil))) (dp_rows (fun y hy => h y (List.mem_cons_of_mem _ hy)) e2)
theorem shaped_rows {ts : List (Str × List Str)} (h : ∀ x ∈ ts, canS x.1 ∧ ∀ z ∈ x.2, canS z) : SeqAt.shaped (.list (ts.map dataOf)) = true := by
  have both : PyData.canLayAll0 (ts.map dataOf) = true ∧ PyData.depthAll (ts.map dataOf) ≤ 2 := by
    induction ts with
    | nil => exact ⟨by simp [PyData.canLayAll0], by simp [PyData.depthAll]⟩
    | cons x r ih =>
      obtain ⟨i1, i2⟩ := ih fun y hy => h y (List.mem_cons_of_mem _ hy)
      obtain ⟨c1, c2⟩ := h x (List.mem_cons_self ..)
      have d1 : PyData.canLay0 (dataOf x) = true := by
        unfold dataOf
        unfold canS at c1
        simp only [PyData.canLay0] at c1
        simp only [PyData.canLay0, PyData.canLayAll0, canAll_strs c2, c1, Bool.and_true]
      have d2 : (dataOf x).depth ≤ 2 := by
        unfold dataOf
        simp only [PyData.depth, PyData.depthAll, depthAll_strs]
        decide
      refine ⟨?_, ?_⟩
      · rw [List.map_cons, PyData.canLayAll0, d1, i1]; rfl
      · rw [List.map_cons, PyData.depthAll]; omega
  exact shaped_list both.1 both.2
theorem ln_len' : LN.length = 12 := by decide +kernel
theorem ln_no {ks : List Str} (ok : NamesOk ks) : LN ∉ ks := fun h => by
  obtain ⟨i, hi, e⟩ := List.getElem_of_mem h
  have q := ((ok.at_ i LN (by rw [List.getElem?_eq_getElem hi, e])).sg (by have := ok.few; omega)).2.2
  rw [ln_len'] at q
  omega
theorem shaped_ofn {d : PyData} (h : PyData.canLay0 d = true) (h2 : d.depth ≤ 4) : SeqAt.shaped d = true := by
  unfold SeqAt.shaped
  rw [h, Bool.true_and]
  exact decide_eq_true (by omega)
theorem eqv_same {d : PyData} (h : SeqAt.shaped d = true) : PyData.eqv d d = true := SeqAt.eqv_refl _ (by
  unfold SeqAt.shaped at h
  exact (Bool.and_eq_true_iff.mp h).1)
section
variable {P : Program} {w : World} {K : PySem.W.Frag} {mg : Str → Option Value} {base : Heap} {C : Cs} {CT : Addr}
/-- Table(list of lamps, list of rows): what the rows as given make -/
theorem make_ok {H7 : Hp} {l R : Addr} {ls : List Str} {ts rs : List (Str × List Str)} {rows : List RowIn} {Q : Hp → Prop} {E : XK} {x dx : Addr} (nx : H7 x = none) (ndx : H7 dx = none) (nex : dx ≠ x) (hl : H7 l = some (.lst (ls.map V.str))) (hR : H7 R = some (.lst (refsOf rows))) (hrw : ∀ r ∈ rows, RowG H7 r) (hd : rows.map RowIn.dat = ts.map rdat)
    (hts : ∀ y ∈ ts, validN y.1 = true ∧ (∀ z ∈ y.2, z ∈ ls) ∧ y.2.length ≤ 24) (hini : initT (ls.map V.str) (ts.map rdat) = .ok (ls, rs)) (lval : ∀ z ∈ ls, validN z = true) (lfew : ls.length ≤ 25) (tfew : ts.length ≤ 25)
    (k : ∀ H8, Same H7 H8 → TableAt CT H8 x ls rs → Q H8) :
    spTabInit2 K CT C (.ref x :: ([.ref l, .ref R] ++ [])) (upd (upd H7 dx (.own x)) x (.ins CT dx [])) (fun v H2 => v = .non ∧ Q H2) E := by
  have sm : Same H7 (upd (upd H7 dx (.own x)) x (.ins CT dx [])) := fun c o e => by
    rw [upd_ne (ne_of_none e nx), upd_ne (ne_of_none e ndx)]; exact e
  have hlen : rows.length = ts.length := by
    have e := congrArg List.length hd
    rw [List.length_map, List.length_map] at e
    exact e
  refine ⟨H7, x, dx, l, R, ls.map V.str, rows, rfl, sm, nx, upd_same, .inl (SqL.of hl), strs_nm lval, by rw [List.length_map]; omega, .inl (SqL.of hR), fun r hr => ?_, by omega, fun ls' rs' e H8 s8 hT8 => ⟨rfl, ?_⟩, fun e he => ?_⟩
  · obtain ⟨i, hi, ei⟩ := List.getElem_of_mem hr
    have hir : i < ts.length := by omega
    have ed : r.dat = rdat ts[i] := by
      have e := congrArg (fun l => l[i]?) hd
      simp only [List.getElem?_map, List.getElem?_eq_getElem hi, List.getElem?_eq_getElem hir, Option.map_some, ei] at e
      exact Option.some.inj e
    obtain ⟨v1, v2, v3⟩ := hts _ (List.getElem_mem hir)
    generalize ts[i] = y at *
    have e1 : r.look = .str y.1 := congrArg Prod.fst ed
    have e2 : r.xs = y.2.map V.str := congrArg Prod.snd ed
    have G := hrw r hr
    refine ⟨SqT.of G.pair, by rw [e1]; exact validN_nm v1, .inl (SqL.of G.lst), by rw [e2]; exact strs_nm fun z hz => lval z (v2 z hz), ?_⟩
    rw [e2, List.length_map]
    omega
  · rw [hd, hini] at e
    cases e
    exact k H8 s8 hT8
  · rw [hd, hini] at he
    cases he
theorem TableAt.ofB {b : Addr} {H H' : Hp} {x : Addr} {ls : List Str} {rs : List (Str × List Str)} (h : TableAt CT H x ls rs) (hb : ∃ xs, H b = some (.lst xs)) (s : SameB b H H') : TableAt CT H' x ls rs := by
  obtain ⟨ys, hb⟩ := hb
  obtain ⟨dx, lt, sd, kt, kvs, hp, hlt, hsd, hkt, hrs⟩ := h
  have ne : ∀ {c : Addr} {o : HO}, H c = some o → (∀ xs, o ≠ .lst xs) → H' c = some o := fun {c o} e n => s _ _ (fun q => by rw [q, hb] at e; cases e; exact n _ rfl) e
  exact ⟨dx, lt, sd, kt, kvs, ne hp (fun _ e => by cases e), ne hlt (fun _ e => by cases e), ne hsd (fun _ e => by cases e), ne hkt (fun _ e => by cases e), hrs.of fun b ys e => ne e (fun _ e => by cases e)⟩
theorem turn_mem {ls : List Str} {rs : List (Str × List Str)} (ok : TabOk ls rs) (way : Int) : ∀ y ∈ rs.map (turnOf way), validN y.1 = true ∧ (∀ z ∈ y.2, z ∈ ls) ∧ y.2.length ≤ 24 := fun y hy => by
  obtain ⟨x, hx, rfl⟩ := List.mem_map.mp hy
  refine ⟨ok.kval x hx, fun z hz => (ok.sub x hx).subset ?_, ?_⟩
  · unfold turnOf at hz
    by_cases w : way = 1
    · simp only [if_pos w] at hz; exact List.mem_reverse.mp hz
    · simp only [if_neg w] at hz; exact hz
  · have := (ok.sub x hx).length_le
    have := ok.lfew
    unfold turnOf
    by_cases w : way = 1
    · simp only [if_pos w, List.length_reverse]; omega
    · simp only [if_neg w]; omega
end
end Dl

namespace Dl
open PySem PySem.Spec PyProof.Rows L2
structure TxtS (mg : Str → Option Value) : Prop where
  isinstance : mg "isinstance" = none
  bool : mg "bool" = none
  int : mg "int" = none
  tuple : mg "tuple" = none
  list : mg "list" = none
  len : mg "len" = none
def spIs : Sp := fun vs H Q _ => ∃ a b : Bool, vs = [.bl a, .bl b] ∧ a = b ∧ Q (.bl true) H
section
variable {P : Program} {w : World} {K : PySem.W.Frag} {mg : Str → Option Value} {base : Heap} {C : Cs} {CT : Addr}
theorem scLawIs : FnScope ["_law_value", "_law_due"] ["_law_value", "_law_due"] (defScope sLawIs) := ⟨rfl, rfl, rfl, by decide +kernel, rfl, by decide +kernel, by decide +kernel⟩
theorem ok_is {f : Addr} {fd : FuncData} (F : Fun K "_law_is" "_law_is" sLawIs f fd) (T : TxtS mg) : FnOk P w K mg base CX0 1 f fd ["_law_value", "_law_due"] spIs := by
  refine F.ok scLawIs (fun vs H Q E h => ?_) (fun cdv A outer s H vs Q E hr h => ?_)
  · obtain ⟨a, b, rfl, _⟩ := h
    rfl
  · obtain ⟨a, b, rfl, rfl, k⟩ := h
    refine ⟨_, (pss_one (ps_ret (pe_and (pe_callB call_isi (by rfl) T.isinstance (by decide +kernel) (pa_cons (pv 0) (pa_cons (pe_bltn (v := .ty "bool") (by rfl) T.bool (by decide +kernel) rfl) pa_nil))) (pe_one (pe_cmpR op_eq (pv 0) (pv 1) (nomark _)))))), ?_⟩
    refine ⟨_, rfl, _, _, _, _, true, rfl, ClsV.ty "bool", .base (.bl a), kit_ty (by decide +kernel), true, rfl, iteT ?_⟩
    refine ⟨_, rfl, _, rfl, rfl, ?_⟩
    rw [decide_eq_true (rfl : V.bl a = V.bl a)]
    exact k
end
end Dl

/-! sets of tuples of texts: my own rule. First: what such a tuple is asked -/
namespace Dl
open PySem PySem.Spec PyProof.Rows L2
/-- the tuple at a has the texts k -/
abbrev Tx (P : Program) (w : World) (h : Heap) (k : List Str) (a : Addr) : Prop := IsTupleKey (strKind P w) h k a
abbrev txHash (P : Program) (w : World) (k : List Str) : Int := tupleKeyHash (strKind P w) k
section
variable {P : Program} {w : World} {A : Around} {E : Value → Shared → Prop} {s : Shared}
theorem texts_of {k : List Str} {vs : List Value} (h : ItemsAre (strKind P w) k vs) : ∀ v ∈ vs, ∃ z t, v = Value.str z t := by
  induction h with
  | nil => exact fun v hv => absurd hv (by simp)
  | @cons z u ks us one _ rest =>
    intro v hv
    cases hv with
    | head => exact ⟨z, Value.isStrOf_shape one⟩
    | tail _ hv => exact rest v hv
theorem text_class (n : Nat) (z : Str) (t : Tok) : ofAClassStatement n (.str z t) = pure false := by cases n <;> rfl
theorem text_hash (n : Nat) (z : Str) (t : Tok) : hashByValue n (.str z t) = pure false := by cases n <;> rfl
/-- it is of no class statement -/
theorem tx_class {k : List Str} {b : Addr} {Q : Bool → Shared → Prop} (tx : Tx P w s.heap k b) (q : Q false s) : wpAny (model P w) A (ofAClassStatement 8 (.ref b)) Q E s := by
  obtain ⟨o, items, n, at_, cls, dat, its⟩ := id tx
  have texts := texts_of its
  unfold ofAClassStatement
  apply wpAny_bind
  apply wpAny_typeOf tx.typeIs
  dsimp only
  simp only [show ((("tuple" : String) == "tuple") = true) from by decide, if_true, Bool.not_true, Bool.false_eq_true, if_false]
  try apply wpAny_bind (wpAny_pure _)
  try simp only [Bool.not_true, Bool.false_eq_true, if_false]
  change wpAny _ _ (seqItems? (.ref b) >>= _) _ _ s
  apply wpAny_bind
  apply wpAny_seqItems at_ dat
  dsimp only
  apply wpAny_bind
  change wpAny _ _ (forIn items _ _) _ _ s
  rw [← Array.forIn_toList]
  apply wpAny_forIn_list _ (fun left r s1 => (r.1 = none ∧ s1 = s) ∧ ∀ v ∈ left, ∃ z t, v = Value.str z t) _ _ _ _ _ ⟨⟨rfl, rfl⟩, texts⟩
  · rintro v left r s1 ⟨⟨r0, rfl⟩, all⟩
    obtain ⟨z, t, rfl⟩ := all v (List.mem_cons_self ..)
    rw [text_class]
    apply wpAny_bind
    apply wpAny_pure
    exact wpAny_pure ⟨⟨rfl, rfl⟩, fun u hu => all u (List.mem_cons_of_mem _ hu)⟩
  · rintro ⟨r1, r2⟩ s1 ⟨⟨r0, rfl⟩, _⟩
    cases r0
    exact wpAny_pure q
/-- whether its hash goes by its value: some answer -/
theorem tx_byvalue {k : List Str} {b : Addr} {Q : Bool → Shared → Prop} (tx : Tx P w s.heap k b) (q : ∀ c, Q c s) : wpAny (model P w) A (hashByValue 8 (.ref b)) Q E s := by
  obtain ⟨o, items, n, at_, cls, dat, its⟩ := id tx
  have texts := texts_of its
  unfold hashByValue
  apply wpAny_bind
  apply wpAny_specialOf tx.typeIs F.slot_tuple_hash.lookup
  change wpAny _ _ (seqItems? (.ref b) >>= _) _ _ s
  apply wpAny_bind
  apply wpAny_seqItems at_ dat
  apply wpAny_bind
  change wpAny _ _ (forIn items _ _) _ _ s
  rw [← Array.forIn_toList]
  apply wpAny_forIn_list _ (fun left r s1 => s1 = s ∧ ∀ v ∈ left, ∃ z t, v = Value.str z t) _ _ _ _ _ ⟨rfl, texts⟩
  · rintro v left r s1 ⟨rfl, all⟩
    obtain ⟨z, t, rfl⟩ := all v (List.mem_cons_self ..)
    rw [text_hash]
    apply wpAny_bind
    apply wpAny_pure
    exact wpAny_pure (wpAny_pure (q false))
  · rintro ⟨r1, r2⟩ s1 ⟨rfl, _⟩
    cases r1 with
    | none => exact wpAny_pure (q true)
    | some c => exact wpAny_pure (q c)
/-- a search among such tuples shows nothing -/
theorem tx_unseen {k : List Str} {b : Addr} {Q : Bool → Shared → Prop} (tx : Tx P w s.heap k b) {ys : List Value} (hy : ∀ y ∈ ys, ∃ k2 c, y = Value.ref c ∧ Tx P w s.heap k2 c) (q : Q false s) : wpAny (model P w) A (searchCouldBeSeen (.ref b) ys) Q E s := by
  unfold searchCouldBeSeen
  apply wpAny_bind
  apply wpAny_forIn_list _ (fun left r s1 => (r.1 = none ∧ s1 = s) ∧ ∀ y ∈ left, ∃ k2 c, y = Value.ref c ∧ Tx P w s.heap k2 c) _ _ _ _ _ ⟨⟨rfl, rfl⟩, hy⟩
  · rintro v left r s1 ⟨⟨r0, rfl⟩, all⟩
    obtain ⟨k2, c, rfl, tc⟩ := all v (List.mem_cons_self ..)
    have more := fun u (hu : u ∈ left) => all u (List.mem_cons_of_mem _ hu)
    by_cases known : (b == c || (carriedByValue (.ref b) && carriedByValue (.ref c))) = true
    · exact wp_if_pos known (wpAny_pure ⟨⟨rfl, rfl⟩, more⟩)
    · apply wp_if_neg known
      apply wpAny_bind
      apply wpAny_eqIsQuiet_tuple tx
      simp only [Bool.not_true, Bool.false_eq_true, if_false]
      apply wpAny_bind
      apply wpAny_eqIsQuiet_tuple tc
      simp only [Bool.not_true, Bool.false_eq_true, if_false]
      apply wpAny_bind
      apply tx_class tx
      simp only [Bool.false_eq_true, if_false]
      apply wpAny_bind
      apply tx_class tc
      simp only [Bool.false_eq_true, if_false]
      exact wpAny_pure ⟨⟨rfl, rfl⟩, more⟩
  · rintro ⟨r1, r2⟩ s1 ⟨⟨r0, rfl⟩, _⟩
    cases r0
    exact wpAny_pure q
end
end Dl

/-! sets of tuples of texts: the set, the search -/
namespace Dl
open PySem PySem.Spec PyProof.Rows L2
abbrev Keyed := List (Addr × List Str)
def hashes (P : Program) (w : World) (L : Keyed) : List Int := L.map fun p => txHash P w p.2
def entries (P : Program) (w : World) (L : Keyed) : List (Int × Value) := L.map fun p => (txHash P w p.2, Value.ref p.1)
/-- the set at a has the tuples L -/
structure Held (P : Program) (w : World) (h : Heap) (a : Addr) (L : Keyed) (es : Array (Int × Value)) (ep : Nat) (t : SetTable) : Prop where
  obj : ∃ o, h.get? a = some o ∧ o.ExactSet ∧ o.data = .set es ep t
  ent : es.toList = entries P w L
  tab : _root_.L2.TabOk t (hashes P w L)
  once : (L.map (·.2)).Nodup
  txt : ∀ p ∈ L, Tx P w h p.2 p.1
  led : w.params.followText "set-order" = true ∨ t.led = true
  room : L.length * 5 < t.mask * 3
  few : L.length < 64
/-- where the walk of a hash begins -/
def begin_ (m : Nat) (h : Int) : SetTable.Probe := runAt m (SetTable.bits h % (m + 1)) (SetTable.bits h)
theorem no_dummy (m : Nat) : ∀ (n : Nat) (p : SetTable.Probe), p.dummy = none → (nth m p n).dummy = none
  | 0, _, h => h
  | n + 1, p, h => no_dummy m n (adv m p) (by unfold adv; split <;> exact h)
section
variable {P : Program} {w : World} {A : Around} {E : Value → Shared → Prop} {s : Shared} {a : Addr} {L : Keyed} {es : Array (Int × Value)} {ep : Nat} {t : SetTable}
theorem entries_len (es : Array (Int × Value)) (L : Keyed) (h : es.toList = entries P w L) : es.size = L.length := by
  rw [← Array.length_toList, h]
  exact List.length_map _
theorem hashes_len : (hashes P w L).length = L.length := List.length_map _
theorem Held.size {h : Heap} (R : Held P w h a L es ep t) : es.size = L.length := entries_len es L R.ent
theorem Held.placed {h : Heap} (R : Held P w h a L es ep t) : t.place.size = L.length := by rw [R.tab.sz, hashes_len]
theorem Held.fits {h : Heap} (R : Held P w h a L es ep t) : t.fits es.size = true := by
  have e1 := R.placed
  have e2 := R.size
  have e3 := R.room
  have e4 : t.dummies.size = 0 := by rw [R.tab.dm]; rfl
  have e5 : t.place.size + t.dummies.size ≤ t.mask := by omega
  have e6 : t.place.size = es.size := by omega
  unfold SetTable.fits
  rw [e6, beq_self_eq_true, Bool.true_and]
  exact decide_eq_true e5
theorem Held.at_ {h : Heap} (R : Held P w h a L es ep t) {i : Nat} {p : Addr × List Str} (e : L[i]? = some p) : es[i]? = some (txHash P w p.2, Value.ref p.1) := by
  have q : es.toList[i]? = some (txHash P w p.2, Value.ref p.1) := by
    rw [R.ent]
    unfold entries
    rw [List.getElem?_map, e]
    rfl
  rwa [Array.getElem?_toList] at q
theorem Held.stays {h : Heap} (R : Held P w h a L es ep t) : t.gaveWay = false := by
  have q := mask_odd R.tab.mok
  unfold SetTable.gaveWay
  rw [q]
  rfl
theorem tx_search (R : Held P w s.heap a L es ep t) {x : Addr} {k : List Str} (tx : Tx P w s.heap k x) (hu : A.units < cLine) {K : Nat} (bound : K < 10 * SetTable.turns t.mask)
    (free : way t.mask (txHash P w k) K ∉ t.place.toList) (taken : ∀ c, c < K → way t.mask (txHash P w k) c ∈ t.place.toList) {Q : SetFound → Shared → Prop}
    (yes : k ∈ L.map (·.2) → Q (.there none) s) (no : k ∉ L.map (·.2) → Q (.free (way t.mask (txHash P w k) K) false) s) (f : Nat) :
    ∀ (c : Nat) (stand : Option SetTable.Probe), stand.getD (t.probeStart (txHash P w k)) = nth t.mask (begin_ t.mask (txHash P w k)) c → c ≤ K → K - c < f →
      (∀ (i : Nat) p, L[i]? = some p → p.2 = k → ∃ c2, c ≤ c2 ∧ c2 < K ∧ t.place.toList[i]? = some (way t.mask (txHash P w k) c2)) →
      wpAny (model P w) A (setSearchFrom a (.ref x) (txHash P w k) true f stand) Q E s := by
  induction f with
  | zero => exact fun c stand _ _ less => absurd less (Nat.not_lt_zero _)
  | succ f ih =>
    intro c stand from_ le less ahead
    obtain ⟨o, obj, exact_, dat⟩ := R.obj
    have go : ∀ q, nth t.mask (nth t.mask (begin_ t.mask (txHash P w k)) c) q = nth t.mask (begin_ t.mask (txHash P w k)) (c + q) := fun q => (nth_add t.mask c _ q).symm
    have spot : ∀ q, (nth t.mask (nth t.mask (begin_ t.mask (txHash P w k)) c) q).j = way t.mask (txHash P w k) (c + q) := fun q => congrArg (fun z => SetTable.Probe.j z) (go q)
    have last : way t.mask (txHash P w k) (c + (K - c)) = way t.mask (txHash P w k) K := by rw [show c + (K - c) = K by omega]
    have stored : ∀ (i : Nat) p, L[i]? = some p → (es[i]?.map (·.1)).getD 0 = txHash P w p.2 := fun i p e => by rw [R.at_ e]; rfl
    have told := go_spec t R.tab.ris R.tab.dm (fun i => (es[i]?.map (·.1)).getD 0) (txHash P w k) (10 * SetTable.turns t.mask) (K - c) (nth t.mask (begin_ t.mask (txHash P w k)) c) (no_dummy _ _ _ rfl) (by omega)
      (fun q lq => by rw [spot]; exact taken _ (by omega)) (by rw [spot, last]; exact free)
    rw [setSearchFrom_succ]
    apply wpAny_bind
    apply wpAny_setState_of obj dat R.fits
    dsimp only
    apply wp_if_neg (by rw [R.stays]; decide)
    try apply wpAny_bind (wpAny_pure _)
    rw [from_]
    rcases told with ⟨q, i, lq, at_i, same, before, met⟩ | ⟨none_, met⟩
    case inr =>
      rw [spot, last] at met
      have met2 : t.probe (fun i => (es[i]?.map (·.1)).getD 0) (txHash P w k) (nth t.mask (begin_ t.mask (txHash P w k)) c) = some (.empty (way t.mask (txHash P w k) K) none) := met
      rw [met2]
      dsimp only
      refine wpAny_pure (no fun hm => ?_)
      obtain ⟨p, hp, e⟩ := List.mem_map.mp hm
      obtain ⟨i, hi, ei⟩ := List.getElem_of_mem hp
      have li : L[i]? = some p := by rw [List.getElem?_eq_getElem hi, ei]
      obtain ⟨c2, l1, l2, l3⟩ := ahead i p li e
      refine none_ (c2 - c) i (by omega) (by rw [spot, show c + (c2 - c) = c2 by omega]; exact l3) ?_
      rw [stored i p li, e]
    rw [spot, go] at met
    rw [spot] at at_i
    have met2 : t.probe (fun i => (es[i]?.map (·.1)).getD 0) (txHash P w k) (nth t.mask (begin_ t.mask (txHash P w k)) c) = some (.candidate (way t.mask (txHash P w k) (c + q)) i (nth t.mask (begin_ t.mask (txHash P w k)) (c + (q + 1)))) := met
    rw [met2]
    dsimp only
    have il : i < L.length := by
      have z := (List.getElem?_eq_some_iff.mp at_i).1
      rw [Array.length_toList, R.placed] at z
      exact z
    obtain ⟨p, li⟩ : ∃ p, L[i]? = some p := ⟨_, List.getElem?_eq_getElem il⟩
    have pm := List.mem_of_getElem? li
    have live : t.slot (way t.mask (txHash P w k) (c + q)) = .live i := slot_live R.tab.ris at_i
    have rest : wpAny (model P w) A (searchRest a (.ref x) (txHash P w k) true f es t (way t.mask (txHash P w k) (c + q)) i (nth t.mask (begin_ t.mask (txHash P w k)) (c + (q + 1)))) Q E s := by
      unfold searchRest
      rw [R.at_ li]
      dsimp only
      apply wpAny_bind
      apply wpAny_holding
      apply wpAny_eqBool_tuple hu (R.txt p pm) tx
      apply wpAny_bind
      apply wpAny_setState_of obj dat R.fits
      dsimp only
      by_cases eq_ : p.2 = k
      · exact wp_if_pos (by simp [eq_]) (wpAny_pure (yes (List.mem_map.mpr ⟨p, pm, eq_⟩)))
      apply wp_if_neg (by simp [eq_])
      try apply wpAny_bind (wpAny_pure _)
      rw [sameMem]
      dsimp only
      simp only [if_true, live, R.at_ li]
      apply wpAny_bind
      apply wpAny_isSame_ref_self
      apply wpAny_bind
      apply wpAny_pure
      simp only [if_true]
      apply wp_if_neg (by simp [eq_])
      refine ih (c + (q + 1)) _ rfl (by omega) (by omega) fun i2 p2 li2 e2 => ?_
      obtain ⟨c2, l1, l2, l3⟩ := ahead i2 p2 li2 e2
      refine ⟨c2, ?_, l2, l3⟩
      rcases Nat.lt_trichotomy c2 (c + q) with z | z | z
      · exact absurd ((stored i2 p2 li2).trans (by rw [e2])) (before (c2 - c) i2 (by omega) (by rw [spot, show c + (c2 - c) = c2 by omega]; exact l3))
      · rw [z] at l3
        have twice := slot_live R.tab.ris l3
        rw [live] at twice
        cases twice
        rw [li] at li2
        cases li2
        exact absurd e2 eq_
      · omega
    by_cases ld : t.led = true
    · apply wp_if_neg (by simp [ld])
      try apply wpAny_bind (wpAny_pure _)
      exact rest
    · apply wp_if_pos (by simp [ld])
      apply wpAny_bind
      refine tx_unseen tx (fun y hy => ?_) ?_
      · obtain ⟨e, he, rfl⟩ := List.mem_map.mp hy
        have he : e ∈ es := by simp at he; exact he.1
        have he : e ∈ es.toList := by simpa using he
        rw [R.ent] at he
        obtain ⟨p2, hp2, rfl⟩ := List.mem_map.mp he
        exact ⟨p2.2, p2.1, rfl, R.txt p2 hp2⟩
      · apply wp_if_neg (by decide)
        try apply wpAny_bind (wpAny_pure _)
        exact rest
end
end Dl

/-! sets of tuples of texts: one more -/
namespace Dl
open PySem PySem.Spec PyProof.Rows L2
theorem put_in_perm {α : Type} (l : List α) (n : Nat) (x : α) : (l.take n ++ x :: l.drop n).Perm (x :: l) := by
  have q : (l.take n ++ x :: l.drop n).Perm (x :: (l.take n ++ l.drop n)) := List.perm_middle
  rwa [List.take_append_drop] at q
section
variable {P : Program} {w : World} {A : Around} {E : Value → Shared → Prop} {s : Shared} {a : Addr} {L : Keyed} {es : Array (Int × Value)} {ep : Nat} {t : SetTable}
theorem Tx.but {h h' : Heap} {k : List Str} {b : Addr} {o : Obj} (tx : Tx P w h k b) (obj : h.get? a = some o) (dat : o.data = .set es ep t) (same : Heap.SameBut a h h') : Tx P w h' k b := by
  obtain ⟨o2, items, n, obj2, cls2, dat2, its⟩ := tx
  have ne : b ≠ a := fun e => by
    rw [e, obj] at obj2
    cases obj2
    rw [dat] at dat2
    cases dat2
  exact ⟨o2, items, n, (same.2 b ne).trans obj2, cls2, dat2, its⟩
/-- the entries in another order -/
theorem reorder (order : Array Nat) (ent : es.toList = entries P w L) (perm : order.toList.Perm (List.range L.length)) :
    ∃ L2 : Keyed, (order.filterMap (es[·]?)).toList = entries P w L2 ∧ L2.Perm L ∧ hashes P w L2 = order.toList.map fun i => (es.map (·.1)).getD i 0 := by
  have len := entries_len es L ent
  have at_ : ∀ (i : Nat) (p : Addr × List Str), L[i]? = some p → es[i]? = some (txHash P w p.2, Value.ref p.1) := fun i p e => by
    rw [← Array.getElem?_toList, ent]
    unfold entries
    rw [List.getElem?_map, e]
    rfl
  have step : ∀ l : List Nat, (∀ i ∈ l, i < L.length) → l.filterMap (fun i => es[i]?) = entries P w (l.filterMap fun i => L[i]?) ∧ hashes P w (l.filterMap fun i => L[i]?) = l.map fun i => (es.map (·.1)).getD i 0 := by
    intro l
    induction l with
    | nil => exact fun _ => ⟨rfl, rfl⟩
    | cons i l ih =>
      intro all
      have lt := all i (List.mem_cons_self ..)
      obtain ⟨i1, i2⟩ := ih fun j hj => all j (List.mem_cons_of_mem _ hj)
      have li : L[i]? = some L[i] := List.getElem?_eq_getElem lt
      have e := at_ i _ li
      rw [List.filterMap_cons_some e, List.filterMap_cons_some li, i1]
      refine ⟨rfl, ?_⟩
      show txHash P w (L[i]).2 :: hashes P w (l.filterMap fun i => L[i]?) = _
      rw [i2, List.map_cons]
      congr 1
      simp [Array.getD_eq_getD_getElem?, Array.getElem?_map, e]
  obtain ⟨s1, s2⟩ := step order.toList fun i hi => List.mem_range.mp (perm.mem_iff.mp hi)
  refine ⟨order.toList.filterMap fun i => L[i]?, by rw [Array.toList_filterMap]; exact s1, ?_, s2⟩
  have whole : ∀ n, n ≤ L.length → (List.range n).filterMap (fun i => L[i]?) = L.take n := by
    intro n
    induction n with
    | zero => exact fun _ => rfl
    | succ n ih =>
      intro le
      have lt : n < L.length := le
      have li : L[n]? = some L[n] := List.getElem?_eq_getElem lt
      rw [List.range_succ, List.filterMap_append, ih (Nat.le_of_lt lt), List.take_succ, li]
      rw [List.filterMap_cons_some li]
      rfl
  have q := perm.filterMap fun i => L[i]?
  rw [whole L.length (Nat.le_refl _), List.take_length] at q
  exact q
/-- a larger table -/
theorem tx_relay {o : Obj} (obj : s.heap.get? a = some o) (exact_ : o.ExactSet) (dat : o.data = .set es ep t) (ent : es.toList = entries P w L) (tab : _root_.L2.TabOk t (hashes P w L)) (fit : L.length ≤ t.mask) (once : (L.map (·.2)).Nodup) (txt : ∀ p ∈ L, Tx P w s.heap p.2 p.1)
    (led : w.params.followText "set-order" = true ∨ t.led = true) (few : L.length < 64) {wanted M : Nat} (size : SetTable.sizeAbove wanted - 1 = M) (ok : MaskOk M) (small : SetTable.sizeAbove wanted ≤ 128) (room : L.length * 5 < M * 3) {Q : Unit → Shared → Prop}
    (q : ∀ h' L' es' ep' t', Heap.SameBut a s.heap h' → Held P w h' a L' es' ep' t' → L'.Perm L → Q () { s with heap := h' }) : wpAny (model P w) A (setRelay a wanted) Q E s := by
  have len := entries_len es L ent
  have placed : t.place.size = L.length := by rw [tab.sz, hashes_len]
  have fits : t.fits es.size = true := by
    have e5 : t.place.size + t.dummies.size ≤ t.mask := by rw [tab.dm, placed]; exact fit
    unfold SetTable.fits
    rw [show t.place.size = es.size by omega, beq_self_eq_true, Bool.true_and]
    exact decide_eq_true e5
  have keys : (es.map (·.1)).size = L.length := by rw [Array.size_map, len]
  obtain ⟨t2, order, laid, perm, tab2, mask2, led2, plain2, dm2⟩ := relaid_ok t (hs := es.map (·.1)) (wanted := wanted) size ok (by rw [keys]; omega)
  rw [keys] at perm
  obtain ⟨L2, ent2, perm2, hash2⟩ := reorder order ent perm
  rw [← hash2] at tab2
  have len2 := entries_len _ L2 ent2
  have plen := perm2.length_eq
  rw [setRelay_eq]
  apply wpAny_bind
  apply wpAny_setState_of obj dat fits
  dsimp only
  apply wp_if_neg (by rw [sizeLine_eq]; omega)
  try apply wpAny_bind (wpAny_pure _)
  rw [laid]
  dsimp only
  apply wpAny_bind
  apply wp_if_neg (by rw [len2, len, plen]; simp)
  try apply wpAny_bind (wpAny_pure _)
  apply wpAny_pure
  dsimp only
  refine wpAny_storeSet_of obj dat ?_ (by rw [len2, plen, sizeLine_eq]; omega)
  have same : Heap.SameBut a s.heap (s.heap.update a (Obj.putSet (order.filterMap (es[·]?)) t2)) := Heap.SameBut.update ..
  exact q _ L2 _ (ep + 1) t2 same ⟨⟨_, store_at obj dat, ⟨exact_.1, exact_.2.1, exact_.2.2⟩, rfl⟩, ent2, tab2, (perm2.map (·.2)).nodup_iff.mpr once, fun p hp => (txt p (perm2.mem_iff.mp hp)).but obj dat same, by rw [led2]; exact led, by rw [plen, mask2]; exact room, by rw [plen]; exact few⟩ perm2
/-- the search as adding asks for it -/
theorem tx_find (R : Held P w s.heap a L es ep t) {x : Addr} {k : List Str} (tx : Tx P w s.heap k x) (hu : A.units < cLine) {Q : SetFound → Shared → Prop} (yes : k ∈ L.map (·.2) → Q (.there none) s)
    (no : ∀ K, k ∉ L.map (·.2) → way t.mask (txHash P w k) K ∉ t.place.toList → (∀ c, c < K → way t.mask (txHash P w k) c ∈ t.place.toList) → Q (.free (way t.mask (txHash P w k) K) false) s) :
    wpAny (model P w) A (setSearch a (.ref x) (txHash P w k) true) Q E s := by
  have len := R.size
  have room := R.room
  obtain ⟨K, bound, free, taken⟩ := R.tab.first (by rw [hashes_len]; omega) (txHash P w k)
  have small : K < 100000 := by
    have : 10 * SetTable.turns t.mask ≤ 1420 := by
      unfold SetTable.turns
      have := R.tab.mok
      rcases this with e | e | e <;> omega
    omega
  unfold setSearch
  refine tx_search R tx hu bound free taken yes (fun new => no K new free taken) 100000 0 none rfl (Nat.zero_le _) (by omega) fun i p li e => ?_
  have hi : (hashes P w L)[i]? = some (txHash P w k) := by
    unfold hashes
    rw [List.getElem?_map, li, ← e]
    rfl
  have lt : i < t.place.toList.length := by
    have := (List.getElem?_eq_some_iff.mp li).1
    rw [Array.length_toList, R.placed]
    exact this
  obtain ⟨c, l1, l2⟩ := R.tab.before free hi (List.getElem?_eq_getElem lt)
  exact ⟨c, Nat.zero_le _, l1, by rw [List.getElem?_eq_getElem lt, l2]⟩
/-- one more tuple -/
theorem tx_add (R : Held P w s.heap a L es ep t) {x : Addr} {k : List Str} (tx : Tx P w s.heap k x) (hu : A.units < cLine) (more : L.length + 1 < 64) {Q : Bool → Shared → Prop}
    (q : ∀ b h' L' es' ep' t', Heap.SameBut a s.heap h' → Held P w h' a L' es' ep' t' → (k ∈ L.map (·.2) → L' = L) → (k ∉ L.map (·.2) → L'.Perm ((x, k) :: L)) → Q b { s with heap := h' }) :
    wpAny (model P w) A (setAddHashed a (.ref x) (txHash P w k)) Q E s := by
  obtain ⟨o, obj, exact_, dat⟩ := R.obj
  have len := R.size
  have room := R.room
  unfold setAddHashed
  apply wpAny_holding
  rw [show (100000 : Nat) = 99999 + 1 from rfl, setAddHashedIn_succ]
  apply wpAny_bind
  apply wpAny_setState_of obj dat R.fits
  dsimp only
  apply wp_if_neg (by simp [byScan, Value.scannable])
  try refine wpAny_bind (wpAny_pure ?_)
  refine wpAny_bind (tx_find R tx hu (fun there => ?_) fun K new free taken => ?_)
  · dsimp only
    exact wpAny_pure (q false s.heap L es ep t (Heap.SameBut.refl a s.heap) R (fun _ => rfl) fun z => absurd there z)
  dsimp only
  apply wpAny_bind
  apply wpAny_setState_of obj dat R.fits
  dsimp only
  obtain ⟨q1, q2, q3, q4, q5, q6, q7, q8, q9⟩ := R.tab.put free taken
  generalize t.put (way t.mask (txHash P w k) K) = pt at q1 q3 q4 q5 q6 q7 q8 q9 ⊢
  obtain ⟨t1, n⟩ := pt
  dsimp only at q1 q3 q4 q5 q6 q7 q8 q9 ⊢
  subst q1
  have shut : _root_.L2.TabOk t1 ((hashes P w L).take (SetTable.below t.place (way t.mask (txHash P w k) K)) ++ txHash P w k :: (hashes P w L).drop (SetTable.below t.place (way t.mask (txHash P w k) K))) := q3
  generalize SetTable.below t.place (way t.mask (txHash P w k) K) = n at shut ⊢
  have perm := put_in_perm L n (x, k)
  have ent1 : (SetTable.insertAt es n (txHash P w k, Value.ref x)).toList = entries P w (L.take n ++ (x, k) :: L.drop n) := by
    rw [SetTable.toList_insertAt, R.ent]
    unfold entries
    rw [List.map_append, List.map_cons, List.map_take, List.map_drop]
  have hash1 : (hashes P w L).take n ++ txHash P w k :: (hashes P w L).drop n = hashes P w (L.take n ++ (x, k) :: L.drop n) := by
    unfold hashes
    rw [List.map_append, List.map_cons, List.map_take, List.map_drop]
  rw [hash1] at shut
  generalize SetTable.insertAt es n (txHash P w k, Value.ref x) = es1 at ent1 ⊢
  generalize L.take n ++ (x, k) :: L.drop n = L1 at perm ent1 shut
  have len1 := entries_len es1 L1 ent1
  have plen : L1.length = L.length + 1 := perm.length_eq
  have once1 : (L1.map (·.2)).Nodup := by
    refine (perm.map (·.2)).nodup_iff.mpr ?_
    rw [List.map_cons]
    exact List.nodup_cons.mpr ⟨new, R.once⟩
  rw [hashes_len] at q9
  have fin : ∀ t2 : SetTable, _root_.L2.TabOk t2 (hashes P w L1) → t2.mask = t.mask → t2.led = t.led → t2.fill = L.length + 1 → wpAny (model P w) A (do
      storeSet a es1 t2
      if (!false && t2.tooFull) = true then do
        setRelay a (SetTable.grown (es.size + 1))
        pure true
      else pure true) Q E s := by
    intro t2 tab2 mask2 led2 fill2
    refine wpAny_bind (wpAny_storeSet_of obj dat ?_ (by rw [len1, plen, sizeLine_eq]; omega))
    have same : Heap.SameBut a s.heap (s.heap.update a (Obj.putSet es1 t2)) := Heap.SameBut.update ..
    have obj1 := store_at (es' := es1) (t' := t2) obj dat
    generalize s.heap.update a (Obj.putSet es1 t2) = h1 at same obj1 ⊢
    have txt1 : ∀ p ∈ L1, Tx P w h1 p.2 p.1 := fun p hp => by
      rcases List.mem_cons.mp (perm.mem_iff.mp hp) with rfl | hp
      · exact tx.but obj dat same
      · exact (R.txt p hp).but obj dat same
    have led3 : w.params.followText "set-order" = true ∨ t2.led = true := by rw [led2]; exact R.led
    have full_iff : t2.tooFull = decide (t2.fill * 5 ≥ t2.mask * 3) := rfl
    by_cases full : t2.tooFull = true
    · apply wp_if_pos (by simp [full])
      rw [full_iff, decide_eq_true_eq, fill2, mask2] at full
      rw [len]
      have which : (t.mask = 7 ∧ L.length = 4) ∨ (t.mask = 31 ∧ L.length = 18) := by
        have := R.tab.mok
        rcases this with e | e | e <;> rw [e] at room full
        · exact .inl ⟨e, by omega⟩
        · exact .inr ⟨e, by omega⟩
        · omega
      have go : ∀ M, SetTable.sizeAbove (SetTable.grown (L.length + 1)) - 1 = M → MaskOk M → SetTable.sizeAbove (SetTable.grown (L.length + 1)) ≤ 128 → (L.length + 1) * 5 < M * 3 →
          wpAny (model P w) A (setRelay a (SetTable.grown (L.length + 1))) (fun _ s' => wpAny (model P w) A (pure true) Q E s') E { s with heap := h1 } := fun M z1 z2 z3 z4 => by
        refine tx_relay (s := { s with heap := h1 }) obj1 ⟨exact_.1, exact_.2.1, exact_.2.2⟩ rfl ent1 tab2 (by rw [plen, mask2]; omega) once1 txt1 led3 (by rw [plen]; exact more) z1 z2 z3 (by rw [plen]; exact z4) ?_
        intro h2 L2 es2 ep2 t3 same2 R2 perm2
        exact wpAny_pure (q true h2 L2 es2 ep2 t3 (same.trans same2) R2 (fun z => absurd z new) fun _ => perm2.trans perm)
      refine wpAny_bind ?_
      rcases which with ⟨_, e⟩ | ⟨_, e⟩
      · exact go 31 (by rw [e, size_20]) (.inr (.inl rfl)) (by rw [e, size_20]; decide) (by omega)
      · exact go 127 (by rw [e, size_76]) (.inr (.inr rfl)) (by rw [e, size_76]; decide) (by omega)
    · apply wp_if_neg (by simp [full])
      rw [full_iff, decide_eq_true_eq, fill2] at full
      exact wpAny_pure (q true h1 L1 es1 (ep + 1) t2 same ⟨⟨_, obj1, ⟨exact_.1, exact_.2.1, exact_.2.2⟩, rfl⟩, ent1, tab2, once1, txt1, led3, by rw [plen]; omega, by rw [plen]; exact more⟩ (fun z => absurd z new) fun _ => perm)
  by_cases pl : t1.plain = true
  · refine wp_if_pos pl (wpAny_bind (tx_byvalue tx fun c => ?_))
    cases c with
    | true => exact fin t1 shut q4 q5 q9
    | false => exact fin { t1 with plain := false } ⟨shut.ris, shut.dm, shut.sz, shut.mok, shut.bd, shut.reach⟩ q4 q5 q9
  · exact wp_if_neg pl (wpAny_bind (wpAny_pure (fin t1 shut q4 q5 q9)))
end
end Dl

/-! sets of tuples of texts: set(xs) of a list or a tuple of them -/
namespace Dl
open PySem PySem.Spec PyProof.Rows L2
/-- what the set has of the first i -/
structure Met (ks : Keyed) (i : Nat) (L : Keyed) : Prop where
  sub : ∀ p ∈ L, p ∈ ks.take i
  all : ∀ p ∈ ks.take i, p.2 ∈ L.map (·.2)
  len : L.length ≤ i
theorem take_plus {α : Type} {l : List α} {i : Nat} {x : α} (h : l[i]? = some x) : l.take (i + 1) = l.take i ++ [x] := by
  rw [List.take_succ, h]
  rfl
theorem Met.next {ks L L2 : Keyed} {i : Nat} {p : Addr × List Str} (m : Met ks i L) (at_ : ks[i]? = some p) (old : p.2 ∈ L.map (·.2) → L2 = L) (new : p.2 ∉ L.map (·.2) → L2.Perm (p :: L)) : Met ks (i + 1) L2 := by
  have t := take_plus at_
  by_cases c : p.2 ∈ L.map (·.2)
  · rw [old c]
    refine ⟨fun q hq => by rw [t]; exact List.mem_append_left _ (m.sub q hq), fun q hq => ?_, Nat.le_succ_of_le m.len⟩
    rw [t] at hq
    rcases List.mem_append.mp hq with h | h
    · exact m.all q h
    · obtain rfl := List.mem_singleton.mp h
      exact c
  · have perm := new c
    refine ⟨fun q hq => ?_, fun q hq => ?_, ?_⟩
    · rw [t]
      rcases List.mem_cons.mp (perm.mem_iff.mp hq) with rfl | h
      · exact List.mem_append_right _ (List.mem_singleton_self _)
      · exact List.mem_append_left _ (m.sub q h)
    · rw [(perm.map (·.2)).mem_iff, List.map_cons]
      rw [t] at hq
      rcases List.mem_append.mp hq with h | h
      · exact List.mem_cons_of_mem _ (m.all q h)
      · obtain rfl := List.mem_singleton.mp h
        exact List.mem_cons_self ..
    · rw [perm.length_eq]
      exact Nat.succ_le_succ m.len
section
variable {P : Program} {w : World} {A : Around} {E : Value → Shared → Prop} {s : Shared}
theorem Tx.kept {h h' : Heap} {k : List Str} {b : Addr} (tx : Tx P w h k b) (keep : ∀ c o, h.get? c = some o → h'.get? c = some o) : Tx P w h' k b := by
  obtain ⟨o, items, n, at_, rest⟩ := tx
  exact ⟨o, items, n, keep b o at_, rest⟩
theorem Held.moved {h h' : Heap} {a : Addr} {L : Keyed} {es : Array (Int × Value)} {ep : Nat} {t : SetTable} (R : Held P w h a L es ep t) (here : ∀ o, h.get? a = some o → h'.get? a = some o) (txt : ∀ p ∈ L, Tx P w h' p.2 p.1) : Held P w h' a L es ep t := by
  obtain ⟨o, at_, rest⟩ := R.obj
  exact ⟨⟨o, here o at_, rest⟩, R.ent, R.tab, R.once, txt, R.led, R.room, R.few⟩
/-- the object of a new set -/
abbrev newSet (w : World) : Obj := { cls := .type "set", dict := none, data := .set #[] 0 (.fresh 0 0 (!w.params.followText "set-order")) }
theorem held_new {h : Heap} {a : Addr} (obj : h.get? a = some (newSet w)) : Held P w h a [] #[] 0 (.fresh 0 0 (!w.params.followText "set-order")) := by
  refine ⟨⟨_, obj, ⟨rfl, rfl, rfl⟩, rfl⟩, rfl, ⟨List.Pairwise.nil, rfl, rfl, .inl rfl, fun x hx => (nomatch hx), fun i h j hi => ?_⟩, List.nodup_nil, fun p hp => (nomatch hp), ?_, (by show 0 * 5 < 7 * 3; decide), (by show 0 < 64; decide)⟩
  · simp [hashes] at hi
  · show _ ∨ (!w.params.followText "set-order") = true
    cases w.params.followText "set-order"
    · exact .inr rfl
    · exact .inl rfl
/-- the loop of set.update -/
theorem tx_loop {I S : Addr} {fp wr : List Addr} {G : Array GenState → Array GenState → Prop} {n : Nat} {Pv : Nat → Value → Prop} {St : Nat → Shared → Prop} {R : Result → Shared → Prop} (W : WalksS P w A.in1 I fp wr G n Pv St) (apart : S ∉ fp) (ks : Keyed) (size : n = ks.length) (few : ks.length < 64)
    (given : ∀ i v, Pv i v → ∃ p, ks[i]? = some p ∧ v = .ref p.1) (h0 : Heap) (txt : ∀ p ∈ ks, Tx P w h0 p.2 p.1) (newS : h0.get? S = none) (neww : ∀ b ∈ wr, h0.get? b = none) (hu : A.in1.units < cLine) (left : Nat) :
    ∀ (i : Nat) (s : Shared), n - i = left → i ≤ n → St i s → (∀ b o, h0.get? b = some o → s.heap.get? b = some o) → (∃ L es ep t, Held P w s.heap S L es ep t ∧ Met ks i L) →
      (∀ s' L es ep t, Moved (S :: wr) G s s' → Held P w s'.heap S L es ep t → Met ks n L → (∀ b o, h0.get? b = some o → s'.heap.get? b = some o) → R (.ok (.ret .none)) s') →
      codeAny (model P w) A (.builtin "set.update.loop" ⟨[.ref S, .ref I], []⟩) R s := by
  have apart2 : S ∉ wr := fun h => apart (W.sub _ h)
  have wider : ∀ b ∈ wr, b ∈ S :: wr := fun b hb => List.mem_cons_of_mem _ hb
  have over : ∀ {s1 s2 : Shared}, Moved wr G s1 s2 → (∀ b o, h0.get? b = some o → s1.heap.get? b = some o) → ∀ b o, h0.get? b = some o → s2.heap.get? b = some o := fun mv keep b o e =>
    mv.heap b o (fun hb => by rw [neww b hb] at e; cases e) (keep b o e)
  have inks : ∀ {i : Nat} {L : Keyed}, Met ks i L → ∀ p ∈ L, p ∈ ks := fun m p hp => List.mem_of_mem_take (m.sub p hp)
  induction left with
  | zero =>
    rintro i s left le st keep ⟨L, es, ep, t, held, met⟩ fin
    obtain rfl : i = n := by omega
    apply codeAny_builtin F.entry_set_update_loop
    rw [Around.under_plainId F.plain_set_update_loop _]
    change wpAny _ A.in1 (pyNext (.ref I) >>= _) _ _ s
    apply wpAny_bind
    refine W.done s _ _ st fun s2 mv => ?_
    change wpAny _ A.in1 (ret Value.none) _ _ s2
    have keep2 := over mv keep
    exact wpAny_pure (fin s2 L es ep t (mv.mono wider) (held.moved (fun o e => mv.heap S o apart2 e) fun p hp => (txt p (inks met p hp)).kept keep2) met keep2)
  | succ left ih =>
    rintro i s more le st keep ⟨L, es, ep, t, held, met⟩ fin
    have lt : i < n := by omega
    apply codeAny_builtin F.entry_set_update_loop
    rw [Around.under_plainId F.plain_set_update_loop _]
    change wpAny _ A.in1 (pyNext (.ref I) >>= _) _ _ s
    apply wpAny_bind
    refine W.item i s _ _ lt st fun v s2 hv st2 mv => ?_
    obtain ⟨p, at_, rfl⟩ := given i v hv
    have keep2 := over mv keep
    have held2 : Held P w s2.heap S L es ep t := held.moved (fun o e => mv.heap S o apart2 e) fun q hq => (txt q (inks met q hq)).kept keep2
    have tx : Tx P w s2.heap p.2 p.1 := (txt p (List.mem_of_getElem? at_)).kept keep2
    change wpAny _ A.in1 (holding [Value.ref p.1] (setAdd S (.ref p.1)) >>= _) _ _ s2
    apply wpAny_bind
    apply wpAny_holding
    unfold setAdd
    apply wpAny_holding
    apply wpAny_bind
    apply wpAny_pyHash_tuple hu tx
    refine tx_add (s := { s2 with toks := s2.toks + (p.2.length + 1) }) held2 tx hu (by have := met.len; omega) fun b h3 L3 es3 ep3 t3 same held3 old new => ?_
    have keep3 : ∀ b o, h0.get? b = some o → h3.get? b = some o := fun b o e => (same.2 b (fun z => by rw [z, newS] at e; cases e)).trans (keep2 b o e)
    refine wpAny_pure ⟨plainId_quiet F.plain_set_update_loop _, ih (i + 1) _ (by omega) lt (W.frame _ s2 _ _ st2 (Nat.le_add_right _ _) fun b hb o e => ?_) keep3 ⟨L3, es3, ep3, t3, held3, met.next at_ old new⟩ fun s4 L4 es4 ep4 t4 mv4 held4 met4 keep4 => ?_⟩
    · rw [same.2 b (fun h : b = S => apart (by rw [← h]; exact hb))]
      exact e
    · refine fin s4 L4 es4 ep4 t4 (Moved.trans W.gtrans ((mv.mono wider).then_heap (Nat.le_add_right _ _) fun b o hb e => ?_) mv4) held4 met4 keep4
      rw [same.2 b (fun h : b = S => hb (by rw [h]; exact List.mem_cons_self ..))]
      exact e
set_option maxRecDepth 100000 in
set_option maxHeartbeats 3200000 in
/-- set(xs), xs a list -/
theorem call_set_txlist {l : Addr} {items : Array Value} (ks : Keyed) {Q : Value → Shared → Prop} (calm : A.handled = none) (seq : s.heap.IsList l items) (its : items.toList = ks.map fun p => Value.ref p.1) (txt : ∀ p ∈ ks, Tx P w s.heap p.2 p.1) (few : ks.length < 64) (hu : A.units + 3 < cLine)
    (fin : ∀ (h' : Heap) (tk : Nat) L es ep t, Held P w h' s.heap.objs.size L es ep t → Met ks ks.length L → (∀ b o, s.heap.get? b = some o → h'.get? b = some o) → Q (.ref s.heap.objs.size) { s with heap := h', toks := tk }) :
    wpAny (model P w) A (call (.type "set") [.ref l]) Q E s := by
  have count : items.size = ks.length := by
    rw [← Array.length_toList, its]
    exact List.length_map _
  obtain ⟨c, tl, mro⟩ := F.called_set.mro
  have made_ := F.called_set.made
  have sub_ := F.called_set.sub
  apply wpAny_call
  apply codeAny_of_tree
  change wpAny _ _ (callAny (.type "set") _) _ _ _
  refine wpAny_pure ⟨Code.quiet_builtin _ (by decide +kernel), ?_⟩
  apply codeAny_builtin F.entry_type_call
  rw [Around.under_plain (weight_type_call_type "set" [.ref l] []) rfl]
  have k1 := F.called_set.notType
  have k2 := F.called_set.canCreate
  have k3 := F.typeCall_set_1 (.ref l)
  repeat any_goals first | assumption | wp_step
  refine codeAny_mono (code_set_led1 (.ref l) (E := E) (Q₁ := fun obj s1 => obj = .ref s.heap.objs.size ∧ s1 = { s with heap := s.heap.push (newSet w) }) ⟨rfl, rfl⟩) ?_
  intro r s1 hr
  match r, hr with
  | .error e, hr => exact hr
  | .ok (.ret obj), hr =>
    obtain ⟨rfl, rfl⟩ := hr
    have there : (s.heap.push (newSet w)).get? s.heap.objs.size = some (newSet w) := Heap.get?_push_size _ rfl
    have typ : Shared.TypeIs { s with heap := s.heap.push (newSet w) } (.ref s.heap.objs.size) "set" := ⟨_, there, rfl⟩
    have k4 := F.called_set.init.lookup
    have k5 := F.called_set.init.bind (.ref s.heap.objs.size)
    repeat any_goals first | assumption | wp_step
    refine codeAny_mono (codeAny_call_builtin (R := wants (fun r s2 => r = .none ∧ ∃ h' tk L es ep t, s2 = { s with heap := h', toks := tk } ∧ Held P w h' s.heap.objs.size L es ep t ∧ Met ks ks.length L ∧ ∀ b o, s.heap.get? b = some o → h'.get? b = some o) E) F.called_set.init.plain F.entry_set_init (check_set_init_1 typ ?_)) ?_
    · obtain ⟨⟨ocls, odict, odata, oslots⟩, at_, cls, nl, dat⟩ := seq
      simp only at cls dat
      subst cls
      subst dat
      have at2 : (s.heap.push (newSet w)).get? l = some { cls := .type "list", dict := odict, data := .seq items nl, slots := oslots } := Heap.get?_push_of_some _ at_
      have k6 := F.sub_list_set
      have k7 := F.sub_list_frozenset
      have k8 : (Value.type "list" == Value.type "dict") = false := by decide
      have seq2 : (s.heap.push (newSet w)).IsList l items := ⟨_, at2, rfl, nl, rfl⟩
      unfold Builtin.«set.__init__» noKeywords Builtin.Frozenset.updateFrom
      generalize hit : pyIter = it
      wp_walk
      subst hit
      apply wpAny_pyIter_list seq2
      apply wpAny_bind
      apply wpAny_runValue
      have old : l < s.heap.objs.size := Heap.lt_size at_
      have calm3 : A.in1.in1.in1.handled = none := by simp [calm]
      have size1 : (s.heap.push (newSet w)).objs.size = s.heap.objs.size + 1 := Heap.size_push ..
      have apart : s.heap.objs.size ∉ [(s.heap.push (newSet w)).objs.size, l] := by
        intro m
        rcases List.mem_cons.mp m with e | m
        · rw [size1] at e
          exact absurd e (Nat.ne_of_lt (Nat.lt_succ_self _))
        · rw [← List.mem_singleton.mp m] at old
          exact absurd old (Nat.lt_irrefl _)
      have given : ∀ (i : Nat) (v : Value), items[i]? = some v → ∃ p, ks[i]? = some p ∧ v = .ref p.1 := fun i v hv => by
        rw [← Array.getElem?_toList, its] at hv
        rw [List.getElem?_map] at hv
        cases q : ks[i]? with
        | none => rw [q] at hv; cases hv
        | some p => rw [q] at hv; exact ⟨p, rfl, (Option.some.inj hv).symm⟩
      have beyond : ∀ b, s.heap.objs.size ≤ b → s.heap.get? b = none := fun b hb => by
        cases q : s.heap.get? b with
        | none => rfl
        | some o => exact absurd (Heap.lt_size q) (Nat.not_lt.mpr hb)
      refine tx_loop ((Walks.list calm3 _ l (by rw [size1]; exact Nat.ne_of_lt (Nat.lt_succ_of_lt old)) items).toS) apart ks count few given s.heap txt (beyond _ (Nat.le_refl _)) (fun b hb => beyond b (by rw [List.mem_singleton.mp hb, size1]; exact Nat.le_succ _)) hu (items.size - 0) 0 _ rfl (Nat.zero_le _)
        ⟨⟨_, Heap.get?_push_size _ rfl, rfl, rfl⟩, seq2.push _⟩ (fun b o e => Heap.get?_push_of_some _ (Heap.get?_push_of_some _ e)) ⟨[], #[], 0, _, held_new (Heap.get?_push_of_some _ there), ⟨fun p hp => (nomatch hp), fun p hp => (by simp at hp), Nat.le_refl _⟩⟩ ?_
      intro s2 L es ep t mv held met keep
      obtain ⟨h2, g2, d2, tk2, os2⟩ := s2
      have e1 : g2 = s.gens := mv.gens
      have e2 : d2 = s.drawn := mv.drawn
      have e3 : os2 = s.os := mv.os
      subst e1 e2 e3
      rw [count] at met
      exact wpAny_pure (wpAny_pure ⟨rfl, h2, tk2, L, es, ep, t, rfl, held, met, keep⟩)
    · intro r2 s2 hr2
      match r2, hr2 with
      | .error e, hr2 => exact hr2
      | .ok (.ret r), hr2 =>
        obtain ⟨rfl, h2, tk2, L, es, ep, t, rfl, held, met, keep⟩ := hr2
        repeat any_goals first | assumption | wp_step
        exact fin _ _ _ _ _ _ held met keep
set_option maxRecDepth 100000 in
set_option maxHeartbeats 3200000 in
/-- set(xs), xs a tuple -/
theorem call_set_txtuple {l : Addr} {items : Array Value} (ks : Keyed) {Q : Value → Shared → Prop} (calm : A.handled = none) (seq : s.heap.IsTuple l items) (its : items.toList = ks.map fun p => Value.ref p.1) (txt : ∀ p ∈ ks, Tx P w s.heap p.2 p.1) (few : ks.length < 64) (hu : A.units + 3 < cLine)
    (fin : ∀ (h' : Heap) (tk : Nat) L es ep t, Held P w h' s.heap.objs.size L es ep t → Met ks ks.length L → (∀ b o, s.heap.get? b = some o → h'.get? b = some o) → Q (.ref s.heap.objs.size) { s with heap := h', toks := tk }) :
    wpAny (model P w) A (call (.type "set") [.ref l]) Q E s := by
  have count : items.size = ks.length := by
    rw [← Array.length_toList, its]
    exact List.length_map _
  obtain ⟨c, tl, mro⟩ := F.called_set.mro
  have made_ := F.called_set.made
  have sub_ := F.called_set.sub
  apply wpAny_call
  apply codeAny_of_tree
  change wpAny _ _ (callAny (.type "set") _) _ _ _
  refine wpAny_pure ⟨Code.quiet_builtin _ (by decide +kernel), ?_⟩
  apply codeAny_builtin F.entry_type_call
  rw [Around.under_plain (weight_type_call_type "set" [.ref l] []) rfl]
  have k1 := F.called_set.notType
  have k2 := F.called_set.canCreate
  have k3 := F.typeCall_set_1 (.ref l)
  repeat any_goals first | assumption | wp_step
  refine codeAny_mono (code_set_led1 (.ref l) (E := E) (Q₁ := fun obj s1 => obj = .ref s.heap.objs.size ∧ s1 = { s with heap := s.heap.push (newSet w) }) ⟨rfl, rfl⟩) ?_
  intro r s1 hr
  match r, hr with
  | .error e, hr => exact hr
  | .ok (.ret obj), hr =>
    obtain ⟨rfl, rfl⟩ := hr
    have there : (s.heap.push (newSet w)).get? s.heap.objs.size = some (newSet w) := Heap.get?_push_size _ rfl
    have typ : Shared.TypeIs { s with heap := s.heap.push (newSet w) } (.ref s.heap.objs.size) "set" := ⟨_, there, rfl⟩
    have k4 := F.called_set.init.lookup
    have k5 := F.called_set.init.bind (.ref s.heap.objs.size)
    repeat any_goals first | assumption | wp_step
    refine codeAny_mono (codeAny_call_builtin (R := wants (fun r s2 => r = .none ∧ ∃ h' tk L es ep t, s2 = { s with heap := h', toks := tk } ∧ Held P w h' s.heap.objs.size L es ep t ∧ Met ks ks.length L ∧ ∀ b o, s.heap.get? b = some o → h'.get? b = some o) E) F.called_set.init.plain F.entry_set_init (check_set_init_1 typ ?_)) ?_
    · obtain ⟨⟨ocls, odict, odata, oslots⟩, at_, cls, nl, dat⟩ := seq
      simp only at cls dat
      subst cls
      subst dat
      have at2 : (s.heap.push (newSet w)).get? l = some { cls := .type "tuple", dict := odict, data := .seq items nl, slots := oslots } := Heap.get?_push_of_some _ at_
      have k6 := F.sub_tuple_set
      have k7 := F.sub_tuple_frozenset
      have k8 : (Value.type "tuple" == Value.type "dict") = false := by decide
      have seq2 : (s.heap.push (newSet w)).IsTuple l items := ⟨_, at2, rfl, nl, rfl⟩
      unfold Builtin.«set.__init__» noKeywords Builtin.Frozenset.updateFrom
      generalize hit : pyIter = it
      wp_walk
      subst hit
      apply wpAny_pyIter_tuple seq2
      apply wpAny_bind
      apply wpAny_runValue
      have old : l < s.heap.objs.size := Heap.lt_size at_
      have calm3 : A.in1.in1.in1.handled = none := by simp [calm]
      have size1 : (s.heap.push (newSet w)).objs.size = s.heap.objs.size + 1 := Heap.size_push ..
      have apart : s.heap.objs.size ∉ [(s.heap.push (newSet w)).objs.size, l] := by
        intro m
        rcases List.mem_cons.mp m with e | m
        · rw [size1] at e
          exact absurd e (Nat.ne_of_lt (Nat.lt_succ_self _))
        · rw [← List.mem_singleton.mp m] at old
          exact absurd old (Nat.lt_irrefl _)
      have given : ∀ (i : Nat) (v : Value), items[i]? = some v → ∃ p, ks[i]? = some p ∧ v = .ref p.1 := fun i v hv => by
        rw [← Array.getElem?_toList, its] at hv
        rw [List.getElem?_map] at hv
        cases q : ks[i]? with
        | none => rw [q] at hv; cases hv
        | some p => rw [q] at hv; exact ⟨p, rfl, (Option.some.inj hv).symm⟩
      have beyond : ∀ b, s.heap.objs.size ≤ b → s.heap.get? b = none := fun b hb => by
        cases q : s.heap.get? b with
        | none => rfl
        | some o => exact absurd (Heap.lt_size q) (Nat.not_lt.mpr hb)
      refine tx_loop ((Walks.tuple calm3 _ l (by rw [size1]; exact Nat.ne_of_lt (Nat.lt_succ_of_lt old)) items).toS) apart ks count few given s.heap txt (beyond _ (Nat.le_refl _)) (fun b hb => beyond b (by rw [List.mem_singleton.mp hb, size1]; exact Nat.le_succ _)) hu (items.size - 0) 0 _ rfl (Nat.zero_le _)
        ⟨⟨_, Heap.get?_push_size _ rfl, rfl, rfl⟩, seq2.push _⟩ (fun b o e => Heap.get?_push_of_some _ (Heap.get?_push_of_some _ e)) ⟨[], #[], 0, _, held_new (Heap.get?_push_of_some _ there), ⟨fun p hp => (nomatch hp), fun p hp => (by simp at hp), Nat.le_refl _⟩⟩ ?_
      intro s2 L es ep t mv held met keep
      obtain ⟨h2, g2, d2, tk2, os2⟩ := s2
      have e1 : g2 = s.gens := mv.gens
      have e2 : d2 = s.drawn := mv.drawn
      have e3 : os2 = s.os := mv.os
      subst e1 e2 e3
      rw [count] at met
      exact wpAny_pure (wpAny_pure ⟨rfl, h2, tk2, L, es, ep, t, rfl, held, met, keep⟩)
    · intro r2 s2 hr2
      match r2, hr2 with
      | .error e, hr2 => exact hr2
      | .ok (.ret r), hr2 =>
        obtain ⟨rfl, h2, tk2, L, es, ep, t, rfl, held, met, keep⟩ := hr2
        repeat any_goals first | assumption | wp_step
        exact fin _ _ _ _ _ _ held met keep
end
end Dl

/-! sets of tuples of texts: sorted(set) -/
namespace Dl
open PySem PySem.Spec PyProof.Rows L2
/-- a tuple of texts as data -/
def txData (k : List Str) : PyData := .tuple (k.map PyData.str)
/-- Python's order of them -/
def txLe : List Str → List Str → Bool := PySem.W.dataLe false txData
/-- the one sorted list -/
def sortK (ks : List (List Str)) : List (List Str) := ks.mergeSort txLe
theorem toks_inj : ∀ {k l : List Str}, PySem.W.keyToksAll (k.map PyData.str) = PySem.W.keyToksAll (l.map PyData.str) → k = l
  | [], [], _ => rfl
  | [], y :: l, h => by
    rw [List.map_nil, List.map_cons, PySem.W.toks_all_cons] at h
    simp [PySem.W.keyToksAll] at h
  | x :: k, [], h => by
    rw [List.map_nil, List.map_cons, PySem.W.toks_all_cons] at h
    simp [PySem.W.keyToksAll] at h
  | x :: k, y :: l, h => by
    rw [List.map_cons, List.map_cons, PySem.W.toks_all_cons, PySem.W.toks_all_cons] at h
    simp only [PySem.W.keyToks, List.cons_append, List.nil_append, List.cons.injEq, true_and, Sum.inr.injEq] at h
    rw [Str.ext' (Array.toList_inj.mp h.1), toks_inj h.2]
theorem txLe_anti {k l : List Str} (h1 : txLe k l = true) (h2 : txLe l k = true) : k = l := by
  have e : ∀ a b : List Str, txLe a b = !PyProof.Rows.lexLt PyProof.Rows.itemOrd (PySem.W.keyToksAll (b.map PyData.str)) (PySem.W.keyToksAll (a.map PyData.str)) := fun a b => by
    show (!PyProof.Rows.lexLt PyProof.Rows.itemOrd (PySem.W.keyToks (txData b)) (PySem.W.keyToks (txData a))) = _
    simp only [txData, PySem.W.keyToks]
  rw [e, Bool.not_eq_true'] at h1 h2
  exact toks_inj (PyProof.Rows.lex_total _ _ h2 h1)
theorem txLe_trans (a b c : List Str) (h1 : txLe a b = true) (h2 : txLe b c = true) : txLe a c = true := (PySem.W.sortLe_total (PyProof.Rows.listOrd PyProof.Rows.itemOrd) false fun k => PySem.W.keyToks (txData k)).trans a b c h1 h2
theorem txLe_total (a b : List Str) : (txLe a b || txLe b a) = true := by
  rw [Bool.or_eq_true]
  exact (PySem.W.sortLe_total (PyProof.Rows.listOrd PyProof.Rows.itemOrd) false fun k => PySem.W.keyToks (txData k)).total a b
theorem sortK_perm {ks ls : List (List Str)} (h : ks.Perm ls) : sortK ks = sortK ls :=
  List.Perm.eq_of_pairwise (le := fun a b => txLe a b = true) (fun a b _ _ => txLe_anti) (List.pairwise_mergeSort txLe_trans txLe_total _) (List.pairwise_mergeSort txLe_trans txLe_total _) (((List.mergeSort_perm _ _).trans h).trans (List.mergeSort_perm _ _).symm)
/-- a permutation of a mapped list is a mapped permutation -/
theorem perm_back {α β : Type} {f : α → β} {vs ys : List β} (h : vs.Perm ys) : ∀ {L : List α}, ys = L.map f → ∃ L1 : List α, L1.Perm L ∧ vs = L1.map f := by
  induction h with
  | nil => exact fun {L} e => ⟨[], by rw [List.map_eq_nil_iff.mp e.symm], rfl⟩
  | cons x _ ih =>
    intro L e
    cases L with
    | nil => cases e
    | cons p L =>
      rw [List.map_cons] at e
      injection e with e1 e2
      obtain ⟨L1, q1, q2⟩ := ih e2
      exact ⟨p :: L1, q1.cons p, by rw [List.map_cons, e1, q2]⟩
  | swap x y l =>
    intro L e
    match L, e with
    | p :: q :: L, e =>
      rw [List.map_cons, List.map_cons] at e
      injection e with e1 e2
      injection e2 with e2 e3
      exact ⟨q :: p :: L, List.Perm.swap p q L, by rw [List.map_cons, List.map_cons, e1, e2, e3]⟩
    | [p], e => simp at e
    | [], e => cases e
  | trans _ _ ih1 ih2 =>
    intro L e
    obtain ⟨L2, q1, q2⟩ := ih2 e
    obtain ⟨L1, q3, q4⟩ := ih1 q2
    exact ⟨L1, q3.trans q1, q4⟩
theorem alike_texts : ∀ k l : List Str, PySem.W.alikeAll (k.map PyData.str) (l.map PyData.str) = true
  | [], _ => by simp [PySem.W.alikeAll]
  | _ :: _, [] => by simp [PySem.W.alikeAll]
  | x :: k, y :: l => by
    rw [List.map_cons, List.map_cons, PySem.W.alikeAll, alike_texts k l]
    simp [PySem.W.alike]
section
variable {P : Program} {w : World} {A : Around} {E : Value → Shared → Prop} {s : Shared}
theorem texts_read {h : Heap} : ∀ {k : List Str} {vs : List Value}, ItemsAre (strKind P w) k vs → ReadsAll h vs (k.map PyData.str) []
  | [], _, .nil => .nil
  | z :: k, _, .cons one rest => by
    obtain ⟨t, rfl⟩ := Value.isStrOf_shape one
    exact .cons (as := []) (bs := []) (.str z t) (texts_read rest)
theorem Tx.reads {h : Heap} {k : List Str} {b : Addr} (tx : Tx P w h k b) : Reads h (.ref b) (txData k) [] := by
  obtain ⟨o, items, n, at_, cls, dat, its⟩ := tx
  exact .tuple at_ cls dat (texts_read its)
/-- sorted(set) -/
theorem sorted_tx {a : Addr} {L : Keyed} {es : Array (Int × Value)} {ep : Nat} {t : SetTable} {Q : Value → Shared → Prop} (R : Held P w s.heap a L es ep t) (calm : A.handled = none) (hu : A.units + 10 < cLine) (full : ∀ p ∈ L, p.2 ≠ [])
    (fin : ∀ s' p (out : Array Value) (c : Nat) (L' : Keyed), (∀ b o, s.heap.get? b = some o → s'.heap.get? b = some o) → s'.gens = s.gens → s'.os = s.os → s.heap.objs.size ≤ p → s'.heap.get? p = some (seqObj "list" out c) → out.toList = L'.map (fun q => Value.ref q.1) → L'.Perm L → L'.map (·.2) = sortK (L.map (·.2)) → Q (.ref p) s') :
    wpAny (model P w) A (call (.builtin "sorted") [.ref a]) Q E s := by
  obtain ⟨o, obj, exact_, dat⟩ := R.obj
  have size := R.size
  have few := R.few
  apply Calls.call_function_entry kind_sorted plain_sorted entry_sorted (args_sorted1 _)
  unfold Builtin.«sorted»
  apply wpAny_bind (m := checkCount "sorted" 1 1 _)
  apply wpAny_pure
  apply wpAny_bind
  refine collect_set (A := A.in1) calm ⟨o, obj, exact_.1, dat⟩ R.fits (by unfold scanBound; omega) R.tab.ris R.led fun s1 vs keep grow gens1 os1 perm => ?_
  have vals : es.toList.map (·.2) = L.map fun q => Value.ref q.1 := by
    rw [R.ent]
    unfold entries
    rw [List.map_map]
    rfl
  rw [vals] at perm
  obtain ⟨L1, perm1, rfl⟩ := perm_back perm rfl
  have len1 : L1.length = L.length := perm1.length_eq
  apply wpAny_bind
  apply wpAny_newList _ (by rw [List.length_map, sizeLine_eq]; omega)
  have newL : (s1.heap.push (seqObj "list" (L1.map fun q => Value.ref q.1).toArray 0)).get? s1.heap.objs.size = some (seqObj "list" (L1.map fun q => Value.ref q.1).toArray 0) := Heap.get?_push_size _ rfl
  have reads : ∀ q ∈ L1, Reads (s1.heap.push (seqObj "list" (L1.map fun q => Value.ref q.1).toArray 0)) (.ref q.1) (txData q.2) [] := fun q hq => ((R.txt q (perm1.mem_iff.mp hq)).kept fun b u e => Heap.get?_push_of_some _ (keep b u e)).reads (P := P) (w := w)
  have each : ∀ {R1 : Value → Addr × List Str → Prop} {M : Keyed}, (∀ q ∈ M, R1 (.ref q.1) q) → PySem.W.EachIs R1 (M.map fun q => Value.ref q.1) M := by
    intro R1 M
    induction M with
    | nil => exact fun _ => .nil
    | cons q M ih => exact fun all => .cons (all q (List.mem_cons_self ..)) (ih fun r hr => all r (List.mem_cons_of_mem _ hr))
  have alikes : PySem.W.AllAlike (L1.map fun q : Addr × List Str => txData q.2) := PySem.W.AllAlike.of (enc := fun q : Addr × List Str => txData q.2) fun q r => by
    unfold txData
    rw [PySem.W.alike]
    exact alike_texts _ _
  have sortable : PySem.W.Sortable (L1.map fun q : Addr × List Str => txData q.2) := .inl fun d hd => by
    obtain ⟨q, hq, rfl⟩ := List.mem_map.mp hd
    have ne := full q (perm1.mem_iff.mp hq)
    cases e : q.2 with
    | nil => exact absurd e ne
    | cons z r => exact ⟨PyData.str z, r.map PyData.str, rfl⟩
  have flat : ∀ q : Addr × List Str, (txData q.2).depth = 1 := fun q => by
    have z : ∀ k : List Str, PyData.depthAll (k.map PyData.str) = 0 := by
      intro k
      induction k with
      | nil => simp [PyData.depthAll]
      | cons x k ih => rw [List.map_cons, PyData.depthAll, ih]; simp [PyData.depth]
    unfold txData
    rw [PyData.depth, z]
  apply wpAny_bind
  apply wpAny_holding
  refine PySem.W.list_sort_data (s := { s1 with heap := s1.heap.push (seqObj "list" (L1.map fun q => Value.ref q.1).toArray 0) }) (R := fun v (q : Addr × List Str) => v = .ref q.1) (enc := fun q => txData q.2) (bs := L1) newL (each fun q _ => rfl) (each fun q hq => ⟨[], reads q hq, by simp⟩) alikes sortable (by rw [sizeLine_eq]; omega) (fun q _ => by rw [flat]; show A.units + 1 + 1 + 1 < cLine; omega) fun out len outs => ?_
  obtain ⟨c, at_⟩ := sortedHeap_at (vs := L1.map fun q => Value.ref q.1) (out := out.toArray) newL
  have same : ∀ {us : List Value} {M : Keyed}, PySem.W.EachIs (fun v (q : Addr × List Str) => v = .ref q.1) us M → us = M.map fun q => Value.ref q.1 := by
    intro us M h
    induction h with
    | nil => rfl
    | cons e _ ih => rw [List.map_cons, e, ih]
  have sorted_ := same outs
  have keys : (L1.mergeSort (PySem.W.dataLe false fun q : Addr × List Str => txData q.2)).map (·.2) = sortK (L.map (·.2)) := by
    rw [← sortK_perm (perm1.map (·.2))]
    exact List.map_mergeSort fun _ _ _ _ => rfl
  refine wpAny_pure ⟨_, rfl, fin _ s1.heap.objs.size out.toArray c _ (fun b u e => ?_) gens1 os1 grow at_ (by simpa using sorted_) ((List.mergeSort_perm _ _).trans perm1) keys⟩
  have q := keep b u e
  have lt := Heap.lt_size q
  change (sortedHeap (s1.heap.push (seqObj "list" (L1.map fun q => Value.ref q.1).toArray 0)) s1.heap.objs.size (L1.map fun q => Value.ref q.1) out.toArray).get? b = some u
  rw [sortedHeap_old (Nat.ne_of_lt lt) (by rw [size_push']; exact Nat.lt_succ_of_lt lt)]
  exact Heap.get?_push_of_some _ q
end
end Dl

/-! sets of tuples of texts: the rules of the layer -/
namespace Dl
open PySem PySem.Spec PyProof.Rows L2
/-- the set at a, without its tuples -/
def Held0 (P : Program) (w : World) (h : Heap) (a : Addr) (L : Keyed) : Prop := ∃ (es : Array (Int × Value)) (ep : Nat) (t : SetTable), (∃ o, h.get? a = some o ∧ o.ExactSet ∧ o.data = .set es ep t) ∧ es.toList = entries P w L ∧ _root_.L2.TabOk t (hashes P w L) ∧ (L.map (·.2)).Nodup ∧
  (w.params.followText "set-order" = true ∨ t.led = true) ∧ L.length * 5 < t.mask * 3 ∧ L.length < 64
def SetTx (P : Program) (w : World) (a : Addr) (L : Keyed) : HO := .ext fun h => Held0 P w h a L
theorem Held.bare {P : Program} {w : World} {h : Heap} {a : Addr} {L : Keyed} {es : Array (Int × Value)} {ep : Nat} {t : SetTable} (R : Held P w h a L es ep t) : Held0 P w h a L := ⟨es, ep, t, R.obj, R.ent, R.tab, R.once, R.led, R.room, R.few⟩
theorem setTx_new {P : Program} {w : World} {H : Hp} {h : Heap} {a : Addr} {L : Keyed} (R : Held0 P w h a L) : ObjOk P w H h a (SetTx P w a L) := by
  have ⟨es, ep, t, ⟨o, at_, more⟩, rest⟩ := R
  refine ⟨R, ⟨o, at_⟩, fun h1 h2 R1 keep => ?_⟩
  have ⟨es1, ep1, t1, ⟨o1, at1, more1⟩, rest1⟩ := (R1 : Held0 P w h1 a L)
  exact ⟨es1, ep1, t1, ⟨o1, keep o1 at1, more1⟩, rest1⟩
theorem items_tx {P : Program} {w : World} : ∀ {k : List Str} {us : List Value}, Vals (k.map V.str) us → ItemsAre (strKind P w) k us
  | [], _, .nil => .nil
  | z :: k, _, .cons r t => by
    obtain ⟨tk, rfl⟩ := r
    refine .cons ?_ (items_tx t)
    show Value.isStrOf z (.str z tk) = true
    simp [Value.isStrOf]
theorem refs_tx : ∀ {ks : Keyed} {us : List Value}, Vals (ks.map fun p => V.ref p.1) us → us = ks.map fun p => Value.ref p.1
  | [], _, .nil => rfl
  | p :: ks, _, .cons r t => by
    cases r
    rw [refs_tx t]
    rfl
theorem vals_tx : ∀ ks : Keyed, Vals (ks.map fun p => V.ref p.1) (ks.map fun p => Value.ref p.1)
  | [] => .nil
  | _ :: ks => .cons rfl (vals_tx ks)
section
variable {X : Cx}
theorem tx_of {pins : List (Addr × Obj)} {σ : L2.St} {H : Hp} {s : Shared} {b : Addr} {k : List Str} (I : Inv X pins σ H s) (h : SqT X.K H b (k.map V.str)) : Tx X.prog X.w s.heap k b := by
  obtain ⟨its, r, ⟨o, at_, cls, n, dat⟩, _⟩ := I.tuple h
  exact ⟨o, its.toArray, n, at_, cls, dat, by simpa using items_tx r⟩
/-- set(xs), xs a list or a tuple of tuples of texts -/
def rSetTx (K : PySem.W.Frag) (P : Program) (w : World) : List V → Hp → VK → Prop := fun xs H Q => ∃ (l : Addr) (ks : Keyed), xs = [V.ref l] ∧ (SqL K H l (ks.map fun p => V.ref p.1) ∨ SqT K H l (ks.map fun p => V.ref p.1)) ∧ (∀ p ∈ ks, SqT K H p.1 (p.2.map V.str)) ∧ ks.length < 64 ∧
  ∀ a (L : Keyed), H a = none → (∀ p ∈ L, p ∈ ks) → (∀ p ∈ ks, p.2 ∈ L.map (·.2)) → (L.map (·.2)).Nodup → Q (.ref a) (upd H a (SetTx P w a L))
theorem cr_setTx (calm : X.calm = true) (hu : X.A.units + 64 < cLine) : CallR X (.type "set") (rSetTx X.K X.prog X.w) := by
  intro pins s σ H xs us Q I r h
  obtain ⟨l, ks, rfl, seq, txt, few, q⟩ := h
  rw [Vals.ref1 r]
  have new : H s.heap.objs.size = none := I.hok.fresh (Nat.le_refl _)
  have all := fun p (hp : p ∈ ks) => tx_of I (txt p hp)
  have fin : ∀ (h' : Heap) (tk : Nat) L es ep t, Held X.prog X.w h' s.heap.objs.size L es ep t → Met ks ks.length L → (∀ b o, s.heap.get? b = some o → h'.get? b = some o) → EP X pins σ Q (.ref s.heap.objs.size) { s with heap := h', toks := tk } := fun h' tk L es ep t R met keep =>
    ⟨.ref s.heap.objs.size, upd H s.heap.objs.size (SetTx X.prog X.w s.heap.objs.size L), I.laid (t' := tk) keep (Nat.le_refl _) (setTx_new R.bare), rfl, q _ L new (fun p hp => List.mem_of_mem_take (met.sub p hp)) (fun p hp => met.all p (by rw [List.take_length]; exact hp)) R.once⟩
  rcases seq with seq | seq
  · obtain ⟨its, rv, pl, hz⟩ := I.list seq
    exact call_set_txlist (P := X.prog) (w := X.w) ks (I.ok.hd calm) pl.isList (by simpa using refs_tx rv) all few (by omega) fin
  · obtain ⟨its, rv, pl, hz⟩ := I.tuple seq
    exact call_set_txtuple (P := X.prog) (w := X.w) ks (I.ok.hd calm) pl (by simpa using refs_tx rv) all few (by omega) fin
/-- sorted(set) -/
def rSortTx (K : PySem.W.Frag) (P : Program) (w : World) : List V → Hp → VK → Prop := fun vs H Q => ∃ (a : Addr) (L : Keyed), vs = [V.ref a] ∧ H a = some (SetTx P w a L) ∧ (∀ p ∈ L, SqT K H p.1 (p.2.map V.str)) ∧ (∀ p ∈ L, p.2 ≠ []) ∧
  ∀ (L' : Keyed) (p : Addr), L'.Perm L → L'.map (·.2) = sortK (L.map (·.2)) → L'.length < 64 → H p = none → Q (.ref p) (upd H p (.lst (L'.map fun q => V.ref q.1)))
theorem cr_sortTx (calm : X.calm = true) (hu : X.A.units + 64 < cLine) : CallR X (.builtin "sorted") (rSortTx X.K X.prog X.w) := by
  intro pins s σ H vs us Q I r h
  obtain ⟨a, L, rfl, here, txt, full, q⟩ := h
  obtain ⟨es, ep, t, h1, h2, h3, h4, h5, h6, h7⟩ := ((I.hok a _ here).1 : Held0 X.prog X.w s.heap a L)
  have R : Held X.prog X.w s.heap a L es ep t := ⟨h1, h2, h3, h4, fun p hp => tx_of I (txt p hp), h5, h6, h7⟩
  rw [Vals.ref1 r]
  refine sorted_tx R (I.ok.hd calm) (by omega) full fun s' p out c L' keep gens_ os_ up at_ outs perm keys => ?_
  have few : L'.length < 64 := by rw [perm.length_eq]; exact h7
  have new : H p = none := I.hok.fresh up
  have J : Inv X pins σ (upd H p (.lst (L'.map fun q => V.ref q.1))) { s with heap := s'.heap, gens := s'.gens, drawn := s'.drawn, toks := s'.toks } :=
    I.call (ch := []) (Un.laid keep up new) (I.hok.laid keep up ⟨by rw [List.length_map, sizeLine_eq]; omega, out.toList, c, by rw [outs]; exact vals_tx L', at_⟩) (by rw [gens_]; exact I.bare) (fun _ z => nomatch z)
  have whole : s' = { s with heap := s'.heap, gens := s'.gens, drawn := s'.drawn, toks := s'.toks } := by
    cases s'
    cases s
    cases os_
    rfl
  rw [whole]
  exact ⟨.ref p, _, J, rfl, q L' p perm keys few new⟩
end
/-- each once -/
def onceK : List (List Str) → List (List Str)
  | [] => []
  | k :: r => if k ∈ r then onceK r else k :: onceK r
theorem mem_once {k : List Str} : ∀ {ks : List (List Str)}, k ∈ onceK ks ↔ k ∈ ks
  | [] => Iff.rfl
  | l :: r => by
    unfold onceK
    by_cases h : l ∈ r
    · rw [if_pos h, mem_once, List.mem_cons]
      exact ⟨.inr, fun q => q.elim (fun e => e ▸ h) id⟩
    · rw [if_neg h, List.mem_cons, List.mem_cons, mem_once]
theorem nodup_once : ∀ {ks : List (List Str)}, (onceK ks).Nodup
  | [] => List.nodup_nil
  | l :: r => by
    unfold onceK
    by_cases h : l ∈ r
    · rw [if_pos h]
      exact nodup_once
    · rw [if_neg h]
      exact List.nodup_cons.mpr ⟨fun q => h (mem_once.mp q), nodup_once⟩
/-- what sorted(set(..)) gives, by the keys alone -/
def normK (ks : List (List Str)) : List (List Str) := sortK (onceK ks)
theorem norm_of {ks L : List (List Str)} (once : L.Nodup) (sub : ∀ k ∈ L, k ∈ ks) (all : ∀ k ∈ ks, k ∈ L) : sortK L = normK ks := by
  refine sortK_perm ((List.perm_ext_iff_of_nodup once nodup_once).mpr fun k => ?_)
  rw [mem_once]
  exact ⟨sub k, all k⟩
theorem norm_same {ks ls : List (List Str)} (h : ∀ k, k ∈ ks ↔ k ∈ ls) : normK ks = normK ls :=
  norm_of nodup_once (fun k hk => (h k).mp (mem_once.mp hk)) fun k hk => mem_once.mpr ((h k).mpr hk)
theorem mem_norm {k : List Str} {ks : List (List Str)} : k ∈ normK ks ↔ k ∈ ks := by
  unfold normK sortK
  rw [List.mem_mergeSort, mem_once]
theorem nodup_norm {ks : List (List Str)} : (normK ks).Nodup := (List.mergeSort_perm _ _).nodup_iff.mpr nodup_once
end Dl

/-! sets of tuples of texts: == and != -/
namespace Dl
open PySem PySem.Spec PyProof.Rows L2
section
variable {P : Program} {w : World} {A : Around} {E : Value → Shared → Prop} {s : Shared} {a : Addr} {L : Keyed} {es : Array (Int × Value)} {ep : Nat} {t : SetTable}
theorem tx_search0 (R : Held P w s.heap a L es ep t) {x : Addr} {k : List Str} (tx : Tx P w s.heap k x) (hu : A.units < cLine) {K : Nat} (bound : K < 10 * SetTable.turns t.mask)
    (free : way t.mask (txHash P w k) K ∉ t.place.toList) (taken : ∀ c, c < K → way t.mask (txHash P w k) c ∈ t.place.toList) {Q : SetFound → Shared → Prop}
    (yes : k ∈ L.map (·.2) → ∀ i, Q (.there (some i)) s) (no : k ∉ L.map (·.2) → Q (.free (way t.mask (txHash P w k) K) false) s) (f : Nat) :
    ∀ (c : Nat) (stand : Option SetTable.Probe), stand.getD (t.probeStart (txHash P w k)) = nth t.mask (begin_ t.mask (txHash P w k)) c → c ≤ K → K - c < f →
      (∀ (i : Nat) p, L[i]? = some p → p.2 = k → ∃ c2, c ≤ c2 ∧ c2 < K ∧ t.place.toList[i]? = some (way t.mask (txHash P w k) c2)) →
      wpAny (model P w) A (setSearchFrom a (.ref x) (txHash P w k) false f stand) Q E s := by
  induction f with
  | zero => exact fun c stand _ _ less => absurd less (Nat.not_lt_zero _)
  | succ f ih =>
    intro c stand from_ le less ahead
    obtain ⟨o, obj, exact_, dat⟩ := R.obj
    have go : ∀ q, nth t.mask (nth t.mask (begin_ t.mask (txHash P w k)) c) q = nth t.mask (begin_ t.mask (txHash P w k)) (c + q) := fun q => (nth_add t.mask c _ q).symm
    have spot : ∀ q, (nth t.mask (nth t.mask (begin_ t.mask (txHash P w k)) c) q).j = way t.mask (txHash P w k) (c + q) := fun q => congrArg (fun z => SetTable.Probe.j z) (go q)
    have last : way t.mask (txHash P w k) (c + (K - c)) = way t.mask (txHash P w k) K := by rw [show c + (K - c) = K by omega]
    have stored : ∀ (i : Nat) p, L[i]? = some p → (es[i]?.map (·.1)).getD 0 = txHash P w p.2 := fun i p e => by rw [R.at_ e]; rfl
    have told := go_spec t R.tab.ris R.tab.dm (fun i => (es[i]?.map (·.1)).getD 0) (txHash P w k) (10 * SetTable.turns t.mask) (K - c) (nth t.mask (begin_ t.mask (txHash P w k)) c) (no_dummy _ _ _ rfl) (by omega)
      (fun q lq => by rw [spot]; exact taken _ (by omega)) (by rw [spot, last]; exact free)
    rw [setSearchFrom_succ]
    apply wpAny_bind
    apply wpAny_setState_of obj dat R.fits
    dsimp only
    apply wp_if_neg (by rw [R.stays]; decide)
    try apply wpAny_bind (wpAny_pure _)
    rw [from_]
    rcases told with ⟨q, i, lq, at_i, same, before, met⟩ | ⟨none_, met⟩
    case inr =>
      rw [spot, last] at met
      have met2 : t.probe (fun i => (es[i]?.map (·.1)).getD 0) (txHash P w k) (nth t.mask (begin_ t.mask (txHash P w k)) c) = some (.empty (way t.mask (txHash P w k) K) none) := met
      rw [met2]
      dsimp only
      refine wpAny_pure (no fun hm => ?_)
      obtain ⟨p, hp, e⟩ := List.mem_map.mp hm
      obtain ⟨i, hi, ei⟩ := List.getElem_of_mem hp
      have li : L[i]? = some p := by rw [List.getElem?_eq_getElem hi, ei]
      obtain ⟨c2, l1, l2, l3⟩ := ahead i p li e
      refine none_ (c2 - c) i (by omega) (by rw [spot, show c + (c2 - c) = c2 by omega]; exact l3) ?_
      rw [stored i p li, e]
    rw [spot, go] at met
    rw [spot] at at_i
    have met2 : t.probe (fun i => (es[i]?.map (·.1)).getD 0) (txHash P w k) (nth t.mask (begin_ t.mask (txHash P w k)) c) = some (.candidate (way t.mask (txHash P w k) (c + q)) i (nth t.mask (begin_ t.mask (txHash P w k)) (c + (q + 1)))) := met
    rw [met2]
    dsimp only
    have il : i < L.length := by
      have z := (List.getElem?_eq_some_iff.mp at_i).1
      rw [Array.length_toList, R.placed] at z
      exact z
    obtain ⟨p, li⟩ : ∃ p, L[i]? = some p := ⟨_, List.getElem?_eq_getElem il⟩
    have pm := List.mem_of_getElem? li
    have live : t.slot (way t.mask (txHash P w k) (c + q)) = .live i := slot_live R.tab.ris at_i
    have rest : wpAny (model P w) A (searchRest a (.ref x) (txHash P w k) false f es t (way t.mask (txHash P w k) (c + q)) i (nth t.mask (begin_ t.mask (txHash P w k)) (c + (q + 1)))) Q E s := by
      unfold searchRest
      rw [R.at_ li]
      dsimp only
      apply wpAny_bind
      apply wpAny_holding
      apply wpAny_eqBool_tuple hu (R.txt p pm) tx
      apply wpAny_bind
      apply wpAny_setState_of obj dat R.fits
      dsimp only
      apply wp_if_neg (by simp)
      try apply wpAny_bind (wpAny_pure _)
      rw [sameMem]
      dsimp only
      simp only [if_true, live, R.at_ li]
      apply wpAny_bind
      apply wpAny_isSame_ref_self
      apply wpAny_bind
      apply wpAny_pure
      simp only [if_true]
      by_cases eq_ : p.2 = k
      · exact wp_if_pos (by simp [eq_]) (wpAny_pure (yes (List.mem_map.mpr ⟨p, pm, eq_⟩) i))
      apply wp_if_neg (by simp [eq_])
      refine ih (c + (q + 1)) _ rfl (by omega) (by omega) fun i2 p2 li2 e2 => ?_
      obtain ⟨c2, l1, l2, l3⟩ := ahead i2 p2 li2 e2
      refine ⟨c2, ?_, l2, l3⟩
      rcases Nat.lt_trichotomy c2 (c + q) with z | z | z
      · exact absurd ((stored i2 p2 li2).trans (by rw [e2])) (before (c2 - c) i2 (by omega) (by rw [spot, show c + (c2 - c) = c2 by omega]; exact l3))
      · rw [z] at l3
        have twice := slot_live R.tab.ris l3
        rw [live] at twice
        cases twice
        rw [li] at li2
        cases li2
        exact absurd e2 eq_
      · omega
    by_cases ld : t.led = true
    · apply wp_if_neg (by simp [ld])
      try apply wpAny_bind (wpAny_pure _)
      exact rest
    · apply wp_if_pos (by simp [ld])
      apply wpAny_bind
      refine tx_unseen tx (fun y hy => ?_) ?_
      · obtain ⟨e, he, rfl⟩ := List.mem_map.mp hy
        have he : e ∈ es := by simp at he; exact he.1
        have he : e ∈ es.toList := by simpa using he
        rw [R.ent] at he
        obtain ⟨p2, hp2, rfl⟩ := List.mem_map.mp he
        exact ⟨p2.2, p2.1, rfl, R.txt p2 hp2⟩
      · apply wp_if_neg (by decide)
        try apply wpAny_bind (wpAny_pure _)
        exact rest
theorem tx_find0 (R : Held P w s.heap a L es ep t) {x : Addr} {k : List Str} (tx : Tx P w s.heap k x) (hu : A.units < cLine) {Q : SetFound → Shared → Prop} (yes : k ∈ L.map (·.2) → ∀ i, Q (.there (some i)) s)
    (no : ∀ K, k ∉ L.map (·.2) → way t.mask (txHash P w k) K ∉ t.place.toList → (∀ c, c < K → way t.mask (txHash P w k) c ∈ t.place.toList) → Q (.free (way t.mask (txHash P w k) K) false) s) :
    wpAny (model P w) A (setSearch a (.ref x) (txHash P w k)) Q E s := by
  have len := R.size
  have room := R.room
  obtain ⟨K, bound, free, taken⟩ := R.tab.first (by rw [hashes_len]; omega) (txHash P w k)
  have small : K < 100000 := by
    have : 10 * SetTable.turns t.mask ≤ 1420 := by
      unfold SetTable.turns
      have := R.tab.mok
      rcases this with e | e | e <;> omega
    omega
  unfold setSearch
  refine tx_search0 R tx hu bound free taken yes (fun new => no K new free taken) 100000 0 none rfl (Nat.zero_le _) (by omega) fun i p li e => ?_
  have hi : (hashes P w L)[i]? = some (txHash P w k) := by
    unfold hashes
    rw [List.getElem?_map, li, ← e]
    rfl
  have lt : i < t.place.toList.length := by
    have := (List.getElem?_eq_some_iff.mp li).1
    rw [Array.length_toList, R.placed]
    exact this
  obtain ⟨c, l1, l2⟩ := R.tab.before free hi (List.getElem?_eq_getElem lt)
  exact ⟨c, Nat.zero_le _, l1, by rw [List.getElem?_eq_getElem lt, l2]⟩
theorem tx_look (R : Held P w s.heap a L es ep t) {x : Addr} {k : List Str} (tx : Tx P w s.heap k x) (hu : A.units < cLine) {Q : Option Nat → Shared → Prop} (yes : k ∈ L.map (·.2) → ∀ i, Q (some i) s) (no : k ∉ L.map (·.2) → Q none s) :
    wpAny (model P w) A (setFind a (.ref x) (txHash P w k)) Q E s := by
  obtain ⟨o, obj, exact_, dat⟩ := R.obj
  unfold setFind setFindIn
  apply wpAny_bind
  apply wpAny_setState_of obj dat R.fits
  dsimp only
  apply wp_if_neg (by simp [byScan, Value.scannable])
  try refine wpAny_bind (wpAny_pure ?_)
  refine wpAny_bind (tx_find0 R tx hu (fun there i => ?_) fun K new free taken => ?_)
  · exact wpAny_pure (yes there i)
  · exact wpAny_pure (no new)
theorem sub_set_sets : isSubtype (.type "set") (.type "set") = pure true := by rw [isSubtype_type]; kernel_rfl
theorem entry_set_eq_ : entryFor table "set.__eq__" = some Builtin.«frozenset.__eq__» := entryFor_alias (id' := "frozenset.__eq__") (by kernel_rfl) rfl (by decide +kernel) (by kernel_rfl)
theorem entry_set_ne_ : entryFor table "set.__ne__" = some Builtin.«frozenset.__ne__» := entryFor_alias (id' := "frozenset.__ne__") (by kernel_rfl) rfl (by decide +kernel) (by kernel_rfl)
/-- the walk: some order -/
theorem tx_walk1 (R : Held P w s.heap a L es ep t) {Q : List (Int × Value) → Shared → Prop} (q : ∀ (L1 : Keyed) d, L1.Perm L → Q (entries P w L1) { s with drawn := d }) : wpAny (model P w) A (Builtin.Frozenset.walk a) Q E s := by
  obtain ⟨o, obj, exact_, dat⟩ := R.obj
  have back : ∀ {l : List (Int × Value)}, l.Perm es.toList → ∃ L1 : Keyed, L1.Perm L ∧ l = entries P w L1 := fun h => by
    rw [R.ent] at h
    exact perm_back h rfl
  unfold Builtin.Frozenset.walk setWalk
  apply wpAny_bind
  apply wpAny_bind
  apply wpAny_setState_of obj dat R.fits
  dsimp only
  apply wpAny_bind
  apply wpAny_byText
  by_cases bt : w.params.followText "set-order" = true
  · obtain ⟨L1, perm, e⟩ := back (pick_perm (w.params.setOrder a ep) es)
    refine wp_if_pos bt (wpAny_bind (wpAny_askSetting (wpAny_pure (wpAny_pure ?_))))
    show Q (pickOrder (w.params.setOrder a ep) es).toList s
    rw [e]
    exact q L1 s.drawn perm
  · apply wp_if_neg bt
    try apply wpAny_bind (wpAny_pure _)
    by_cases dr : (!t.plain && decide (es.size > 1)) = true
    · refine wp_if_pos (by exact dr) ?_
      apply wpAny_bind
      refine drawOrder_at _ _ _ _ (by rw [Array.length_toList]; exact Nat.le_refl _) fun ys d hp => ?_
      obtain ⟨L1, perm, e⟩ := back hp
      subst e
      refine wpAny_pure (wpAny_pure ?_)
      exact q L1 d perm
    · refine wp_if_neg (by exact dr) ?_
      try apply wpAny_bind (wpAny_pure _)
      have led : t.led = true := R.led.resolve_left bt
      refine wpAny_bind (wpAny_of_eq (a := ()) ?_ ?_)
      · show (if (!t.led && decide (es.size > 1)) = true then unsupported "set:maker-not-led" else pure ()) = pure ()
        rw [led] <;> rfl
      · obtain ⟨L1, perm, e⟩ := back (List.Perm.refl _)
        refine wpAny_pure (wpAny_pure ?_)
        rw [e]
        exact q L1 s.drawn perm
theorem tx_loud {k : List Str} {b : Addr} {Q : Bool → Shared → Prop} (tx : Tx P w s.heap k b) (q : Q false s) : wpAny (model P w) A (Builtin.Frozenset.quietEq (.ref b)) Q E s := by
  obtain ⟨o, items, n, obj, cls, dat, its⟩ := tx
  have hT : s.TypeIs (.ref b) "tuple" := ⟨o, obj, cls⟩
  unfold Builtin.Frozenset.quietEq
  refine wpAny_bind (wpAny_specialOf hT F.slot_tuple_eq.lookup (wpAny_pure ?_))
  have e : ((some (Value.builtin "tuple.__eq__") : Option Value) == some (.builtin "object.__eq__")) = false := by decide +kernel
  rw [e]
  exact q
variable {b : Addr} {M : Keyed} {es2 : Array (Int × Value)} {ep2 : Nat} {t2 : SetTable}
theorem tx_walk (R : Held P w s.heap a L es ep t) (R2 : Held P w s.heap b M es2 ep2 t2) {Q : List (Int × Value) → Shared → Prop} (q : ∀ (L1 : Keyed) d, L1.Perm L → Q (entries P w L1) { s with drawn := d }) :
    wpAny (model P w) A (Builtin.Frozenset.walkUnseen a b) Q E s := by
  obtain ⟨o, obj, exact_, dat⟩ := R.obj
  obtain ⟨o2, obj2, exact2, dat2⟩ := R2.obj
  unfold Builtin.Frozenset.walkUnseen
  refine wpAny_bind (wpAny_setEntries_of obj dat R.fits ?_)
  refine wpAny_bind (wpAny_setEntries_of obj2 dat2 R2.fits ?_)
  have all : ∀ z ∈ es.toList ++ es2.toList, ∃ k c, z.2 = Value.ref c ∧ Tx P w s.heap k c := fun z hz => by
    rcases List.mem_append.mp hz with h | h
    · rw [R.ent] at h
      obtain ⟨p, hp, rfl⟩ := List.mem_map.mp h
      exact ⟨p.2, p.1, rfl, R.txt p hp⟩
    · rw [R2.ent] at h
      obtain ⟨p, hp, rfl⟩ := List.mem_map.mp h
      exact ⟨p.2, p.1, rfl, R2.txt p hp⟩
  refine wpAny_bind ?_
  generalize hl : es.toList ++ es2.toList = l at all
  cases l with
  | nil =>
    rw [List.forIn_nil]
    refine wpAny_pure ?_
    dsimp only
    refine wpAny_pure ?_
    rw [R.ent]
    exact q L s.drawn (List.Perm.refl _)
  | cons z r =>
    obtain ⟨h, x⟩ := z
    obtain ⟨k, c, e, tx⟩ := all _ (List.mem_cons_self ..)
    have e : x = Value.ref c := e
    subst e
    rw [List.forIn_cons]
    refine wpAny_bind ?_
    refine wpAny_bind (tx_loud tx ?_)
    refine wp_if_pos (by decide) ?_
    refine wpAny_bind (tx_walk1 R fun L1 d perm => ?_)
    refine wpAny_pure ?_
    dsimp only
    refine wpAny_pure ?_
    dsimp only
    refine wpAny_pure ?_
    exact q L1 d perm
theorem tx_sub (R : Held P w s.heap a L es ep t) (R2 : Held P w s.heap b M es2 ep2 t2) (hu : A.units < cLine) (le : L.length ≤ M.length) (id : String) {Q : Bool → Shared → Prop}
    (q : ∀ d r, (r = true ↔ ∀ k ∈ L.map (·.2), k ∈ M.map (·.2)) → Q r { s with drawn := d }) : wpAny (model P w) A (Builtin.Frozenset.subsetOf id a b) Q E s := by
  obtain ⟨o, obj, exact_, dat⟩ := R.obj
  obtain ⟨o2, obj2, exact2, dat2⟩ := R2.obj
  have z1 := R.size
  have z2 := R2.size
  unfold Builtin.Frozenset.subsetOf
  refine wpAny_bind (wpAny_bind (wpAny_setEntries_of obj dat R.fits (wpAny_pure ?_)))
  refine wpAny_bind (wpAny_bind (wpAny_setEntries_of obj2 dat2 R2.fits (wpAny_pure ?_)))
  refine wp_if_neg (by omega) ?_
  try refine wpAny_bind (wpAny_pure ?_)
  refine wpAny_bind (wpAny_bind (wpAny_setState_of obj dat R.fits (wpAny_pure ?_)))
  refine wpAny_bind (tx_walk R R2 fun L1 d perm => ?_)
  have R2' : Held P w ({ s with drawn := d } : Shared).heap b M es2 ep2 t2 := R2
  apply wpAny_bind
  apply wpAny_forIn_list _ (fun left r s1 => r.1 = none ∧ s1 = { s with drawn := d } ∧ ∃ L2 : Keyed, left = entries P w L2 ∧ (∀ p ∈ L2, p ∈ L) ∧ ((∀ k ∈ L.map (·.2), k ∈ M.map (·.2)) ↔ ∀ k ∈ L2.map (·.2), k ∈ M.map (·.2)))
    (fun r s1 => wpAny (model P w) A _ Q E s1) _ _ _ _ ⟨rfl, rfl, L1, rfl, fun p hp => perm.mem_iff.mp hp, by
      constructor <;> intro h k hk
      · exact h k ((perm.map (·.2)).mem_iff.mp hk)
      · exact h k ((perm.map (·.2)).mem_iff.mpr hk)⟩
  · rintro ⟨h, x⟩ left r s1 ⟨r0, rfl, L2, e, sub, same⟩
    cases L2 with
    | nil => cases e
    | cons p L3 =>
      have e1 : (h, x) = (txHash P w p.2, Value.ref p.1) := (List.cons.inj e).1
      have e2 : left = entries P w L3 := (List.cons.inj e).2
      cases e1
      have tx : Tx P w s.heap p.2 p.1 := R.txt p (sub p (List.mem_cons_self ..))
      apply wpAny_bind
      apply wpAny_holding
      refine tx_look (s := { s with drawn := d }) R2 tx hu (fun there i => ?_) fun gone => ?_
      · refine wp_if_neg (by simp) ?_
        unfold Builtin.Frozenset.unchanged setEpoch
        refine wpAny_bind (wpAny_bind (wpAny_bind (wpAny_setState_of obj dat R.fits (wpAny_pure ?_))))
        refine wp_if_neg (by simp) ?_
        refine wpAny_pure (wpAny_pure ⟨rfl, rfl, L3, e2, fun z hz => sub z (List.mem_cons_of_mem _ hz), same.trans ?_⟩)
        constructor
        · exact fun h k hk => h k (by rw [List.map_cons]; exact List.mem_cons_of_mem _ hk)
        · intro h k hk
          rw [List.map_cons] at hk
          rcases List.mem_cons.mp hk with rfl | hk
          · exact there
          · exact h k hk
      · refine wp_if_pos (by decide) ?_
        refine wpAny_pure ?_
        refine wpAny_pure (q d false ⟨fun z => absurd z (by decide), fun z => absurd (same.mp z p.2 (by rw [List.map_cons]; exact List.mem_cons_self ..)) gone⟩)
  · rintro r s1 ⟨r0, rfl, L2, e, sub, same⟩
    cases L2 with
    | nil =>
      obtain ⟨r1, r2⟩ := r
      cases r0
      exact wpAny_pure (q d true ⟨fun _ => same.mpr (fun k hk => absurd hk (by simp)), fun _ => rfl⟩)
    | cons p L3 => cases e
theorem back_in {α : Type} [DecidableEq α] : ∀ (xs ys : List α), xs.Nodup → (∀ x ∈ xs, x ∈ ys) → ys.length ≤ xs.length → ∀ y ∈ ys, y ∈ xs
  | [], ys, _, _, le, y, hy => absurd (List.length_pos_of_mem hy) (by simp at le; simp [le])
  | x :: xs, ys, nd, sub, le, y, hy => by
    have nd := List.nodup_cons.mp nd
    have hx := sub x (List.mem_cons_self ..)
    by_cases e : y = x
    · rw [e]; exact List.mem_cons_self ..
    · refine List.mem_cons_of_mem _ (back_in xs (ys.erase x) nd.2 (fun z hz => (List.mem_erase_of_ne (fun q : z = x => nd.1 (by rw [← q]; exact hz))).mpr (sub z (List.mem_cons_of_mem _ hz))) ?_ y ((List.mem_erase_of_ne e).mpr hy))
      rw [List.length_erase_of_mem hx]
      rw [List.length_cons] at le
      omega
theorem same_keys (n1 : (L.map (·.2)).Nodup) (len : L.length = M.length) : (∀ k ∈ L.map (·.2), k ∈ M.map (·.2)) ↔ ∀ k, k ∈ L.map (·.2) ↔ k ∈ M.map (·.2) :=
  ⟨fun sub k => ⟨sub k, back_in _ _ n1 sub (by rw [List.length_map, List.length_map, len]; exact Nat.le_refl _) k⟩, fun h k hk => (h k).mp hk⟩
theorem len_keys (n1 : (L.map (·.2)).Nodup) (n2 : (M.map (·.2)).Nodup) (h : ∀ k, k ∈ L.map (·.2) ↔ k ∈ M.map (·.2)) : L.length = M.length := by
  have p : (L.map (·.2)).Perm (M.map (·.2)) := (List.perm_ext_iff_of_nodup n1 n2).mpr h
  have := p.length_eq
  rwa [List.length_map, List.length_map] at this
theorem tx_equal (R : Held P w s.heap a L es ep t) (R2 : Held P w s.heap b M es2 ep2 t2) (hu : A.units < cLine) {Q : Value → Shared → Prop} (q : ∀ d r, (r = true ↔ ∀ k, k ∈ L.map (·.2) ↔ k ∈ M.map (·.2)) → Q (.bool r) { s with drawn := d }) :
    wpAny (model P w) A (Builtin.«frozenset.__eq__» ⟨[.ref a, .ref b], []⟩) (fun fin s' => ∃ r, fin = .done (.ret r) ∧ Q r s') E s := by
  obtain ⟨o, obj, exact_, dat⟩ := R.obj
  obtain ⟨o2, obj2, exact2, dat2⟩ := R2.obj
  have T2 : s.TypeIs (.ref b) "set" := ⟨o2, obj2, exact2.1⟩
  have T1 : s.TypeIs (.ref a) "set" := ⟨o, obj, exact_.1⟩
  have z1 := R.size
  have z2 := R2.size
  unfold Builtin.«frozenset.__eq__»
  refine wpAny_bind (m := Builtin.Frozenset.slot1 "__eq__" _) ?_
  unfold Builtin.Frozenset.slot1
  refine wpAny_bind (m := slotArgs "__eq__" 1 _) (wpAny_pure ?_)
  dsimp only
  refine wpAny_pure ?_
  dsimp only
  refine wpAny_bind (m := Builtin.Frozenset.isAnySet (.ref b)) ?_
  unfold Builtin.Frozenset.isAnySet
  refine wpAny_bind (wpAny_isInstance T2 sub_set_sets ?_)
  refine wpAny_pure ?_
  refine wp_if_neg (by decide) ?_
  refine wpAny_bind (wpAny_pure ?_)
  refine wpAny_bind (wpAny_pure ?_)
  refine wpAny_bind (wpAny_bind (wpAny_setEntries_of obj dat R.fits (wpAny_pure ?_)))
  refine wpAny_bind (wpAny_bind (wpAny_setEntries_of obj2 dat2 R2.fits (wpAny_pure ?_)))
  refine wpAny_bind ?_
  by_cases len : L.length = M.length
  · refine wp_if_neg (by rw [z1, z2, len]; simp) ?_
    try refine wpAny_bind (wpAny_pure ?_)
    refine wpAny_bind (wpAny_bind (wpAny_isInstance T1 F.sub_set_frozenset ?_))
    refine wpAny_pure ?_
    refine wp_if_neg (by decide) ?_
    try refine wpAny_bind (wpAny_pure ?_)
    refine tx_sub R R2 hu (by omega) _ fun d r hr => ?_
    exact wpAny_pure ⟨_, rfl, q d r (hr.trans (same_keys R.once len))⟩
  · refine wp_if_pos (by rw [z1, z2]; simpa using len) ?_
    refine wpAny_pure ?_
    exact wpAny_pure ⟨_, rfl, q s.drawn false ⟨fun z => absurd z (by decide), fun z => absurd (len_keys R.once R2.once z) len⟩⟩
theorem tx_differ (R : Held P w s.heap a L es ep t) (R2 : Held P w s.heap b M es2 ep2 t2) (hu : A.units < cLine) {Q : Value → Shared → Prop} (q : ∀ d r, (r = true ↔ ∀ k, k ∈ L.map (·.2) ↔ k ∈ M.map (·.2)) → Q (.bool (!r)) { s with drawn := d }) :
    wpAny (model P w) A (Builtin.«frozenset.__ne__» ⟨[.ref a, .ref b], []⟩) (fun fin s' => ∃ r, fin = .done (.ret r) ∧ Q r s') E s := by
  obtain ⟨o, obj, exact_, dat⟩ := R.obj
  obtain ⟨o2, obj2, exact2, dat2⟩ := R2.obj
  have T2 : s.TypeIs (.ref b) "set" := ⟨o2, obj2, exact2.1⟩
  have T1 : s.TypeIs (.ref a) "set" := ⟨o, obj, exact_.1⟩
  have z1 := R.size
  have z2 := R2.size
  unfold Builtin.«frozenset.__ne__»
  refine wpAny_bind (m := Builtin.Frozenset.slot1 "__ne__" _) ?_
  unfold Builtin.Frozenset.slot1
  refine wpAny_bind (m := slotArgs "__ne__" 1 _) (wpAny_pure ?_)
  dsimp only
  refine wpAny_pure ?_
  dsimp only
  refine wpAny_bind (m := Builtin.Frozenset.isAnySet (.ref b)) ?_
  unfold Builtin.Frozenset.isAnySet
  refine wpAny_bind (wpAny_isInstance T2 sub_set_sets ?_)
  refine wpAny_pure ?_
  refine wp_if_neg (by decide) ?_
  refine wpAny_bind (wpAny_pure ?_)
  refine wpAny_bind (wpAny_pure ?_)
  refine wpAny_bind (wpAny_bind (wpAny_setEntries_of obj dat R.fits (wpAny_pure ?_)))
  refine wpAny_bind (wpAny_bind (wpAny_setEntries_of obj2 dat2 R2.fits (wpAny_pure ?_)))
  refine wpAny_bind ?_
  by_cases len : L.length = M.length
  · refine wp_if_neg (by rw [z1, z2, len]; simp) ?_
    try refine wpAny_bind (wpAny_pure ?_)
    refine wpAny_bind (wpAny_bind (wpAny_isInstance T1 F.sub_set_frozenset ?_))
    refine wpAny_pure ?_
    refine wp_if_neg (by decide) ?_
    try refine wpAny_bind (wpAny_pure ?_)
    refine tx_sub R R2 hu (by omega) _ fun d r hr => ?_
    exact wpAny_pure ⟨_, rfl, q d r (hr.trans (same_keys R.once len))⟩
  · refine wp_if_pos (by rw [z1, z2]; simpa using len) ?_
    refine wpAny_pure ?_
    exact wpAny_pure ⟨_, rfl, q s.drawn false ⟨fun z => absurd z (by decide), fun z => absurd (len_keys R.once R2.once z) len⟩⟩
theorem cmp_txsets (R : Held P w s.heap a L es ep t) (R2 : Held P w s.heap b M es2 ep2 t2) (hu : A.units + 2 < cLine) {Q : Value → Shared → Prop} :
    ((∀ d r, (r = true ↔ ∀ k, k ∈ L.map (·.2) ↔ k ∈ M.map (·.2)) → Q (.bool r) { s with drawn := d }) → wpAny (model P w) A (richCompare .Eq (.ref a) (.ref b)) Q E s) ∧
    ((∀ d r, (r = true ↔ ∀ k, k ∈ L.map (·.2) ↔ k ∈ M.map (·.2)) → Q (.bool (!r)) { s with drawn := d }) → wpAny (model P w) A (richCompare .NotEq (.ref a) (.ref b)) Q E s) := by
  obtain ⟨o, obj, exact_, dat⟩ := R.obj
  obtain ⟨o2, obj2, exact2, dat2⟩ := R2.obj
  have T2 : s.TypeIs (.ref b) "set" := ⟨o2, obj2, exact2.1⟩
  have T1 : s.TypeIs (.ref a) "set" := ⟨o, obj, exact_.1⟩
  constructor
  · intro q
    refine wpAny_richCompare_same_room T1 T2 F.slot_set_eq (wpAny_call_entry F.slot_set_eq T1 entry_set_eq_ ?_ (F.args_set_eq_2 _ _)) (by omega)
    exact tx_equal R R2 (by simp; omega) fun d r h => ⟨(fun z => nomatch z), q d r h⟩
  · intro q
    refine wpAny_richCompare_same_room T1 T2 F.slot_set_ne (wpAny_call_entry F.slot_set_ne T1 entry_set_ne_ ?_ (F.args_set_ne_2 _ _)) (by omega)
    exact tx_differ R R2 (by simp; omega) fun d r h => ⟨(fun z => nomatch z), q d r h⟩
end
section
variable {X : Cx}
theorem Inv.drew {pins : List (Addr × Obj)} {σ : L2.St} {H : Hp} {s : Shared} (I : Inv X pins σ H s) (d) : Inv X pins σ H { s with drawn := d } := ⟨I.ok, I.os, I.bare, I.base, I.loc, I.cell, I.free, I.freeC, I.pin, I.hok, I.len⟩
def rEqTx (K : PySem.W.Frag) (P : Program) (w : World) (neg : Bool) : R2 := fun x y H Q => ∃ (a b : Addr) (L M : Keyed), x = .ref a ∧ y = .ref b ∧ H a = some (SetTx P w a L) ∧ H b = some (SetTx P w b M) ∧ (∀ p ∈ L, SqT K H p.1 (p.2.map V.str)) ∧ (∀ p ∈ M, SqT K H p.1 (p.2.map V.str)) ∧
  ∀ r : Bool, (r = true ↔ ∀ k, k ∈ L.map (·.2) ↔ k ∈ M.map (·.2)) → Q (.bl (if neg = true then !r else r)) H
theorem held_of {pins : List (Addr × Obj)} {σ : L2.St} {H : Hp} {s : Shared} {a : Addr} {L : Keyed} (I : Inv X pins σ H s) (here : H a = some (SetTx X.prog X.w a L)) (txt : ∀ p ∈ L, SqT X.K H p.1 (p.2.map V.str)) : ∃ es ep t, Held X.prog X.w s.heap a L es ep t := by
  obtain ⟨es, ep, t, h1, h2, h3, h4, h5, h6, h7⟩ := ((I.hok a _ here).1 : Held0 X.prog X.w s.heap a L)
  exact ⟨es, ep, t, h1, h2, h3, h4, fun p hp => tx_of I (txt p hp), h5, h6, h7⟩
theorem op_eqTx (hu : X.A.units + 64 < cLine) : OpR X (compareOp .Eq) (rEqTx X.K X.prog X.w false) := by
  intro pins s σ H x y v u Q I rx ry h
  obtain ⟨a, b, L, M, rfl, rfl, h1, h2, t1, t2, q⟩ := h
  cases rx
  cases ry
  obtain ⟨_, _, _, R⟩ := held_of I h1 t1
  obtain ⟨_, _, _, R2⟩ := held_of I h2 t2
  exact (cmp_txsets R R2 (by omega)).1 fun d r hr => ⟨.bl r, H, Inv.drew I d, rfl, q r hr⟩
theorem op_neTx (hu : X.A.units + 64 < cLine) : OpR X (compareOp .NotEq) (rEqTx X.K X.prog X.w true) := by
  intro pins s σ H x y v u Q I rx ry h
  obtain ⟨a, b, L, M, rfl, rfl, h1, h2, t1, t2, q⟩ := h
  cases rx
  cases ry
  obtain ⟨_, _, _, R⟩ := held_of I h1 t1
  obtain ⟨_, _, _, R2⟩ := held_of I h2 t2
  exact (cmp_txsets R R2 (by omega)).2 fun d r hr => ⟨.bl (!r), H, Inv.drew I d, rfl, q r hr⟩
end
end Dl

namespace Dl
open PySem L2
/-! ### the own errors: class C, its __init__ at fI, its one field f -/
section
variable {P : Program} {w : World} {K : PySem.W.Frag} {mg : Str → Option Value} {base : Heap}
end
/-! ### InvalidNote: two fields -/
structure ErrN (K : PySem.W.Frag) (mg : Str → Option Value) (C fI : Addr) : Prop where
  oex : OexC K C
  gC : mg "InvalidNote" = some (.ref C)
  iC : PySem.W.findIn K (.ref C) "__init__" = some (some (.ref fI))
  tI : PySem.W.typeIn K (.ref fI) = some (.type "function")
  noB : PySem.W.findIn K (.ref C) "before" = some none
  noA : PySem.W.findIn K (.ref C) "after" = some none
def spEN (K : PySem.W.Frag) (C : Addr) : Sp := fun vs H Q _ => ∃ (a : Addr) (b v : V), vs = [.ref a, b, v] ∧ H a = some (exo a C none) ∧
  ∀ dx H', H dx = none → dx ≠ a → H' a = some (exo a C (some dx)) → H' dx = some (exd dx [("after", v), ("before", b)]) → (∀ c o, c ≠ a → H c = some o → H' c = some o) → Q .non H'
def NoteX (P : Program) (w : World) (K : PySem.W.Frag) (mg : Str → Option Value) (base : Heap) (C : Addr) : Prop :=
  ∃ fI fd, ErrN K mg C fI ∧ Binds K fd ["self", "before", "after"] [] ∧ FnOk P w K mg base CX0 1 fI fd ["self", "before", "after"] (spEN K C)
theorem scNote : FnScope ["self", "before", "after"] ["self", "before", "after"] (defScope sInvalidNoteInit) := ⟨rfl, rfl, rfl, by decide +kernel, rfl, by decide +kernel, by decide +kernel⟩
section
variable {P : Program} {w : World} {K : PySem.W.Frag} {mg : Str → Option Value} {base : Heap}
theorem ok_enote {C fI : Addr} {fd : FuncData} (F : Fun K "__init__" "InvalidNote.__init__" sInvalidNoteInit fI fd) (T : ErrN K mg C fI) : FnOk P w K mg base CX0 1 fI fd ["self", "before", "after"] (spEN K C) := by
  refine F.ok scNote (fun vs H Q E h => ?_) (fun cdv A outer s H vs Q E hr h => ?_)
  · obtain ⟨b, n, v, rfl, _⟩ := h
    rfl
  · obtain ⟨a, b, v, rfl, ha, k⟩ := h
    refine ⟨_, pss_cons (ps_ost (pv 0) (pv 1)) (pss_one (ps_ost (pv 0) (pv 2))), ?_⟩
    refine ⟨_, rfl, _, rfl, a, C, rfl, T.oex, T.noB, .inl ⟨ha, fun dx h1 h2 => ?_⟩⟩
    refine ⟨_, rfl, _, rfl, a, C, rfl, T.oex, T.noA, .inr ⟨dx, [("before", b)], upd_same, by rw [upd_ne h2, upd_same], by simp, ?_⟩⟩
    refine k dx _ h1 h2 ?_ upd_same fun c o n e => ?_
    · rw [upd_ne (fun q => h2 q.symm), upd_same]
    · rw [upd_ne (ne_of_none e h1), upd_ne n, upd_ne (ne_of_none e h1)]
      exact e
end
/-- the way out of raise InvalidNote(b, v) -/
theorem raise_endN {C : Addr} {K : PySem.W.Frag} {H : Hp} {b v : V} {Q : XK} (q : ∀ d H', Same H H' → H d = none → H' d = some (.xd [("after", v), ("before", b)]) → Q (.ref C) (some d) H') :
    ([b, v] : List V).length ≤ 1000 ∧ ∀ a, H a = none → spEN K C (.ref a :: ([b, v] ++ [])) (upd H a (exo a C none))
      (fun u H2 => u = .non ∧ ∃ (d : Addr) (fs : List (Str × V)), H2 a = some (exo a C (some d)) ∧ H2 d = some (exd d fs) ∧ H d = none ∧ Q (.ref C) (some d) (upd (del H2 a) d (.xd fs))) (fun _ _ _ => False) := by
  refine ⟨by simp, fun a ha => ⟨a, b, v, rfl, upd_same, fun dx H' hx ne e1 e2 keep => ?_⟩⟩
  rw [upd_ne ne] at hx
  refine ⟨rfl, dx, _, e1, e2, hx, q dx _ (fun c o e => ?_) hx upd_same⟩
  have nb : c ≠ dx := ne_of_none e hx
  have na : c ≠ a := ne_of_none e ha
  rw [upd_ne nb, del_ne na]
  exact keep c o na (by rw [upd_ne na]; exact e)
end Dl

namespace Dl
open PySem L2
/-- InvalidNote leaves -/
def OutN (C : Addr) (b v : V) (H : Hp) (E : XK) : Prop := ∀ d H', Same H H' → H d = none → H' d = some (.xd [("after", v), ("before", b)]) → E (.ref C) (some d) H'
theorem OutN.of {C : Addr} {b v : V} {H H1 : Hp} {E : XK} (s : Same H H1) (h : OutN C b v H E) : OutN C b v H1 E := fun d H' s' n e => h d H' (s.trans s') (s.free n) e
theorem OutN.imp {C : Addr} {b v : V} {H : Hp} {E E' : XK} (i : ∀ c d H', E c d H' → E' c d H') (h : OutN C b v H E) : OutN C b v H E' := fun d H' s' n e => i _ _ _ (h d H' s' n e)
section
variable {P : Program} {w : World} {K : PySem.W.Frag} {mg : Str → Option Value} {base : Heap} {CI : Addr}
end
def spCheckName1 (CI : Addr) : Sp := fun vs H Q E => ∃ v : V, vs = [v] ∧ NmOk H v ∧ (∀ H', Same H H' → isNm v = true → Q .non H') ∧ (isNm v = false → Out1 CI "name" v H E)
theorem check1 {P : Program} {w : World} {K : PySem.W.Frag} {mg : Str → Option Value} {base : Heap} {C : Cs} {k : Nat} {f : Addr} {fd : FuncData} (F : FnOk P w K mg base (L2.CX P w) k f fd ["name"] (spCheckName C)) : FnOk P w K mg base (L2.CX P w) k f fd ["name"] (spCheckName1 C.inv) := F
end Dl

namespace Dl
open PySem PySem.Spec PyProof.Rows L2
/-! ### Notes(*pairs) -/
/-- a pair as it is passed -/
structure PairIn where
  t : Addr
  b : V
  a : V
structure PairOk (K : PySem.W.Frag) (H : Hp) (r : PairIn) : Prop where
  pair : SqT K H r.t [r.b, r.a]
  nb : NmOk H r.b
  na : NmOk H r.a
theorem PairOk.of {K : PySem.W.Frag} {H H' : Hp} {r : PairIn} (s : Same H H') (h : PairOk K H r) : PairOk K H' r := ⟨Same.tup s h.pair, h.nb.of s, h.na.of s⟩
inductive NErr where
  | inv (v : V)
  | note (b a : V)
def PairIn.dat (r : PairIn) : V × V := (r.b, r.a)
def pRefs (rs : List PairIn) : List V := rs.map fun r => V.ref r.t
def pKeys (ps : List (V × V)) : List (List Str) := ps.map fun p => [strOf p.1, strOf p.2]
/-- what the check in order finds -/
def chkPs : List (V × V) → Option NErr
  | [] => none
  | (b, a) :: r => if isNm b = false then some (.inv b) else if isNm a = false then some (.inv a) else if b = a then some (.note b a) else chkPs r
def OutF (CI CE : Addr) (H : Hp) (E : XK) : NErr → Prop
  | .inv v => Out1 CI "name" v H E
  | .note b a => OutN CE b a H E
theorem OutF.of {CI CE : Addr} {H H1 : Hp} {E : XK} {e : NErr} (s : Same H H1) (h : OutF CI CE H E e) : OutF CI CE H1 E e := by
  cases e with
  | inv v => exact Out1.of s h
  | note b a => exact OutN.of s h
/-- the object's parts: sorted, each once -/
structure NotesAt (K : PySem.W.Frag) (CN : Addr) (H : Hp) (p : Addr) (ks : List (List Str)) : Prop where
  ex : ∃ (dx tp : Addr) (L : Keyed), H p = some (.ins CN dx [("pairs", .ref tp)]) ∧ H tp = some (.tup (L.map fun q => V.ref q.1)) ∧ L.map (·.2) = ks ∧ ∀ q ∈ L, SqT K H q.1 (q.2.map V.str)
theorem NotesAt.of {K : PySem.W.Frag} {CN : Addr} {H H' : Hp} {p : Addr} {ks : List (List Str)} (s : Same H H') (h : NotesAt K CN H p ks) : NotesAt K CN H' p ks := by
  obtain ⟨dx, tp, L, h1, h2, h3, h4⟩ := h.ex
  exact ⟨dx, tp, L, s _ _ h1, s _ _ h2, h3, fun q hq => Same.tup s (h4 q hq)⟩
structure TxtNotes (K : PySem.W.Frag) (mg : Str → Option Value) (CN : Addr) : Prop where
  cl : Cls K CN
  nP : NoAttr K CN "pairs"
  tup : mg "tuple" = none
  sor : mg "sorted" = none
  set_ : mg "set" = none
def spNotes (K : PySem.W.Frag) (CN CI CE : Addr) : Sp := fun vs H Q E => ∃ (H0 : Hp) (p dx tp : Addr) (rs : List PairIn), vs = [.ref p, .ref tp] ∧ Same H0 H ∧ H0 p = none ∧ H p = some (.ins CN dx []) ∧ SqT K H tp (pRefs rs) ∧ tp ≠ p ∧ (∀ r ∈ rs, PairOk K H0 r) ∧ rs.length < 64 ∧
  (chkPs (rs.map PairIn.dat) = none → ∀ H', Same H0 H' → NotesAt K CN H' p (normK (pKeys (rs.map PairIn.dat))) → Q .non H') ∧ ∀ e, chkPs (rs.map PairIn.dat) = some e → OutF CI CE H0 E e
theorem chkPs_strs : ∀ {ps : List (V × V)}, chkPs ps = none → ∀ p ∈ ps, p.1 = .str (strOf p.1) ∧ p.2 = .str (strOf p.2)
  | [], _, _, h => absurd h (by simp)
  | (b, a) :: r, e, p, h => by
    unfold chkPs at e
    by_cases h1 : isNm b = false
    · rw [if_pos h1] at e; cases e
    rw [if_neg h1] at e
    by_cases h2 : isNm a = false
    · rw [if_pos h2] at e; cases e
    rw [if_neg h2] at e
    by_cases h3 : b = a
    · rw [if_pos h3] at e; cases e
    rw [if_neg h3] at e
    rcases List.mem_cons.mp h with rfl | h
    · obtain ⟨z, rfl, _⟩ := isNm_str (by simpa using h1 : isNm b = true)
      obtain ⟨y, rfl, _⟩ := isNm_str (by simpa using h2 : isNm a = true)
      exact ⟨rfl, rfl⟩
    · exact chkPs_strs e p h
theorem scNotes : FnScope ["self", "pairs", "before", "after"] ["self", "pairs"] (defScope sNotesInit) := ⟨rfl, rfl, rfl, by decide +kernel, rfl, by decide +kernel, by decide +kernel⟩
section
variable {P : Program} {w : World} {K : PySem.W.Frag} {mg : Str → Option Value} {base : Heap} {CN CI CE : Addr}
theorem ok_notes {f : Addr} {fd : FuncData} (F : Fun K "__init__" "Notes.__init__" sNotesInit f fd) (T : TxtNotes K mg CN) (gN : Dfn P w K mg base (L2.CX P w) 3 "check_name" ["name"] (spCheckName1 CI)) (xE : NoteX P w K mg base CE) :
    FnR P w K mg base (L2.CX P w) 6 f (fun vs H Q E => ∃ ws rest, vs = ws ++ rest ∧ ws.length = 1 ∧ rest.length ≤ sizeLine ∧ ∀ p, H p = Option.none → spNotes K CN CI CE (ws ++ [V.ref p]) (upd H p (.tup rest)) Q E) := by
  obtain ⟨oc, od, kV, doc, pm, an, cdv, ct, osl, rfl, lk, hcd⟩ := F.ex
  obtain ⟨fN, dN, mN, kN, bN, GN⟩ := gN
  obtain ⟨fI, dI, TI, bI, GI⟩ := xE
  refine StX.fn_star (k := 5) (ps := ["self"]) (pv := "pairs") lk hcd scNotes StX.cxUp (StX.bind_star1 (B := fun us => bindArgs _ ⟨us, []⟩) (fun _ => by rfl) (fun _ _ _ => by rfl)) (fun A outer s H vs Q E hr h => ?_)
  obtain ⟨H0, p, dx, tp, rs, rfl, s0, hp0, hp, htp, ntp, ok, few, k, kx⟩ := h
  have hr3 : Room 3 _ := hr.mono (by decide)
  have hr2 : Room 2 _ := hr.mono (by decide)
  have r64 := Nat.lt_of_succ_lt (room65 hr)
  refine ⟨_, pss_cons (ps_for (passes_of rfl) rfl (pi_tup (pv 1)) (pg_tup rfl (pgs_cons (pg_name (i := 2) scNotes.nd rfl (Or.inl rfl)) (pgs_cons (pg_name (i := 3) scNotes.nd rfl (Or.inl rfl)) pgs_nil)))
      (pss_cons (ps_expr (pe_call GN hr3 (by rfl) mN kN bN .nil (passes_call (takes_of rfl rfl rfl rfl) (fun _ _ _ _ h => h)) (pa_cons (pv 2) pa_nil)))
      (pss_cons (ps_expr (pe_call GN hr3 (by rfl) mN kN bN .nil (passes_call (takes_of rfl rfl rfl rfl) (fun _ _ _ _ h => h)) (pa_cons (pv 3) pa_nil)))
      (pss_one (ps_if (pt_cmpR op_eq (pv 2) (pv 3) (nomark _))
        (pss_one (ps_raise rfl (takes_of rfl rfl rfl rfl) (pmk_oex TI.oex TI.iC TI.tI GI hr2 bI .nil pass0 (by rfl) TI.gC (pa_cons (pv 2) (pa_cons (pv 3) pa_nil))))) pss_nil)))))
    (pss_one (ps_fld (pv 0) (pe_callTy call_tuple_of (by rfl) T.tup (by decide +kernel) (pa_cons (pe_callB (cr_sortTx rfl r64) (by rfl) T.sor (by decide +kernel) (pa_cons (pe_callTy (cr_setTx rfl r64) (by rfl) T.set_ (by decide +kernel) (pa_cons (pv 1) pa_nil)) pa_nil)) pa_nil)) rfl)), ?_⟩
  have keep0 : ∀ {Hx : Hp} {o : HO}, Same H0 Hx → Same H0 (upd Hx p o) := fun {Hx o} s b u e => by
    rw [upd_ne (ne_of_none e hp0)]; exact s _ _ e
  refine ⟨_, rfl, tp, rfl, ⟨_, htp⟩, for_it (walk_tup (K := K) (a := tp) (xs := pRefs rs)) (fun i σ H' => ∃ (x y : Option V), σ = [some (.ref p), some (.ref tp), x, y] ∧ Same H H' ∧ chkPs ((rs.map PairIn.dat).drop i) = chkPs (rs.map PairIn.dat)) ⟨none, none, rfl, Same.refl _, rfl⟩ (fun i σ H' _ ⟨_, _, _, s, _⟩ => Same.tup s htp) ?_ ?_⟩
  · rintro i v σ H2 H3 hi ⟨x, y, rfl, s2, hc⟩ ⟨rfl, hv⟩
    have hi' : i < rs.length := by unfold pRefs at hi; rw [List.length_map] at hi; exact hi
    have hv2 : (pRefs rs)[i]? = some v := hv
    unfold pRefs at hv2
    rw [List.getElem?_map, List.getElem?_eq_getElem hi'] at hv2
    obtain rfl := Option.some.inj hv2
    have R := ok _ (List.getElem_mem hi')
    have s02 := s0.trans s2
    have R2 := R.of s02
    rw [List.drop_eq_getElem_cons (by rw [List.length_map]; exact hi'), List.getElem_map] at hc
    generalize rs[i] = r at *
    have hc1 : (if isNm r.b = false then some (NErr.inv r.b) else if isNm r.a = false then some (.inv r.a) else if r.b = r.a then some (.note r.b r.a) else chkPs ((rs.map PairIn.dat).drop (i + 1))) = chkPs (rs.map PairIn.dat) := hc
    clear hc
    refine ⟨r.t, _, rfl, R2.pair, rfl, _, _, rfl, _, _, rfl, rfl, ?_⟩
    refine ⟨_, rfl, r.b, rfl, R2.nb, fun H4 s4 hb => ?_, fun hb => Out1.of s02 (kx (.inv r.b) (by rw [← hc1, if_pos hb]))⟩
    rw [if_neg (by rw [hb]; decide)] at hc1
    refine ⟨_, rfl, r.a, rfl, R2.na.of s4, fun H5 s5 ha => ?_, fun ha => Out1.of (s02.trans s4) (kx (.inv r.a) (by rw [← hc1, if_pos ha]))⟩
    rw [if_neg (by rw [ha]; decide)] at hc1
    obtain ⟨z, ez, _⟩ := isNm_str hb
    obtain ⟨q, eq, _⟩ := isNm_str ha
    refine ⟨_, rfl, _, rfl, by rw [ez, eq]; rfl, _, rfl, ?_⟩
    by_cases same : r.b = r.a
    · refine iteY (decide_eq_true same) ?_
      exact ⟨_, rfl, _, rfl, raise_endN (OutN.of (s02.trans (s4.trans s5)) (kx (.note r.b r.a) (by rw [← hc1, if_pos same])))⟩
    · refine iteZ (decide_eq_false same) ?_
      exact ⟨_, _, rfl, s2.trans (s4.trans s5), by rw [if_neg same] at hc1; exact hc1⟩
  · rintro σ H2 ⟨x, y, rfl, s2, hc⟩
    have hn : chkPs (rs.map PairIn.dat) = none := by
      rw [← hc, List.drop_eq_nil_of_le (by unfold pRefs; simp)]
      rfl
    have stx := chkPs_strs hn
    let ks : Keyed := rs.map fun r => (r.t, [strOf r.b, strOf r.a])
    have kref : ks.map (fun q => V.ref q.1) = pRefs rs := by unfold pRefs; rw [List.map_map]; rfl
    have kkey : ks.map (·.2) = pKeys (rs.map PairIn.dat) := by unfold pKeys; rw [List.map_map, List.map_map]; rfl
    have klen : ks.length = rs.length := List.length_map _
    have s02 := s0.trans s2
    have ktxt : ∀ q ∈ ks, SqT K H2 q.1 (q.2.map V.str) := fun q hq => by
      obtain ⟨r, hr', rfl⟩ := List.mem_map.mp hq
      obtain ⟨e1, e2⟩ := stx r.dat (List.mem_map_of_mem hr')
      have g := ((ok r hr').of s02).pair
      have e1' : r.b = .str (strOf r.b) := e1
      have e2' : r.a = .str (strOf r.a) := e2
      rw [e1', e2'] at g
      exact g
    refine ⟨_, rfl, tp, ks, rfl, .inr (by rw [kref]; exact Same.tup s2 htp), ktxt, by rw [klen]; exact few, fun S L hS sub all once => ?_⟩
    dsimp only [cxOf]
    have u1 := Same.upd_new hS (o := SetTx P w S L)
    have ltxt : ∀ q ∈ L, SqT K (upd H2 S (SetTx P w S L)) q.1 (q.2.map V.str) := fun q hq => Same.tup u1 (ktxt q (sub q hq))
    refine ⟨S, L, rfl, upd_same, ltxt, fun q hq => ?_, fun L' l perm keys few' hl => ?_⟩
    · obtain ⟨r, _, e⟩ := List.mem_map.mp (sub q hq)
      rw [← e]
      exact List.cons_ne_nil _ _
    have u2 := u1.trans (Same.upd_new hl (o := .lst (L'.map fun q => V.ref q.1)))
    refine ⟨l, _, rfl, .inl ⟨SqL.of upd_same, fun t ht => ?_⟩⟩
    have u3 := u2.trans (Same.upd_new ht (o := .tup (L'.map fun q => V.ref q.1)))
    have et : upd (upd (upd H2 S (SetTx P w S L)) l (.lst (L'.map fun q => V.ref q.1))) t (.tup (L'.map fun q => V.ref q.1)) t = some (.tup (L'.map fun q => V.ref q.1)) := upd_same
    have nt : p ≠ t := ne_of_none (((s2.trans u1).trans (Same.upd_new hl (o := .lst (L'.map fun q => V.ref q.1)))) _ _ hp) ht
    have l'txt : ∀ q ∈ L', SqT K (upd (upd (upd H2 S (SetTx P w S L)) l (.lst (L'.map fun q => V.ref q.1))) t (.tup (L'.map fun q => V.ref q.1))) q.1 (q.2.map V.str) := fun q hq => Same.tup u3 (ktxt q (sub q (perm.mem_iff.mp hq)))
    have hp3 := (s2.trans u3) _ _ hp
    have s03 := s02.trans u3
    generalize upd (upd (upd H2 S (SetTx P w S L)) l (.lst (L'.map fun q => V.ref q.1))) t (.tup (L'.map fun q => V.ref q.1)) = H3 at *
    refine ⟨_, rfl, p, CN, dx, [], rfl, hp3, T.cl, T.nP, by decide, ?_⟩
    refine k hn _ (keep0 s03) ⟨dx, t, L', by rw [upd_same]; rfl, by rw [upd_ne nt.symm]; exact et, ?_, fun q hq => ?_⟩
    · rw [keys, ← kkey]
      exact norm_of once (fun z hz => by
        obtain ⟨q, hq, rfl⟩ := List.mem_map.mp hz
        exact List.mem_map_of_mem (sub q hq)) fun z hz => by
        obtain ⟨q, hq, rfl⟩ := List.mem_map.mp hz
        exact all q hq
    · have hq1 : q ∈ ks := sub q (perm.mem_iff.mp hq)
      have hpn : ∀ o, H3 q.1 = some o → q.1 ≠ p ∨ True := fun _ _ => .inr trivial
      have g0 : SqT K H0 q.1 (q.2.map V.str) := by
        obtain ⟨r, hr', rfl⟩ := List.mem_map.mp hq1
        obtain ⟨e1, e2⟩ := stx r.dat (List.mem_map_of_mem hr')
        have g := (ok r hr').pair
        have e1' : r.b = .str (strOf r.b) := e1
        have e2' : r.a = .str (strOf r.a) := e2
        rw [e1', e2'] at g
        exact g
      exact Same.tup (keep0 s03) g0
end
end Dl

/-! Notes: the methods of the operators -/
namespace Dl
open PySem PySem.Spec PyProof.Rows L2
section
variable {X : Cx}
def rInT (K : PySem.W.Frag) (neg : Bool) : R2 := fun x y H Q => ∃ d ds, Dp K H x d ∧ Dp K H y (.tuple ds) ∧ SeqAt.shaped d = true ∧ SeqAt.shaped (.tuple ds) = true ∧ Q (.bl (if neg = true then !ds.any fun z => PyData.eqv z d else ds.any fun z => PyData.eqv z d)) H
theorem tup_can {ds : List PyData} (h : SeqAt.shaped (.tuple ds) = true) : PyData.canLayAll0 ds = true := by
  unfold SeqAt.shaped at h
  rw [Bool.and_eq_true, PyData.canLay0] at h
  exact h.1
theorem op_inT (hu : X.A.units + 65 < cLine) : OpR X (compareOp .In) (rInT X.K false) := by
  intro pins s σ H x y v u Q I rx ry h
  obtain ⟨d, ds, hd, he, sd, se, q⟩ := h
  obtain ⟨as, r1⟩ := Dp.reads I d x v hd rx
  obtain ⟨bs, r2⟩ := Dp.reads I (.tuple ds) y u he ry
  exact SeqAt.in_tuple_reads r2 r1 (tup_can se) (SeqAt.canLay_of_shaped sd) (room_in_shaped sd hu) ⟨.bl _, H, I, rfl, q⟩
theorem op_notInT (hu : X.A.units + 65 < cLine) : OpR X (compareOp .NotIn) (rInT X.K true) := by
  intro pins s σ H x y v u Q I rx ry h
  obtain ⟨d, ds, hd, he, sd, se, q⟩ := h
  obtain ⟨as, r1⟩ := Dp.reads I d x v hd rx
  obtain ⟨bs, r2⟩ := Dp.reads I (.tuple ds) y u he ry
  exact SeqAt.notIn_tuple_reads r2 r1 (tup_can se) (SeqAt.canLay_of_shaped sd) (room_in_shaped sd hu) ⟨.bl _, H, I, rfl, q⟩
end
/-! ### keys -/
structure GoodP (k : List Str) : Prop where
  ex : ∃ b a, k = [b, a] ∧ validN b = true ∧ validN a = true ∧ b ≠ a
def GoodK (ks : List (List Str)) : Prop := ∀ k ∈ ks, GoodP k
def k0 (k : List Str) : Str := k.getD 0 ""
def k1 (k : List Str) : Str := k.getD 1 ""
theorem GoodP.eq {k : List Str} (g : GoodP k) : k = [k0 k, k1 k] ∧ validN (k0 k) = true ∧ validN (k1 k) = true ∧ k0 k ≠ k1 k := by
  obtain ⟨b, a, rfl, h1, h2, h3⟩ := g.ex
  exact ⟨rfl, h1, h2, h3⟩
theorem GoodP.swap {k : List Str} (g : GoodP k) : GoodP [k1 k, k0 k] := by
  obtain ⟨_, h1, h2, h3⟩ := g.eq
  exact ⟨_, _, rfl, h2, h1, fun e => h3 e.symm⟩
def swapK (k : List Str) : List Str := [k1 k, k0 k]
theorem good_norm {ks : List (List Str)} (g : GoodK ks) : GoodK (normK ks) := fun k hk => g k (mem_norm.mp hk)
def rsOf (L : Keyed) : List PairIn := L.map fun q => ⟨q.1, .str (k0 q.2), .str (k1 q.2)⟩
theorem rs_refs (L : Keyed) : pRefs (rsOf L) = L.map fun q => V.ref q.1 := by
  unfold pRefs rsOf
  rw [List.map_map]
  rfl
theorem rs_len (L : Keyed) : (rsOf L).length = L.length := List.length_map ..
theorem rs_keys {L : Keyed} (g : GoodK (L.map (·.2))) : pKeys ((rsOf L).map PairIn.dat) = L.map (·.2) := by
  unfold pKeys rsOf
  rw [List.map_map, List.map_map]
  refine List.map_congr_left fun q hq => ?_
  have e := (g q.2 (List.mem_map_of_mem hq)).eq.1
  show [strOf (.str (k0 q.2)), strOf (.str (k1 q.2))] = q.2
  exact e.symm
theorem rs_chk : ∀ {L : Keyed}, GoodK (L.map (·.2)) → chkPs ((rsOf L).map PairIn.dat) = none
  | [], _ => rfl
  | q :: r, g => by
    obtain ⟨_, h1, h2, h3⟩ := (g q.2 (List.mem_map_of_mem (List.mem_cons_self ..))).eq
    have ih := rs_chk (L := r) fun k hk => g k (by rw [List.map_cons]; exact List.mem_cons_of_mem _ hk)
    show chkPs ((V.str (k0 q.2), V.str (k1 q.2)) :: (rsOf r).map PairIn.dat) = none
    unfold chkPs
    have e1 : isNm (.str (k0 q.2)) = true := h1
    have e2 : isNm (.str (k1 q.2)) = true := h2
    rw [if_neg (by rw [e1]; decide), if_neg (by rw [e2]; decide), if_neg (fun e => h3 (V.str.inj e))]
    exact ih
theorem rs_ok {K : PySem.W.Frag} {H : Hp} {L : Keyed} (g : GoodK (L.map (·.2))) (h : ∀ q ∈ L, SqT K H q.1 (q.2.map V.str)) : ∀ r ∈ rsOf L, PairOk K H r := fun r hr => by
  obtain ⟨q, hq, rfl⟩ := List.mem_map.mp hr
  obtain ⟨e, h1, h2, _⟩ := (g q.2 (List.mem_map_of_mem hq)).eq
  have s := h q hq
  rw [e] at s
  exact ⟨s, Nat.le_of_lt (small1000 (by have := (valid_small h1).1; omega)), Nat.le_of_lt (small1000 (by have := (valid_small h2).1; omega))⟩
/-! ### keys as data -/
theorem tx_eqv (k l : List Str) : PyData.eqv (txData k) (txData l) = decide (k = l) := by
  unfold txData
  rw [PyData.eqv, eqvAll_strs]
theorem tx_any (ks : List (List Str)) (k : List Str) : (ks.map txData).any (fun z => PyData.eqv z (txData k)) = decide (k ∈ ks) := by
  rw [List.any_map]
  induction ks with
  | nil => simp
  | cons a r ih =>
    rw [List.any_cons, ih]
    show (PyData.eqv (txData a) (txData k) || decide (k ∈ r)) = _
    rw [tx_eqv]
    by_cases e : a = k
    · subst e; simp
    · have e2 : ¬ k = a := fun q => e q.symm
      simp [e, e2]
theorem tx_can {k : List Str} (g : GoodP k) : PyData.canLay0 (txData k) = true := by
  obtain ⟨b, a, rfl, h1, h2, _⟩ := g.ex
  have c1 := valid_can h1
  have c2 := valid_can h2
  unfold canS at c1 c2
  unfold txData
  simp only [PyData.canLay0] at c1 c2
  simp only [List.map_cons, List.map_nil, PyData.canLay0, PyData.canLayAll0, c1, c2, Bool.and_true]
theorem tx_dep (k : List Str) : (txData k).depth ≤ 1 := by
  unfold txData
  rw [PyData.depth, depthAll_strs]
  omega
theorem tx_canAll : ∀ {ks : List (List Str)}, GoodK ks → PyData.canLayAll0 (ks.map txData) = true
  | [], _ => by simp [PyData.canLayAll0]
  | k :: r, g => by rw [List.map_cons, PyData.canLayAll0, tx_can (g k (List.mem_cons_self ..)), tx_canAll fun z hz => g z (List.mem_cons_of_mem _ hz)]; rfl
theorem tx_depAll : ∀ ks : List (List Str), PyData.depthAll (ks.map txData) ≤ 1
  | [] => by simp [PyData.depthAll]
  | k :: r => by rw [List.map_cons, PyData.depthAll]; have := tx_dep k; have := tx_depAll r; omega
theorem tx_shaped {k : List Str} (g : GoodP k) : SeqAt.shaped (txData k) = true := by
  unfold SeqAt.shaped
  rw [tx_can g, Bool.true_and]
  exact decide_eq_true (by have := tx_dep k; omega)
theorem txs_shaped {ks : List (List Str)} (g : GoodK ks) : SeqAt.shaped (.tuple (ks.map txData)) = true ∧ SeqAt.shaped (.list (ks.map txData)) = true := by
  have d := tx_depAll ks
  unfold SeqAt.shaped
  rw [PyData.canLay0, PyData.canLay0, tx_canAll g, Bool.true_and, PyData.depth, PyData.depth]
  exact ⟨decide_eq_true (by omega), decide_eq_true (by omega)⟩
theorem tx_dp {K : PySem.W.Frag} {H : Hp} {a : Addr} {k : List Str} (h : SqT K H a (k.map V.str)) : Dp K H (.ref a) (txData k) := .tup h (dpAll_strs k)
theorem txs_dp {K : PySem.W.Frag} {H : Hp} : ∀ {L : Keyed}, (∀ q ∈ L, SqT K H q.1 (q.2.map V.str)) → DpAll K H (L.map fun q => V.ref q.1) ((L.map (·.2)).map txData)
  | [], _ => .nil
  | q :: r, h => .cons (tx_dp (h q (List.mem_cons_self ..))) (txs_dp fun z hz => h z (List.mem_cons_of_mem _ hz))
theorem txs_eqv (ks ls : List (List Str)) : PyData.eqv (.tuple (ks.map txData)) (.tuple (ls.map txData)) = decide (ks = ls) ∧ PyData.eqv (.list (ks.map txData)) (.list (ls.map txData)) = decide (ks = ls) := by
  have all : ∀ ks ls : List (List Str), PyData.eqvAll (ks.map txData) (ls.map txData) = decide (ks = ls) := by
    intro ks
    induction ks with
    | nil => intro ls; cases ls <;> simp [PyData.eqvAll]
    | cons k r ih =>
      intro ls
      cases ls with
      | nil => simp [PyData.eqvAll]
      | cons l q =>
        rw [List.map_cons, List.map_cons, PyData.eqvAll, ih, tx_eqv]
        by_cases h1 : k = l <;> by_cases h2 : r = q <;> simp [h1, h2]
  rw [PyData.eqv, PyData.eqv, all]
  exact ⟨rfl, rfl⟩
end Dl

namespace Dl
open PySem PySem.Spec PyProof.Rows L2
def starSp (n : Nat) (sp : Sp) : Sp := fun vs H Q E => ∃ ws rest, vs = ws ++ rest ∧ ws.length = n ∧ rest.length ≤ sizeLine ∧ ∀ p, H p = Option.none → sp (ws ++ [V.ref p]) (upd H p (.tup rest)) Q E
theorem note_any {K : PySem.W.Frag} {CN CI CE : Addr} {H : Hp} {rs : List PairIn} {Q : Hp → Prop} {E : XK} {x dx : Addr} (nx : H x = none) (ndx : H dx = none) (nex : dx ≠ x) (ok : ∀ r ∈ rs, PairOk K H r) (few : rs.length < 64)
    (k : chkPs (rs.map PairIn.dat) = none → ∀ H8, Same H H8 → NotesAt K CN H8 x (normK (pKeys (rs.map PairIn.dat))) → Q H8) (kx : ∀ e, chkPs (rs.map PairIn.dat) = some e → OutF CI CE H E e) :
    starSp 1 (spNotes K CN CI CE) (.ref x :: pRefs rs) (upd (upd H dx (.own x)) x (.ins CN dx [])) (fun v H2 => v = .non ∧ Q H2) E := by
  refine ⟨[.ref x], pRefs rs, rfl, rfl, by unfold pRefs; rw [List.length_map]; exact Nat.le_of_lt (small1000 (by omega)), fun p hp => ?_⟩
  have npx : x ≠ p := ne_of_none upd_same hp
  have sm : Same H (upd (upd H dx (.own x)) x (.ins CN dx [])) := fun c o e => by
    rw [upd_ne (ne_of_none e nx), upd_ne (ne_of_none e ndx)]; exact e
  exact ⟨H, x, dx, p, rs, rfl, sm.trans (Same.upd_new hp), nx, by rw [upd_ne npx, upd_same], SqT.of upd_same, npx.symm, ok, few, fun hn H' s' at_ => ⟨rfl, k hn H' s' at_⟩, kx⟩
/-- the same from keyed pairs -/
theorem note_keyed {K : PySem.W.Frag} {CN CI CE : Addr} {H : Hp} {L : Keyed} {Q : Hp → Prop} {E : XK} {x dx : Addr} (nx : H x = none) (ndx : H dx = none) (nex : dx ≠ x) (g : GoodK (L.map (·.2))) (txt : ∀ q ∈ L, SqT K H q.1 (q.2.map V.str)) (few : L.length < 64)
    (k : ∀ H8, Same H H8 → NotesAt K CN H8 x (normK (L.map (·.2))) → Q H8) :
    starSp 1 (spNotes K CN CI CE) (.ref x :: (L.map fun q => V.ref q.1)) (upd (upd H dx (.own x)) x (.ins CN dx [])) (fun v H2 => v = .non ∧ Q H2) E := by
  rw [← rs_refs]
  refine note_any nx ndx nex (rs_ok g txt) (by rw [rs_len]; exact few) (fun _ H8 s8 at_ => k H8 s8 ?_) (fun e he => by rw [rs_chk g] at he; cases he)
  rw [rs_keys g] at at_
  exact at_
structure NoteM (P : Program) (w : World) (K : PySem.W.Frag) (mg : Str → Option Value) (base : Heap) (CN CI CE : Addr) : Prop where
  cl : Cls K CN
  nP : NoAttr K CN "pairs"
  gN : mg "Notes" = some (.ref CN)
  init : ∃ fN, Mk K CN fN ∧ FnR P w K mg base (L2.CX P w) 6 fN (starSp 1 (spNotes K CN CI CE))
theorem pfN (v : V) : List.lookup ("pairs" : Str) [("pairs", v)] = some v := by rw [List.lookup_cons, beq_self_eq_true]
def spNAdd (K : PySem.W.Frag) (CN : Addr) : Sp := fun vs H Q _ => ∃ (p q : Addr) (ks ls : List (List Str)), vs = [.ref p, .ref q] ∧ NotesAt K CN H p ks ∧ NotesAt K CN H q ls ∧ GoodK ks ∧ GoodK ls ∧ ks.length + ls.length < 64 ∧
  ∀ H' r, Same H H' → H r = none → NotesAt K CN H' r (normK (ks ++ ls)) → Q (.ref r) H'
def spNSub (K : PySem.W.Frag) (CN : Addr) : Sp := fun vs H Q _ => ∃ (p q : Addr) (ks ls : List (List Str)), vs = [.ref p, .ref q] ∧ NotesAt K CN H p ks ∧ NotesAt K CN H q ls ∧ GoodK ks ∧ GoodK ls ∧ ks.length < 64 ∧
  ∀ H' r, Same H H' → H r = none → NotesAt K CN H' r (normK (ks.filter fun k => decide (k ∉ ls))) → Q (.ref r) H'
def spNNeg (K : PySem.W.Frag) (CN : Addr) : Sp := fun vs H Q _ => ∃ (p : Addr) (ks : List (List Str)), vs = [.ref p] ∧ NotesAt K CN H p ks ∧ GoodK ks ∧ ks.length < 64 ∧
  ∀ H' r, Same H H' → H r = none → NotesAt K CN H' r (normK (ks.map swapK)) → Q (.ref r) H'
def spNIn (K : PySem.W.Frag) (CN : Addr) : Sp := fun vs H Q _ => ∃ (p t : Addr) (ks : List (List Str)) (k : List Str), vs = [.ref p, .ref t] ∧ NotesAt K CN H p ks ∧ GoodK ks ∧ GoodP k ∧ SqT K H t (k.map V.str) ∧ Q (.bl (decide (k ∈ ks))) H
def spNLen (K : PySem.W.Frag) (CN : Addr) : Sp := fun vs H Q _ => ∃ (p : Addr) (ks : List (List Str)), vs = [.ref p] ∧ NotesAt K CN H p ks ∧ Q (.int ((ks.length : Nat) : Int)) H
section
variable {P : Program} {w : World} {K : PySem.W.Frag} {mg : Str → Option Value} {base : Heap} {CN CI CE : Addr}
theorem scNAdd : FnScope ["self", "other", "pairs"] ["self", "other"] (defScope sNotesAdd) := ⟨rfl, rfl, rfl, by decide +kernel, rfl, by decide +kernel, by decide +kernel⟩
theorem ok_nadd {f : Addr} {fd : FuncData} (F : Fun K "__add__" "Notes.__add__" sNotesAdd f fd) (T : NoteM P w K mg base CN CI CE) : FnOk P w K mg base CX0 8 f fd ["self", "other"] (spNAdd K CN) := by
  obtain ⟨fN, M, GM⟩ := T.init
  refine F.ok scNAdd (fun vs H Q E h => ?_) (fun cdv A outer s H vs Q E hr h => ?_)
  · obtain ⟨p, q, ks, ls, rfl, _⟩ := h
    rfl
  · obtain ⟨p, q, ks, ls, rfl, hN1, hN2, g1, g2, few, k⟩ := h
    obtain ⟨dx, tp, L, hp, htp, e1, hL⟩ := hN1.ex
    obtain ⟨dy, tq, L', hq, htq, e2, hL'⟩ := hN2.ex
    have hr7 : Room 7 _ := hr
    refine ⟨_, pss_cons (ps_set (i := 2) scNAdd.nd rfl (Or.inl rfl) (pe_op op_catA (pe_fld (pv 0) rfl) (pe_fld (pv 1) rfl))) (pss_one (ps_ret (pe_makeR1 M GM hr7 (by rfl) T.gN passL (pv 2)))), ?_⟩
    have l1 : L.length = ks.length := by rw [← e1, List.length_map]
    have l2 : L'.length = ls.length := by rw [← e2, List.length_map]
    have both : (L ++ L').map (·.2) = ks ++ ls := by rw [List.map_append, e1, e2]
    have fin : ∀ (t : Addr) (H1 : Hp), Same H H1 → SqT K H1 t ((L ++ L').map fun q => V.ref q.1) → ∃ a xs, V.ref t = .ref a ∧ (SqT K H1 a xs ∨ SqL K H1 a xs) ∧ ∀ x dx, H1 x = none → H1 dx = none → dx ≠ x →
        starSp 1 (spNotes K CN CI CE) (.ref x :: xs) (upd (upd H1 dx (.own x)) x (.ins CN dx [])) (fun v H2 => v = .non ∧ Q (.ref x) H2) E0 := by
      intro t H1 s1 st
      refine ⟨t, _, rfl, .inl st, fun x dx nx ndx nex => note_keyed nx ndx nex (by rw [both]; exact fun z hz => (List.mem_append.mp hz).elim (g1 z) (g2 z)) (fun z hz => ?_) (by rw [List.length_append]; omega) fun H8 s8 at_ => ?_⟩
      · rcases List.mem_append.mp hz with h | h
        · exact Same.tup s1 (hL z h)
        · exact Same.tup s1 (hL' z h)
      · rw [both] at at_
        exact k H8 x (s1.trans s8) (s1.free nx) at_
    refine ⟨_, rfl, p, CN, dx, _, _, rfl, hp, T.cl, T.nP, pfN _, _, rfl, q, CN, dy, _, _, rfl, hq, T.cl, T.nP, pfN _, tp, tq, _, _, rfl, rfl, SqT.of htp, SqT.of htq, Nat.le_of_lt (small1000 (by rw [List.length_map, List.length_map]; omega)), fun e => ?_, fun _ e => ?_, fun _ _ t ht => ?_⟩
    · have e0 : L = [] := List.map_eq_nil_iff.mp e
      exact ⟨_, rfl, fin tq H (Same.refl _) (by rw [e0, List.nil_append]; exact SqT.of htq)⟩
    · have e0 : L' = [] := List.map_eq_nil_iff.mp e
      exact ⟨_, rfl, fin tp H (Same.refl _) (by rw [e0, List.append_nil]; exact SqT.of htp)⟩
    · exact ⟨_, rfl, fin t _ (Same.upd_new ht) (by rw [List.map_append]; exact SqT.of upd_same)⟩
theorem scNIn : FnScope ["self", "x"] ["self", "x"] (defScope sNotesContains) := ⟨rfl, rfl, rfl, by decide +kernel, rfl, by decide +kernel, by decide +kernel⟩
theorem ok_nin {f : Addr} {fd : FuncData} (F : Fun K "__contains__" "Notes.__contains__" sNotesContains f fd) (T : NoteM P w K mg base CN CI CE) : FnOk P w K mg base CX0 1 f fd ["self", "x"] (spNIn K CN) := by
  refine F.ok scNIn (fun vs H Q E h => ?_) (fun cdv A outer s H vs Q E hr h => ?_)
  · obtain ⟨p, t, ks, kk, rfl, _⟩ := h
    rfl
  · obtain ⟨p, t, ks, kk, rfl, hN, g, gk, ht, k⟩ := h
    obtain ⟨dx, tp, L, hp, htp, e1, hL⟩ := hN.ex
    have r65 := room65 hr
    refine ⟨_, pss_one (ps_ret (pe_cmpR (op_inT r65) (pv 1) (pe_fld (pv 0) rfl) (by rfl))), ?_⟩
    refine ⟨_, rfl, _, rfl, p, CN, dx, _, _, rfl, hp, T.cl, T.nP, pfN _, txData kk, ks.map txData, tx_dp ht, .tup (SqT.of htp) (by rw [← e1]; exact txs_dp hL), tx_shaped gk, (txs_shaped g).1, ?_⟩
    rw [tx_any]
    exact k
theorem scNLen : FnScope ["self"] ["self"] (defScope sNotesLen) := ⟨rfl, rfl, rfl, by decide +kernel, rfl, by decide +kernel, by decide +kernel⟩
theorem ok_nlen {f : Addr} {fd : FuncData} (F : Fun K "__len__" "Notes.__len__" sNotesLen f fd) (T : NoteM P w K mg base CN CI CE) (ml : mg "len" = none) : FnOk P w K mg base CX0 1 f fd ["self"] (spNLen K CN) := by
  refine F.ok scNLen (fun vs H Q E h => ?_) (fun cdv A outer s H vs Q E hr h => ?_)
  · obtain ⟨p, ks, rfl, _⟩ := h
    rfl
  · obtain ⟨p, ks, rfl, hN, k⟩ := h
    obtain ⟨dx, tp, L, hp, htp, e1, hL⟩ := hN.ex
    refine ⟨_, pss_one (ps_ret (pe_callB call_len_seq (by rfl) ml PySem.boot_len (pa_cons (pe_fld (pv 0) rfl) pa_nil))), ?_⟩
    refine ⟨_, rfl, p, CN, dx, _, _, rfl, hp, T.cl, T.nP, pfN _, tp, _, rfl, .inr (SqT.of htp), ?_⟩
    rw [List.length_map, show L.length = ks.length by rw [← e1, List.length_map]]
    exact k
end
end Dl

namespace Dl
open PySem PySem.Spec PyProof.Rows L2
/-- what == answers: for another type, for two notes -/
def spNEq (K : PySem.W.Frag) (CN : Addr) : Sp := fun vs H Q _ => (∃ (a : Addr) (y : V) (t : Value), vs = [.ref a, y] ∧ TyOf K H y t ∧ PySem.W.kitOne K t (.ref CN) = some false ∧ Q (.bl false) H) ∨
  ∃ (a b : Addr) (ks ls : List (List Str)), vs = [.ref a, .ref b] ∧ NotesAt K CN H a ks ∧ NotesAt K CN H b ls ∧ GoodK ks ∧ GoodK ls ∧ Q (.bl (decide (ks = ls))) H
def noteText (k : List Str) : Str := ((Str.empty ++ k0 k) ++ (" < " : Str)) ++ k1 k
def notesText (ks : List (List Str)) : Str := Txt.join ", " (ks.map noteText)
def spNStr (K : PySem.W.Frag) (CN : Addr) : Sp := fun vs H Q _ => ∃ (p : Addr) (ks : List (List Str)), vs = [.ref p] ∧ NotesAt K CN H p ks ∧ GoodK ks ∧ ks.length < 64 ∧ ∀ H', Same H H' → Q (.str (notesText ks)) H'
theorem kf_at {L : Keyed} {i : Nat} {v : V} (h : (L.map fun q => V.ref q.1)[i]? = some v) : ∃ q, L[i]? = some q ∧ q ∈ L ∧ v = .ref q.1 := by
  rw [List.getElem?_map] at h
  cases e : L[i]? with
  | none => rw [e] at h; cases h
  | some q => rw [e] at h; exact ⟨q, rfl, List.mem_of_getElem? e, (Option.some.inj h).symm⟩
theorem take_next {α : Type} {l : List α} {i : Nat} {x : α} (h : l[i]? = some x) : l.take (i + 1) = l.take i ++ [x] := by
  rw [List.take_succ, h]; rfl
section
variable {P : Program} {w : World} {K : PySem.W.Frag} {mg : Str → Option Value} {base : Heap} {CN CI CE : Addr}
theorem scNSub : FnScope ["self", "other", "pairs", "pair"] ["self", "other"] (defScope sNotesSub) := ⟨rfl, rfl, rfl, by decide +kernel, rfl, by decide +kernel, by decide +kernel⟩
theorem ok_nsub {f : Addr} {fd : FuncData} (F : Fun K "__sub__" "Notes.__sub__" sNotesSub f fd) (T : NoteM P w K mg base CN CI CE) : FnOk P w K mg base CX0 8 f fd ["self", "other"] (spNSub K CN) := by
  obtain ⟨fN, M, GM⟩ := T.init
  refine F.ok scNSub (fun vs H Q E h => ?_) (fun cdv A outer s H vs Q E hr h => ?_)
  · obtain ⟨p, q, ks, ls, rfl, _⟩ := h
    rfl
  · obtain ⟨p, q, ks, ls, rfl, hN1, hN2, g1, g2, few, k⟩ := h
    obtain ⟨dx, tp, L, hp, htp, e1, hL⟩ := hN1.ex
    obtain ⟨dy, tq, L', hq, htq, e2, hL'⟩ := hN2.ex
    have hr7 : Room 7 _ := hr
    have r65 := room65 hr
    refine ⟨_, pss_cons (ps_setLc (i := 2) (own := [("pair", 3)]) (g := gName 3) (tt := tTest (tOp (rInT K true) (tVar 3) (tFld K (tVar 1) "pairs"))) (te := tVar 3) rfl scNSub.nd rfl rfl (sw_true rfl rfl rfl (by decide +kernel)) (pi_tup (pe_fld (pv 0) rfl)) (blkOk_by (N := ["self", "other", "pairs", "pair"]) (sc := defScope sNotesSub) (by decide +kernel))
          (fun _ _ _ _ _ => pg_name (i := 3) scNSub.nd rfl (Or.inl rfl)) (fun _ _ _ _ _ => pts_one (pt_cmpR (by exact op_notInT r65 : OpR _ _ (rInT K true)) (pv 3) (pe_fld (pv 1) rfl) (by rfl))) (fun _ _ _ _ _ => pv 3))
      (pss_one (ps_ret (pe_makeR1 M GM hr7 (by rfl) T.gN passL (pv 2)))), ?_⟩
    have l1 : L.length = ks.length := by rw [← e1, List.length_map]
    refine ⟨_, rfl, p, CN, dx, _, _, rfl, hp, T.cl, T.nP, pfN _, tp, rfl, ⟨_, SqT.of htp⟩, fun D hD => lc_it (walk_tup (K := K) (a := tp) (xs := L.map fun q => V.ref q.1)) (fun i H' => H' = upd H D (.lst (((L.take i).filter fun q => decide (q.2 ∉ ls)).map fun q => V.ref q.1))) rfl (fun i H' _ e => by rw [e]; exact SqT.of (Same.upd_new hD _ _ htp)) ?_ ?_⟩
    · rintro i v H1 H2 hi rfl ⟨rfl, hv⟩
      obtain ⟨z, hz, hzm, rfl⟩ := kf_at hv
      have hi' : i < L.length := (List.getElem?_eq_some_iff.mp hz).1
      have s1 : Same H (upd H D (.lst (((L.take i).filter fun q => decide (q.2 ∉ ls)).map fun q => V.ref q.1))) := Same.upd_new hD
      have gz : GoodP z.2 := g1 _ (by rw [← e1]; exact List.mem_map_of_mem hzm)
      refine ⟨rfl, _, rfl, _, rfl, q, CN, dy, _, _, rfl, s1 _ _ hq, T.cl, T.nP, pfN _, txData z.2, ls.map txData, tx_dp (Same.tup s1 (hL z hzm)), .tup (SqT.of (s1 _ _ htq)) (by have qq := txs_dp (fun y hy => Same.tup s1 (hL' y hy)); rw [e2] at qq; exact qq), tx_shaped gz, (txs_shaped g2).1, _, rfl, ?_⟩
      rw [tx_any]
      by_cases m : z.2 ∈ ls
      · refine iteZ (by rw [if_pos rfl, decide_eq_true m]; rfl) ?_
        rw [take_next hz, List.filter_append, List.filter_cons_of_neg (by simpa using m), List.filter_nil, List.append_nil]
      · refine iteY (by rw [if_pos rfl, decide_eq_false m]; rfl) ?_
        refine ⟨_, rfl, _, upd_same, ?_, ?_⟩
        · rw [List.length_map]
          have := List.length_filter_le (fun q : Addr × List Str => decide (q.2 ∉ ls)) (L.take i)
          rw [List.length_take] at this
          exact small1000 (by omega)
        · rw [upd_upd, take_next hz, List.filter_append, List.filter_cons_of_pos (by simpa using m), List.filter_nil, List.map_append]
          rfl
    · rintro H1 rfl
      rw [List.length_map, List.take_length]
      have s1 : Same H (upd H D (.lst ((L.filter fun q => decide (q.2 ∉ ls)).map fun q => V.ref q.1))) := Same.upd_new hD
      have ek : (L.filter fun q => decide (q.2 ∉ ls)).map (·.2) = ks.filter fun k => decide (k ∉ ls) := by
        rw [← e1, List.filter_map]
        rfl
      refine ⟨_, rfl, D, _, rfl, .inr (SqL.of upd_same), fun x dx' nx ndx nex => note_keyed nx ndx nex (by rw [ek]; exact fun z hz => g1 z ((List.mem_filter.mp hz).1)) (fun z hz => Same.tup s1 (hL z ((List.mem_filter.mp hz).1))) ?_ fun H8 s8 at_ => ?_⟩
      · have := List.length_filter_le (fun q : Addr × List Str => decide (q.2 ∉ ls)) L
        omega
      · rw [ek] at at_
        exact k H8 x (s1.trans s8) (s1.free nx) at_
theorem scNNeg : FnScope ["self", "pairs", "before", "after"] ["self"] (defScope sNotesNeg) := ⟨rfl, rfl, rfl, by decide +kernel, rfl, by decide +kernel, by decide +kernel⟩
theorem ok_nneg {f : Addr} {fd : FuncData} (F : Fun K "__neg__" "Notes.__neg__" sNotesNeg f fd) (T : NoteM P w K mg base CN CI CE) : FnOk P w K mg base CX0 8 f fd ["self"] (spNNeg K CN) := by
  obtain ⟨fN, M, GM⟩ := T.init
  refine F.ok scNNeg (fun vs H Q E h => ?_) (fun cdv A outer s H vs Q E hr h => ?_)
  · obtain ⟨p, ks, rfl, _⟩ := h
    rfl
  · obtain ⟨p, ks, rfl, hN1, g1, few, k⟩ := h
    obtain ⟨dx, tp, L, hp, htp, e1, hL⟩ := hN1.ex
    have hr7 : Room 7 _ := hr
    refine ⟨_, pss_cons (ps_setLc (i := 1) (own := [("before", 2), ("after", 3)]) (g := gTup K 2 (gCons (gName 2) (gCons (gName 3) gNil))) (tt := tYes) (te := tTup (tCons (tVar 3) (tCons (tVar 2) tNil))) rfl scNNeg.nd rfl rfl (sw_true rfl rfl rfl (by decide +kernel)) (pi_tup (pe_fld (pv 0) rfl)) (blkOk_by (N := ["self", "pairs", "before", "after"]) (sc := defScope sNotesNeg) (by decide +kernel))
          (fun _ _ _ _ _ => pg_tup rfl (pgs_cons (pg_name (i := 2) scNNeg.nd rfl (Or.inl rfl)) (pgs_cons (pg_name (i := 3) scNNeg.nd rfl (Or.inl rfl)) pgs_nil))) (fun _ _ _ _ _ => pts_nil) (fun _ _ _ _ _ => pe_tup (pa_cons (pv 3) (pa_cons (pv 2) pa_nil))))
      (pss_one (ps_ret (pe_makeR1 M GM hr7 (by rfl) T.gN passL (pv 1)))), ?_⟩
    have l1 : L.length = ks.length := by rw [← e1, List.length_map]
    refine ⟨_, rfl, p, CN, dx, _, _, rfl, hp, T.cl, T.nP, pfN _, tp, rfl, ⟨_, SqT.of htp⟩, fun D hD => lc_it (walk_tup (K := K) (a := tp) (xs := L.map fun q => V.ref q.1)) (fun i H' => Same H H' ∧ ∃ N : Keyed, H' D = some (.lst (N.map fun q => V.ref q.1)) ∧ N.map (·.2) = (ks.take i).map swapK ∧ ∀ q ∈ N, q.1 ≠ D ∧ SqT K H' q.1 (q.2.map V.str)) ⟨Same.upd_new hD, [], upd_same, rfl, fun q hq => absurd hq (by simp)⟩ (fun i H' _ ⟨s, _⟩ => SqT.of (s _ _ htp)) ?_ ?_⟩
    · rintro i v H1 H2 hi ⟨s1, N, hDN, eN, hN⟩ ⟨rfl, hv⟩
      obtain ⟨z, hz, hzm, rfl⟩ := kf_at hv
      have hi' : i < L.length := (List.getElem?_eq_some_iff.mp hz).1
      have gz : GoodP z.2 := g1 _ (by rw [← e1]; exact List.mem_map_of_mem hzm)
      have hzt := Same.tup s1 (hL z hzm)
      rw [gz.eq.1] at hzt
      have nl : N.length ≤ i := by
        have e := congrArg List.length eN
        rw [List.length_map, List.length_map, List.length_take] at e
        omega
      refine ⟨z.1, _, rfl, hzt, rfl, _, _, rfl, _, _, rfl, rfl, rfl, _, rfl, _, rfl, by show 2 ≤ sizeLine; decide, fun t ht => ?_⟩
      have s2 := Same.upd_new ht (o := .tup [.str (k1 z.2), .str (k0 z.2)])
      have nDt : D ≠ t := ne_of_none hDN ht
      have keyi : ks[i]? = some z.2 := by rw [← e1, List.getElem?_map, hz]; rfl
      refine ⟨_, s2 _ _ hDN, by rw [List.length_map]; exact small1000 (by omega), fun c o h => ?_, N ++ [(t, swapK z.2)], ?_, ?_, fun y hy => ?_⟩
      · rw [upd_ne (ne_of_none h hD)]
        exact s2 _ _ (s1 _ _ h)
      · rw [upd_same, List.map_append]
        rfl
      · rw [List.map_append, eN, take_next keyi, List.map_append]
        rfl
      · have keep : ∀ {c : Addr} {xs : List V}, c ≠ D → SqT K (upd H2 t (.tup [.str (k1 z.2), .str (k0 z.2)])) c xs → SqT K (upd (upd H2 t (.tup [.str (k1 z.2), .str (k0 z.2)])) D (.lst (N.map (fun q => V.ref q.1) ++ [.ref t]))) c xs := by
          intro c xs nc h
          rcases h with (h | ⟨o, h⟩) | h
          · exact .inl (.inl (by rw [upd_ne nc]; exact h))
          · exact .inl (.inr ⟨o, by rw [upd_ne nc]; exact h⟩)
          · exact .inr h
        rcases List.mem_append.mp hy with h | h
        · exact ⟨(hN y h).1, keep (hN y h).1 (Same.tup s2 (hN y h).2)⟩
        · obtain rfl := List.mem_singleton.mp h
          exact ⟨nDt.symm, keep nDt.symm (SqT.of upd_same)⟩
    · rintro H1 ⟨s1, N, hDN, eN, hN⟩
      have ek : N.map (·.2) = ks.map swapK := by rw [eN, List.length_map, l1, List.take_length]
      have nl : N.length = ks.length := by
        have e := congrArg List.length ek
        rw [List.length_map, List.length_map] at e
        exact e
      refine ⟨_, rfl, D, _, rfl, .inr (SqL.of hDN), fun x dx' nx ndx nex => note_keyed nx ndx nex (fun z hz => ?_) (fun z hz => (hN z hz).2) (by omega) fun H8 s8 at_ => ?_⟩
      · rw [ek] at hz
        obtain ⟨y, hy, rfl⟩ := List.mem_map.mp hz
        exact (g1 y hy).swap
      · rw [ek] at at_
        exact k H8 x (s1.trans s8) (s1.free nx) at_
theorem scNEq : FnScope ["self", "other"] ["self", "other"] (defScope sNotesEq) := ⟨rfl, rfl, rfl, by decide +kernel, rfl, by decide +kernel, by decide +kernel⟩
theorem ok_neq {f : Addr} {fd : FuncData} (F : Fun K "__eq__" "Notes.__eq__" sNotesEq f fd) (T : NoteM P w K mg base CN CI CE) (mI : mg "isinstance" = none) (ic : C8.InsC K CN) : FnOk P w K mg base CX0 1 f fd ["self", "other"] (spNEq K CN) := by
  refine F.ok scNEq (fun vs H Q E h => ?_) (fun cdv A outer s H vs Q E hr h => ?_)
  · rcases h with ⟨a, y, t, rfl, _⟩ | ⟨a, b, ks, ls, rfl, _⟩ <;> rfl
  · refine ⟨_, pss_one (ps_ret (pe_and (pe_callB call_isi (by rfl) mI (by decide +kernel) (pa_cons (pv 1) (pa_cons (pe_glob (v := .ref CN) (by rfl) T.gN rfl) pa_nil))) (pe_one (pe_cmpR (op_eqD hr.units) (pe_fld (pv 0) rfl) (pe_fld (pv 1) rfl) (nomark _))))), ?_⟩
    rcases h with ⟨a, y, t, rfl, ty, kt, k⟩ | ⟨a, b, ks, ls, rfl, hN1, hN2, g1, g2, k⟩
    · exact ⟨_, rfl, _, _, _, _, false, rfl, ClsV.own CN, .base ty, kt, _, rfl, iteF k⟩
    · obtain ⟨dx, tp, L, hp, htp, e1, hL⟩ := hN1.ex
      obtain ⟨dy, tq, L', hq, htq, e2, hL'⟩ := hN2.ex
      refine ⟨_, rfl, _, _, _, _, true, rfl, ClsV.own CN, .base (TyOf.ins hq ic.cl ic.ha ic.hn ic.htk ic.hm), ic.me, _, rfl, iteT ?_⟩
      refine ⟨_, rfl, a, CN, dx, _, _, rfl, hp, T.cl, T.nP, pfN _, _, rfl, b, CN, dy, _, _, rfl, hq, T.cl, T.nP, pfN _, ?_⟩
      refine ⟨.tuple (ks.map txData), .tuple (ls.map txData), .tup (SqT.of htp) (by rw [← e1]; exact txs_dp hL), .tup (SqT.of htq) (by rw [← e2]; exact txs_dp hL'), (txs_shaped g1).1, (txs_shaped g2).1, ?_⟩
      rw [(txs_eqv ks ls).1]
      exact k
end
end Dl

namespace Dl
open PySem PySem.Spec PyProof.Rows L2
theorem cut_take1 (xs : List V) (i : Nat) : cutV xs none (some (i : Int)) = xs.take i := by
  unfold cutV
  rw [HT.sIx_nat, HT.sIx_none]
  simp only [List.drop_zero, Nat.sub_zero]
  by_cases h : i ≤ xs.length
  · rw [Nat.min_eq_left h]
  · rw [Nat.min_eq_right (by omega), List.take_of_length_le (by omega), List.take_of_length_le (by omega)]
end Dl

namespace Dl
open PySem PySem.Spec PyProof.Rows L2
structure TxtL28 (mg : Str → Option Value) : Prop where
  isinstance : mg "isinstance" = none
  bool : mg "bool" = none
  int : mg "int" = none
  tuple : mg "tuple" = none
  list : mg "list" = none
  len : mg "len" = none
  range : mg "range" = none
  set_ : mg "set" = none
  sor : mg "sorted" = none
  str : mg "str" = none
structure PairsAt (H : Hp) (p : Addr) (L : Keyed) : Prop where
  lst : H p = some (.lst (L.map fun q => V.ref q.1))
  tup : ∀ q ∈ L, H q.1 = some (.tup (q.2.map V.str))
  good : GoodK (L.map (·.2))
theorem PairsAt.of {H H' : Hp} {p : Addr} {L : Keyed} (h : PairsAt H p L) (s : Same H H') : PairsAt H' p L := ⟨s _ _ h.lst, fun q hq => s _ _ (h.tup q hq), h.good⟩
theorem PairsAt.ofB {b : Addr} {H H' : Hp} {p : Addr} {L : Keyed} (h : PairsAt H p L) (s : SameB b H H') (n : p ≠ b) (hb : ∃ xs, H b = some (.lst xs)) : PairsAt H' p L :=
  ⟨s _ _ n h.lst, fun q hq => s _ _ (fun e => by obtain ⟨xs, hb⟩ := hb; have z := h.tup q hq; rw [e, hb] at z; cases z) (h.tup q hq), h.good⟩
theorem PairsAt.txt {K : PySem.W.Frag} {H : Hp} {p : Addr} {L : Keyed} (h : PairsAt H p L) : ∀ q ∈ L, SqT K H q.1 (q.2.map V.str) := fun q hq => SqT.of (h.tup q hq)
theorem atI_ge {xs : List V} {j : Nat} {v : V} (h : xs[j]? = some v) : atI xs ((j : Nat) : Int) = some v := by
  unfold atI
  rw [ix_at (List.getElem?_eq_some_iff.mp h).1]
  exact h
theorem other_ix {f t m : Int} (f0 : 0 ≤ f) (f1 : f < m) (t0 : 0 ≤ t) (t1 : t < m - 1) : 0 ≤ (f + 1 + t) % m ∧ (f + 1 + t) % m < m ∧ (f + 1 + t) % m ≠ f := by
  have m0 : 0 < m := by omega
  refine ⟨Int.emod_nonneg _ (by omega), Int.emod_lt_of_pos _ m0, fun e => ?_⟩
  have d := Int.mul_ediv_add_emod (f + 1 + t) m
  rw [e] at d
  rcases Int.lt_or_le 0 ((f + 1 + t) / m) with q | q
  · have := Int.mul_le_mul_of_nonneg_left (show (1 : Int) ≤ (f + 1 + t) / m by omega) (show 0 ≤ m by omega)
    omega
  · have := Int.mul_le_mul_of_nonneg_left q (show 0 ≤ m by omega)
    omega
def spInt28 : Sp := fun vs H Q _ => ∃ a : Int, vs = [.int a] ∧ Q (.bl true) H
def spPairs : Sp := fun vs H Q _ => ∃ (b u : Addr) (L : List Int) (zs : List Str) (n : Int), vs = [.ref b, .ref u, .int n] ∧ H b = some (.lst (L.map V.int)) ∧ BagOk L ∧ H u = some (.lst (zs.map V.str)) ∧ u ≠ b ∧ NamesOk zs ∧ 2 ≤ zs.length ∧ 0 ≤ n ∧ n ≤ 8 ∧
  ∀ (H' : Hp) (p : Addr) (L' : List Int) (M : Keyed), SameB b H H' → H p = none → p ≠ b → H' b = some (.lst (L'.map V.int)) → BagOk L' → PairsAt H' p M → (∀ k ∈ M.map (·.2), k0 k ∈ zs ∧ k1 k ∈ zs) → M.length ≤ 8 → (M.length : Int) ≤ n → Q (.ref p) H'
section
variable {P : Program} {w : World} {K : PySem.W.Frag} {mg : Str → Option Value} {base : Heap}
theorem scLawPairs : FnScope ["_law_bag_here", "_law_looks", "_law_count", "_law_pairs_here", "_law_k", "_law_first", "_law_second"] ["_law_bag_here", "_law_looks", "_law_count"] (defScope sLawPairs) := ⟨rfl, rfl, rfl, by decide +kernel, rfl, by decide +kernel, by decide +kernel⟩
theorem ok_pairs {f : Addr} {fd : FuncData} (F : Fun K "_law_pairs" "_law_pairs" sLawPairs f fd) (T : TxtL28 mg) (gT : Dfn P w K mg base CX0 1 "_law_take" ["_law_bag_here", "_law_size"] spTake) : FnOk P w K mg base CX0 2 f fd ["_law_bag_here", "_law_looks", "_law_count"] spPairs := by
  obtain ⟨fT, dT, mTake, kTake, bTake, GTake⟩ := gT
  refine F.ok scLawPairs (fun vs H Q E h => ?_) (fun cdv A outer s H vs Q E hr h => ?_)
  · obtain ⟨b, u, L, zs, n, rfl, _⟩ := h
    rfl
  · obtain ⟨b, u, L, zs, n, rfl, hb, ok, hu, nub, okz, z2, n0, n5, k⟩ := h
    have hr1 : Room 1 _ := hr.mono (by decide)
    obtain ⟨n, rfl⟩ := Int.eq_ofNat_of_zero_le n0
    have zfew := okz.few
    have lz : (zs.map V.str).length = zs.length := List.length_map ..
    refine ⟨_, (pss_cons (ps_set (i := 3) scLawPairs.nd rfl (Or.inl rfl) (pe_lst pa_nil))
        (pss_cons (ps_if (pt_cmpR op_lt (pe_callB call_len_seq (by rfl) T.len PySem.boot_len (pa_cons (pv 1) pa_nil)) pe_int (nomark _)) (pss_one (ps_ret (pv 3))) pss_nil)
        (pss_cons (ps_for PassesOwn.never rfl (pi_range1 (by rfl) T.range (pa_cons (pv 2) pa_nil)) (pg_name (i := 4) scLawPairs.nd rfl (Or.inl rfl)) (pss_cons (ps_set (i := 5) scLawPairs.nd rfl (Or.inl rfl) (pe_call GTake hr1 (by rfl) mTake kTake bTake .nil pass0 (pa_cons (pv 0) (pa_cons (pe_callB call_len_seq (by rfl) T.len PySem.boot_len (pa_cons (pv 1) pa_nil)) pa_nil))))
        (pss_cons (ps_set (i := 6) scLawPairs.nd rfl (Or.inl rfl) (pe_op op_mod (pe_callTy call_int1 (by rfl) T.int (by decide +kernel) (pa_cons (pe_op op_add (pe_op op_add (pv 5) pe_int) (pe_call GTake hr1 (by rfl) mTake kTake bTake .nil pass0 (pa_cons (pv 0) (pa_cons (pe_op op_sub (pe_callB call_len_seq (by rfl) T.len PySem.boot_len (pa_cons (pv 1) pa_nil)) pe_int) pa_nil)))) pa_nil)) (pe_callB call_len_seq (by rfl) T.len PySem.boot_len (pa_cons (pv 1) pa_nil))))
        (pss_one (ps_expr (pe_bm PySem.F.plainAttrs_list PySem.F.slot_list_append PySem.F.type_list_append mt_append (pv 3) (pa_cons (pe_tup (pa_cons (pe_ix ix_list (pv 1) (pv 5) (fun _ _ => rfl)) (pa_cons (pe_ix ix_list (pv 1) (pv 6) (fun _ _ => rfl)) pa_nil))) pa_nil)))))))
        (pss_one (ps_ret (pv 3)))))), ?_⟩
    refine ⟨Nat.zero_le _, fun p hp => ?_⟩
    have npb : p ≠ b := fun e => by rw [e, hb] at hp; cases hp
    have npu : p ≠ u := fun e => by rw [e, hu] at hp; cases hp
    have hb3 := (Same.upd_new hp (o := .lst ([] : List V))) _ _ hb
    have hu3 := (Same.upd_new hp (o := .lst ([] : List V))) _ _ hu
    refine ⟨_, rfl, u, _, rfl, .inl (SqL.of hu3), _, _, rfl, rfl, _, rfl, iteZ (decide_eq_false (by rw [lz]; omega)) ?_⟩
    refine ⟨_, rfl, _, rfl, by omega, by omega, for_range (lo := 0) (fun i σ H' => ∃ (M : Keyed) (x4 x5 x6 : Option V), σ = [some (.ref b), some (.ref u), some (.int n), some (.ref p), x4, x5, x6] ∧
        SameB b H H' ∧ BagIn H' b ∧ PairsAt H' p M ∧ M.length = i ∧ ∀ k ∈ M.map (·.2), k0 k ∈ zs ∧ k1 k ∈ zs)
      ⟨[], none, none, none, rfl, fun c o nc h => by rw [upd_ne (ne_of_none h hp)]; exact h, ⟨L, hb3, ok⟩, ⟨upd_same, fun q hq => absurd hq (by simp), fun q hq => absurd hq (by simp)⟩, rfl, fun q hq => absurd hq (by simp)⟩ ?_ ?_⟩
    · rintro i σ H4 hi ⟨M, x4, x5, x6, rfl, t4, ⟨L4, hb4, ok4⟩, hM, hl, inZ⟩
      have hu4 := t4 _ _ nub hu
      refine ⟨_, rfl, _, rfl, u, _, rfl, .inl (SqL.of hu4), b, L4, _, rfl, hb4, ok4, by omega, by omega, fun L5 j ok5 j0 j1 => ?_⟩
      rw [lz] at j1
      have t5 := t4.trans (draw_same (L := L5))
      have hM5 := hM.ofB (draw_same (L := L5)) npb ⟨_, hb4⟩
      have hb5 := upd_same (H := H4) (a := b) (o := .lst (L5.map V.int))
      have hu5 := t5 _ _ nub hu
      generalize upd H4 b (.lst (L5.map V.int)) = H5 at *
      refine ⟨_, rfl, _, _, rfl, rfl, _, rfl, _, rfl, u, _, rfl, .inl (SqL.of hu5), _, _, rfl, rfl, b, L5, _, rfl, hb5, ok5, by omega, by omega, fun L6 j' ok6 j0' j1' => ?_⟩
      rw [lz] at j1'
      have t6 := t5.trans (draw_same (L := L6))
      have hM6 := hM5.ofB (draw_same (L := L6)) npb ⟨_, hb5⟩
      have hb6 := upd_same (H := H5) (a := b) (o := .lst (L6.map V.int))
      have hu6 := t6 _ _ nub hu
      generalize upd H5 b (.lst (L6.map V.int)) = H6 at *
      refine ⟨_, _, rfl, rfl, .inl ⟨_, rfl, _, rfl, u, _, rfl, .inl (SqL.of hu6), _, _, rfl, rfl, by omega, ?_⟩⟩
      rw [lz]
      obtain ⟨r0, r1, rj⟩ := other_ix j0 j1 j0' j1'
      obtain ⟨jn, rfl⟩ := Int.eq_ofNat_of_zero_le j0
      obtain ⟨rn, er⟩ := Int.eq_ofNat_of_zero_le r0
      rw [er] at r1 rj
      have hj : jn < zs.length := by omega
      have hrn : rn < zs.length := by omega
      have a1 : atI (zs.map V.str) ((jn : Nat) : Int) = some (.str zs[jn]) := atI_ge (by rw [List.getElem?_map, List.getElem?_eq_getElem hj]; rfl)
      have a2 : atI (zs.map V.str) (((jn : Nat) + 1 + j') % (zs.length : Int)) = some (.str zs[rn]) := by rw [er]; exact atI_ge (by rw [List.getElem?_map, List.getElem?_eq_getElem hrn]; rfl)
      refine ⟨_, rfl, .inl ⟨rfl, _, SqL.of hM6.lst⟩, _, rfl, _, rfl, u, _, _, _, rfl, rfl, SqL.of hu6, a1, _, rfl, _, rfl, u, _, _, _, rfl, rfl, SqL.of hu6, a2, by show 2 ≤ sizeLine; decide, fun t ht => ?_⟩
      have npt : p ≠ t := ne_of_none hM6.lst ht
      have s7 := Same.upd_new ht (o := .tup [.str zs[jn], .str zs[rn]])
      have hM7 := hM6.of s7
      have hb7 := s7 _ _ hb6
      have ht7 := upd_same (H := H6) (a := t) (o := .tup [.str zs[jn], .str zs[rn]])
      have t7 := t6.trans (SameB.of s7)
      generalize upd H6 t (.tup [.str zs[jn], .str zs[rn]]) = H7 at *
      refine ⟨p, _, _, rfl, rfl, hM7.lst, by rw [List.length_map]; exact small1000 (by omega), ?_⟩
      have g2 : GoodP [zs[jn], zs[rn]] := ⟨_, _, rfl, okz.valid (List.getElem_mem hj), okz.valid (List.getElem_mem hrn), fun e => rj (by
        have := (List.getElem_inj okz.nd).mp e
        omega)⟩
      refine ⟨M ++ [(t, [zs[jn], zs[rn]])], _, _, _, rfl, fun c o nc h => ?_, ⟨L6, by rw [upd_ne npb.symm]; exact hb7, ok6⟩, ⟨?_, fun q hq => ?_, fun q hq => ?_⟩, by rw [List.length_append, hl]; rfl, fun q hq => ?_⟩
      · rw [upd_ne (ne_of_none h hp)]
        exact t7 _ _ nc h
      · rw [upd_same, List.map_append]
        rfl
      · rcases List.mem_append.mp hq with h | h
        · have z := hM7.tup q h
          rw [upd_ne (fun e => by rw [e, hM7.lst] at z; cases z)]
          exact z
        · obtain rfl := List.mem_singleton.mp h
          rw [upd_ne npt.symm]
          exact ht7
      · rw [List.map_append] at hq
        rcases List.mem_append.mp hq with h | h
        · exact hM7.good q h
        · obtain rfl := List.mem_singleton.mp h
          exact g2
      · rw [List.map_append] at hq
        rcases List.mem_append.mp hq with h | h
        · exact inZ q h
        · obtain rfl := List.mem_singleton.mp h
          exact ⟨List.getElem_mem hj, List.getElem_mem hrn⟩
    · rintro σ H4 ⟨M, x4, x5, x6, rfl, t4, ⟨L4, hb4, ok4⟩, hM, hl, inZ⟩
      exact ⟨_, rfl, k H4 p L4 M t4 hp npb hb4 ok4 hM inZ (by omega) (by omega)⟩
end
end Dl

namespace Dl
open PySem PySem.Spec PyProof.Rows L2
theorem once_len : ∀ ks : List (List Str), (onceK ks).length ≤ ks.length
  | [] => Nat.le_refl _
  | k :: r => by
    have := once_len r
    unfold onceK
    split
    · rw [List.length_cons]; omega
    · rw [List.length_cons, List.length_cons]; omega
theorem norm_len (ks : List (List Str)) : (normK ks).length ≤ ks.length := by
  have e : (normK ks).length = (onceK ks).length := (List.mergeSort_perm _ _).length_eq
  rw [e]
  exact once_len ks
theorem norm_two (ks ls : List (List Str)) : normK (normK ks ++ normK ls) = normK (ks ++ ls) := norm_same fun k => by
  rw [List.mem_append, List.mem_append, mem_norm, mem_norm]
/-- an own method -/
def OwnM (P : Program) (w : World) (K : PySem.W.Frag) (mg : Str → Option Value) (base : Heap) (CN : Addr) (nm : Str) (k : Nat) (ps : List Str) (sp : Sp) : Prop :=
  ∃ f fd, PySem.W.findIn K (.ref CN) nm = some (some (.ref f)) ∧ PySem.W.isFn K (.ref f) = true ∧ Binds K fd ps [] ∧ FnOk P w K mg base CX0 k f fd ps sp
structure NoteOps (P : Program) (w : World) (K : PySem.W.Frag) (mg : Str → Option Value) (base : Heap) (CN CI CE : Addr) : Prop extends NoteM P w K mg base CN CI CE where
  selfF : PySem.W.selfFirst K CN = true
  add : OwnM P w K mg base CN "__add__" 8 ["self", "other"] (spNAdd K CN)
  eq : OwnM P w K mg base CN "__eq__" 1 ["self", "other"] (spNEq K CN)
def spLNotes (K : PySem.W.Frag) (CN : Addr) : Sp := fun vs H Q _ => ∃ (p : Addr) (L : Keyed), vs = [.ref p] ∧ PairsAt H p L ∧ L.length < 40 ∧ ∀ H' x, Same H H' → H x = none → NotesAt K CN H' x (normK (L.map (·.2))) → Q (.ref x) H'
def spLMade (K : PySem.W.Frag) (CN : Addr) : Sp := fun vs H Q _ => ∃ (p : Addr) (L : Keyed), vs = [.ref p] ∧ PairsAt H p L ∧ L.length ≤ 4 ∧ ∀ H' x, Same H H' → H x = none → NotesAt K CN H' x (normK (L.map (·.2))) → Q (.ref x) H'
section
variable {P : Program} {w : World} {K : PySem.W.Frag} {mg : Str → Option Value} {base : Heap} {CN CI CE : Addr}
theorem scLawNotes : FnScope ["_law_pairs_here", "_law_notes_here", "_law_pair"] ["_law_pairs_here"] (defScope sLawNotes) := ⟨rfl, rfl, rfl, by decide +kernel, rfl, by decide +kernel, by decide +kernel⟩
theorem ok_lnotes {f : Addr} {fd : FuncData} (F : Fun K "_law_notes" "_law_notes" sLawNotes f fd) (T : NoteOps P w K mg base CN CI CE) : FnOk P w K mg base CX0 9 f fd ["_law_pairs_here"] (spLNotes K CN) := by
  obtain ⟨fN, M, GM⟩ := T.init
  obtain ⟨fA, dA, hAdd, iAdd, bAdd, GAdd⟩ := T.add
  have hAdd : PySem.W.findIn K (.ref CN) (PySem.dunder (Operator.info .Add).2) = some (some (.ref fA)) := hAdd
  refine F.ok scLawNotes (fun vs H Q E h => ?_) (fun cdv A outer s H vs Q E hr h => ?_)
  · obtain ⟨p, L, rfl, _⟩ := h
    rfl
  · obtain ⟨p, L, rfl, hL, few, k⟩ := h
    have hr8 : Room 8 _ := hr.mono (by decide)
    have hr7 : Room 7 _ := hr.mono (by decide)
    refine ⟨_, (pss_cons (ps_set (i := 1) scLawNotes.nd rfl (Or.inl rfl) (pe_makeR0 M GM hr7 (by rfl) T.gN passL))
        (pss_cons (ps_for PassesOwn.never rfl (pi_list (pv 0)) (pg_name (i := 2) scLawNotes.nd rfl (Or.inl rfl)) (pss_one (ps_set (i := 1) scLawNotes.nd rfl (Or.inl rfl) (pe_op (op_binOwn GAdd T.selfF hAdd iAdd hr8 bAdd pass0) (pv 1) (StX.pe_makeR M GM hr7 (by rfl) T.gN passL (pa_cons (pv 2) pa_nil))))))
        (pss_one (ps_ret (pv 1))))), ?_⟩
    have made0 : ∀ {H1 : Hp} {x dx : Addr} {Q : Hp → Prop}, H1 x = none → H1 dx = none → dx ≠ x → (∀ H8, Same H1 H8 → NotesAt K CN H8 x (normK []) → Q H8) → starSp 1 (spNotes K CN CI CE) [.ref x] (upd (upd H1 dx (.own x)) x (.ins CN dx [])) (fun v H2 => v = .non ∧ Q H2) E0 :=
      fun nx ndx nex k => note_keyed (L := []) nx ndx nex (fun z hz => absurd hz (by simp)) (fun z hz => absurd hz (by simp)) (by decide) k
    refine fun x dx nx ndx nex => made0 nx ndx nex fun H1 s1 n1 => ?_
    refine ⟨_, rfl, p, rfl, ⟨_, SqL.of (s1 _ _ hL.lst)⟩, for_it (walk_list (K := K) (a := p) (xs := L.map fun q => V.ref q.1)) (fun i σ H' => ∃ (y : Addr) (x2 : Option V), σ = [some (.ref p), some (.ref y), x2] ∧ Same H H' ∧ H y = none ∧ NotesAt K CN H' y (normK ((L.take i).map (·.2))))
      ⟨x, none, rfl, s1, nx, n1⟩ (fun i σ H' _ ⟨_, _, _, s, _⟩ => SqL.of (s _ _ hL.lst)) ?_ ?_⟩
    · rintro i v σ H2 H3 hi ⟨y, x2, rfl, s2, ny, n2⟩ ⟨rfl, hv⟩
      obtain ⟨z, hz, hzm, rfl⟩ := kf_at hv
      have hi' : i < L.length := (List.getElem?_eq_some_iff.mp hz).1
      have tl : (L.take i).length ≤ i := by rw [List.length_take]; omega
      have gk : GoodK ((L.take i).map (·.2)) := fun k hk => by
        obtain ⟨q, hq, rfl⟩ := List.mem_map.mp hk
        exact hL.good _ (List.mem_map_of_mem (List.mem_of_mem_take hq))
      have gz : GoodK [z.2] := fun k hk => by
        obtain rfl := List.mem_singleton.mp hk
        exact hL.good _ (List.mem_map_of_mem hzm)
      refine ⟨_, rfl, _, rfl, fun x1 dx1 nx1 ndx1 nex1 => note_keyed (L := [z]) nx1 ndx1 nex1 gz (fun q hq => by
        obtain rfl := List.mem_singleton.mp hq
        exact SqT.of (s2 _ _ (hL.tup _ hzm))) (by simp) fun H5 s5 n5 => ?_⟩
      obtain ⟨dx, tp, L1, a1, a2, a3, a4⟩ := (n2.of s5).ex
      obtain ⟨dy, tq, L2, b1, b2, b3, b4⟩ := n5.ex
      have w1 := norm_len ((L.take i).map (·.2))
      have w2 := norm_len [z.2]
      rw [List.length_map] at w1
      rw [List.length_singleton] at w2
      refine ⟨y, dx, _, x1, dy, _, rfl, a1, rfl, b1, y, x1, _, _, rfl, n2.of s5, n5, good_norm gk, good_norm gz, Nat.lt_of_le_of_lt (Nat.add_le_add w1 w2) (by omega), fun H6 r s6 nr n6 => ?_⟩
      refine ⟨r, _, rfl, s2.trans (s5.trans s6), s2.free (s5.free nr), ?_⟩
      rw [norm_two] at n6
      rw [take_next hz, List.map_append]
      exact n6
    · rintro σ H2 ⟨y, x2, rfl, s2, ny, n2⟩
      rw [List.length_map, List.take_length] at n2
      exact ⟨_, rfl, k H2 y s2 ny n2⟩
end
end Dl

namespace Dl
open PySem PySem.Spec PyProof.Rows L2
def spPairsA : Sp := fun vs H Q _ => ∃ (b u : Addr) (L : List Int) (zs : List Str) (n : Int), vs = [.ref b, .ref u, .int n] ∧ H b = some (.lst (L.map V.int)) ∧ BagOk L ∧ H u = some (.lst (zs.map V.str)) ∧ u ≠ b ∧ NamesOk zs ∧ 0 ≤ n ∧ n ≤ 8 ∧
  ∀ (H' : Hp) (p : Addr) (L' : List Int) (M : Keyed), SameB b H H' → H p = none → p ≠ b → H' b = some (.lst (L'.map V.int)) → BagOk L' → PairsAt H' p M → (∀ k ∈ M.map (·.2), k0 k ∈ zs ∧ k1 k ∈ zs) → M.length ≤ 8 → (M.length : Int) ≤ n → Q (.ref p) H'
section
variable {P : Program} {w : World} {K : PySem.W.Frag} {mg : Str → Option Value} {base : Heap}
theorem scLawPairsA : FnScope ["_law_bag_here", "_law_looks", "_law_count", "_law_pairs_here", "_law_k", "_law_first", "_law_second"] ["_law_bag_here", "_law_looks", "_law_count"] (defScope sLawPairs) := ⟨rfl, rfl, rfl, by decide +kernel, rfl, by decide +kernel, by decide +kernel⟩
theorem ok_pairsA {f : Addr} {fd : FuncData} (F : Fun K "_law_pairs" "_law_pairs" sLawPairs f fd) (T : TxtL28 mg) (gT : Dfn P w K mg base CX0 1 "_law_take" ["_law_bag_here", "_law_size"] spTake) : FnOk P w K mg base CX0 2 f fd ["_law_bag_here", "_law_looks", "_law_count"] spPairsA := by
  obtain ⟨fT, dT, mTake, kTake, bTake, GTake⟩ := gT
  refine F.ok scLawPairsA (fun vs H Q E h => ?_) (fun cdv A outer s H vs Q E hr h => ?_)
  · obtain ⟨b, u, L, zs, n, rfl, _⟩ := h
    rfl
  · obtain ⟨b, u, L, zs, n, rfl, hb, ok, hu, nub, okz, n0, n5, k⟩ := h
    have hr1 : Room 1 _ := hr.mono (by decide)
    obtain ⟨n, rfl⟩ := Int.eq_ofNat_of_zero_le n0
    have zfew := okz.few
    have lz : (zs.map V.str).length = zs.length := List.length_map ..
    refine ⟨_, (pss_cons (ps_set (i := 3) scLawPairsA.nd rfl (Or.inl rfl) (pe_lst pa_nil))
        (pss_cons (ps_if (pt_cmpR op_lt (pe_callB call_len_seq (by rfl) T.len PySem.boot_len (pa_cons (pv 1) pa_nil)) pe_int (nomark _)) (pss_one (ps_ret (pv 3))) pss_nil)
        (pss_cons (ps_for PassesOwn.never rfl (pi_range1 (by rfl) T.range (pa_cons (pv 2) pa_nil)) (pg_name (i := 4) scLawPairsA.nd rfl (Or.inl rfl)) (pss_cons (ps_set (i := 5) scLawPairsA.nd rfl (Or.inl rfl) (pe_call GTake hr1 (by rfl) mTake kTake bTake .nil pass0 (pa_cons (pv 0) (pa_cons (pe_callB call_len_seq (by rfl) T.len PySem.boot_len (pa_cons (pv 1) pa_nil)) pa_nil))))
        (pss_cons (ps_set (i := 6) scLawPairsA.nd rfl (Or.inl rfl) (pe_op op_mod (pe_callTy call_int1 (by rfl) T.int (by decide +kernel) (pa_cons (pe_op op_add (pe_op op_add (pv 5) pe_int) (pe_call GTake hr1 (by rfl) mTake kTake bTake .nil pass0 (pa_cons (pv 0) (pa_cons (pe_op op_sub (pe_callB call_len_seq (by rfl) T.len PySem.boot_len (pa_cons (pv 1) pa_nil)) pe_int) pa_nil)))) pa_nil)) (pe_callB call_len_seq (by rfl) T.len PySem.boot_len (pa_cons (pv 1) pa_nil))))
        (pss_one (ps_expr (pe_bm PySem.F.plainAttrs_list PySem.F.slot_list_append PySem.F.type_list_append mt_append (pv 3) (pa_cons (pe_tup (pa_cons (pe_ix ix_list (pv 1) (pv 5) (fun _ _ => rfl)) (pa_cons (pe_ix ix_list (pv 1) (pv 6) (fun _ _ => rfl)) pa_nil))) pa_nil)))))))
        (pss_one (ps_ret (pv 3)))))), ?_⟩
    refine ⟨Nat.zero_le _, fun p hp => ?_⟩
    have npb : p ≠ b := fun e => by rw [e, hb] at hp; cases hp
    have npu : p ≠ u := fun e => by rw [e, hu] at hp; cases hp
    have hb3 := (Same.upd_new hp (o := .lst ([] : List V))) _ _ hb
    have hu3 := (Same.upd_new hp (o := .lst ([] : List V))) _ _ hu
    refine ⟨_, rfl, u, _, rfl, .inl (SqL.of hu3), _, _, rfl, rfl, _, rfl, ?_⟩
    by_cases z2 : 2 ≤ zs.length
    case neg =>
      refine iteY (decide_eq_true (by rw [lz]; omega)) ?_
      exact ⟨_, rfl, k _ p L [] (SameB.of (Same.upd_new hp)) hp npb hb3 ok ⟨upd_same, fun q hq => absurd hq (by simp), fun q hq => absurd hq (by simp)⟩ (fun q hq => absurd hq (by simp)) (by simp) (by simp)⟩
    refine iteZ (decide_eq_false (by rw [lz]; omega)) ?_
    refine ⟨_, rfl, _, rfl, by omega, by omega, for_range (lo := 0) (fun i σ H' => ∃ (M : Keyed) (x4 x5 x6 : Option V), σ = [some (.ref b), some (.ref u), some (.int n), some (.ref p), x4, x5, x6] ∧
        SameB b H H' ∧ BagIn H' b ∧ PairsAt H' p M ∧ M.length = i ∧ ∀ k ∈ M.map (·.2), k0 k ∈ zs ∧ k1 k ∈ zs)
      ⟨[], none, none, none, rfl, fun c o nc h => by rw [upd_ne (ne_of_none h hp)]; exact h, ⟨L, hb3, ok⟩, ⟨upd_same, fun q hq => absurd hq (by simp), fun q hq => absurd hq (by simp)⟩, rfl, fun q hq => absurd hq (by simp)⟩ ?_ ?_⟩
    · rintro i σ H4 hi ⟨M, x4, x5, x6, rfl, t4, ⟨L4, hb4, ok4⟩, hM, hl, inZ⟩
      have hu4 := t4 _ _ nub hu
      refine ⟨_, rfl, _, rfl, u, _, rfl, .inl (SqL.of hu4), b, L4, _, rfl, hb4, ok4, by omega, by omega, fun L5 j ok5 j0 j1 => ?_⟩
      rw [lz] at j1
      have t5 := t4.trans (draw_same (L := L5))
      have hM5 := hM.ofB (draw_same (L := L5)) npb ⟨_, hb4⟩
      have hb5 := upd_same (H := H4) (a := b) (o := .lst (L5.map V.int))
      have hu5 := t5 _ _ nub hu
      generalize upd H4 b (.lst (L5.map V.int)) = H5 at *
      refine ⟨_, rfl, _, _, rfl, rfl, _, rfl, _, rfl, u, _, rfl, .inl (SqL.of hu5), _, _, rfl, rfl, b, L5, _, rfl, hb5, ok5, by omega, by omega, fun L6 j' ok6 j0' j1' => ?_⟩
      rw [lz] at j1'
      have t6 := t5.trans (draw_same (L := L6))
      have hM6 := hM5.ofB (draw_same (L := L6)) npb ⟨_, hb5⟩
      have hb6 := upd_same (H := H5) (a := b) (o := .lst (L6.map V.int))
      have hu6 := t6 _ _ nub hu
      generalize upd H5 b (.lst (L6.map V.int)) = H6 at *
      refine ⟨_, _, rfl, rfl, .inl ⟨_, rfl, _, rfl, u, _, rfl, .inl (SqL.of hu6), _, _, rfl, rfl, by omega, ?_⟩⟩
      rw [lz]
      obtain ⟨r0, r1, rj⟩ := other_ix j0 j1 j0' j1'
      obtain ⟨jn, rfl⟩ := Int.eq_ofNat_of_zero_le j0
      obtain ⟨rn, er⟩ := Int.eq_ofNat_of_zero_le r0
      rw [er] at r1 rj
      have hj : jn < zs.length := by omega
      have hrn : rn < zs.length := by omega
      have a1 : atI (zs.map V.str) ((jn : Nat) : Int) = some (.str zs[jn]) := atI_ge (by rw [List.getElem?_map, List.getElem?_eq_getElem hj]; rfl)
      have a2 : atI (zs.map V.str) (((jn : Nat) + 1 + j') % (zs.length : Int)) = some (.str zs[rn]) := by rw [er]; exact atI_ge (by rw [List.getElem?_map, List.getElem?_eq_getElem hrn]; rfl)
      refine ⟨_, rfl, .inl ⟨rfl, _, SqL.of hM6.lst⟩, _, rfl, _, rfl, u, _, _, _, rfl, rfl, SqL.of hu6, a1, _, rfl, _, rfl, u, _, _, _, rfl, rfl, SqL.of hu6, a2, by show 2 ≤ sizeLine; decide, fun t ht => ?_⟩
      have npt : p ≠ t := ne_of_none hM6.lst ht
      have s7 := Same.upd_new ht (o := .tup [.str zs[jn], .str zs[rn]])
      have hM7 := hM6.of s7
      have hb7 := s7 _ _ hb6
      have ht7 := upd_same (H := H6) (a := t) (o := .tup [.str zs[jn], .str zs[rn]])
      have t7 := t6.trans (SameB.of s7)
      generalize upd H6 t (.tup [.str zs[jn], .str zs[rn]]) = H7 at *
      refine ⟨p, _, _, rfl, rfl, hM7.lst, by rw [List.length_map]; exact small1000 (by omega), ?_⟩
      have g2 : GoodP [zs[jn], zs[rn]] := ⟨_, _, rfl, okz.valid (List.getElem_mem hj), okz.valid (List.getElem_mem hrn), fun e => rj (by
        have := (List.getElem_inj okz.nd).mp e
        omega)⟩
      refine ⟨M ++ [(t, [zs[jn], zs[rn]])], _, _, _, rfl, fun c o nc h => ?_, ⟨L6, by rw [upd_ne npb.symm]; exact hb7, ok6⟩, ⟨?_, fun q hq => ?_, fun q hq => ?_⟩, by rw [List.length_append, hl]; rfl, fun q hq => ?_⟩
      · rw [upd_ne (ne_of_none h hp)]
        exact t7 _ _ nc h
      · rw [upd_same, List.map_append]
        rfl
      · rcases List.mem_append.mp hq with h | h
        · have z := hM7.tup q h
          rw [upd_ne (fun e => by rw [e, hM7.lst] at z; cases z)]
          exact z
        · obtain rfl := List.mem_singleton.mp h
          rw [upd_ne npt.symm]
          exact ht7
      · rw [List.map_append] at hq
        rcases List.mem_append.mp hq with h | h
        · exact hM7.good q h
        · obtain rfl := List.mem_singleton.mp h
          exact g2
      · rw [List.map_append] at hq
        rcases List.mem_append.mp hq with h | h
        · exact inZ q h
        · obtain rfl := List.mem_singleton.mp h
          exact ⟨List.getElem_mem hj, List.getElem_mem hrn⟩
    · rintro σ H4 ⟨M, x4, x5, x6, rfl, t4, ⟨L4, hb4, ok4⟩, hM, hl, inZ⟩
      exact ⟨_, rfl, k H4 p L4 M t4 hp npb hb4 ok4 hM inZ (by omega) (by omega)⟩
end
end Dl

/-! arrangements in the heap; _contains, _moved, _turned -/
namespace Dl
open PySem PySem.Spec PyProof.Rows L2
theorem rd_same {H H' : Hp} {a : Addr} {o : HO} (s : Same H H') (h : Rd H a o) : Rd H' a o := h.elim (fun e => .inl (s _ _ e)) fun ⟨b, e⟩ => .inr ⟨b, s _ _ e⟩
def kvI (ss : SetL) : List (Key × V) := ss.map fun p => (Sum.inr p.1, V.int p.2)
abbrev SpH := List (Str × V × Span)
def kvS (L : SpH) : List (Key × V) := L.map fun q => (Sum.inr q.1, q.2.1)
def tsOf (L : SpH) : SpanL := L.map fun q => (q.1, q.2.2)
/-- a stretch as a value -/
def SpanV (K : PySem.W.Frag) (H : Hp) (v : V) : Span → Prop
  | none => v = .non
  | some q => ∃ t, v = .ref t ∧ SqT K H t [.int q.1, .int q.2]
theorem SpanV.of {K : PySem.W.Frag} {H H' : Hp} {v : V} {o : Span} (s : Same H H') (h : SpanV K H v o) : SpanV K H' v o := by
  cases o with
  | none => exact h
  | some q =>
    obtain ⟨t, e, ht⟩ := h
    exact ⟨t, e, Same.tup s ht⟩
def SpansV (K : PySem.W.Frag) (H : Hp) (L : SpH) : Prop := ∀ q ∈ L, SpanV K H q.2.1 q.2.2
theorem SpansV.of {K : PySem.W.Frag} {H H' : Hp} {L : SpH} (s : Same H H') (h : SpansV K H L) : SpansV K H' L := fun q hq => (h q hq).of s
def SetR (H : Hp) (a : Addr) (ss : SetL) : Prop := Rd H a (.dK (kvI ss))
def SpanR (K : PySem.W.Frag) (H : Hp) (a : Addr) (ts : SpanL) : Prop := ∃ L, tsOf L = ts ∧ Rd H a (.dK (kvS L)) ∧ SpansV K H L
def SetF (H : Hp) (a : Addr) (ss : SetL) : Prop := ∃ od, H a = some (.frz od (.dK (kvI ss)))
def SpanF (K : PySem.W.Frag) (H : Hp) (a : Addr) (ts : SpanL) : Prop := ∃ L od, tsOf L = ts ∧ H a = some (.frz od (.dK (kvS L))) ∧ SpansV K H L
theorem SetF.r {H : Hp} {a : Addr} {ss : SetL} (h : SetF H a ss) : SetR H a ss := .inr h
theorem SpanF.r {K : PySem.W.Frag} {H : Hp} {a : Addr} {ts : SpanL} (h : SpanF K H a ts) : SpanR K H a ts := by
  obtain ⟨L, od, e, h1, h2⟩ := h
  exact ⟨L, e, .inr ⟨od, h1⟩, h2⟩
theorem SetR.of {H H' : Hp} {a : Addr} {ss : SetL} (s : Same H H') (h : SetR H a ss) : SetR H' a ss := rd_same s h
theorem SpanR.of {K : PySem.W.Frag} {H H' : Hp} {a : Addr} {ts : SpanL} (s : Same H H') (h : SpanR K H a ts) : SpanR K H' a ts := by
  obtain ⟨L, e, h1, h2⟩ := h
  exact ⟨L, e, rd_same s h1, h2.of s⟩
theorem SetF.of {H H' : Hp} {a : Addr} {ss : SetL} (s : Same H H') (h : SetF H a ss) : SetF H' a ss := h.elim fun od e => ⟨od, s _ _ e⟩
theorem SpanF.of {K : PySem.W.Frag} {H H' : Hp} {a : Addr} {ts : SpanL} (s : Same H H') (h : SpanF K H a ts) : SpanF K H' a ts := by
  obtain ⟨L, od, e, h1, h2⟩ := h
  exact ⟨L, od, e, s _ _ h1, h2.of s⟩
theorem span_dp {K : PySem.W.Frag} {H : Hp} {v : V} {o : Span} (h : SpanV K H v o) : Dp K H v (pdO o) := by
  cases o with
  | none =>
    cases (show v = .non from h)
    exact .non
  | some q =>
    obtain ⟨t, rfl, ht⟩ := h
    exact .tup ht (.cons (.int _) (.cons (.int _) .nil))
theorem span_shaped (o : Span) : SeqAt.shaped (pdO o) = true := by
  unfold SeqAt.shaped
  cases o with
  | none => decide +kernel
  | some q =>
    rw [Bool.and_eq_true]
    exact ⟨rfl, decide_eq_true (by show PyData.depth (.tuple [.int q.1, .int q.2]) ≤ 64; simp [PyData.depth, PyData.depthAll])⟩
theorem set_dd {K : PySem.W.Frag} {H : Hp} {a : Addr} {ss : SetL} (h : SetR H a ss) : DDp K H a (pdD pdI ss) := by
  refine ⟨ss.map fun p => (p.1, V.int p.2, pdI p.2), ?_, ?_, fun q hq => ?_⟩
  · rw [List.map_map]; rfl
  · rw [List.map_map]; exact h
  · obtain ⟨p, _, rfl⟩ := List.mem_map.mp hq
    exact ⟨.int _, rfl⟩
theorem span_dd {K : PySem.W.Frag} {H : Hp} {a : Addr} {ts : SpanL} (h : SpanR K H a ts) : DDp K H a (pdD pdO ts) := by
  obtain ⟨L, rfl, h1, h2⟩ := h
  refine ⟨L.map fun q => (q.1, q.2.1, pdO q.2.2), ?_, ?_, fun q hq => ?_⟩
  · unfold tsOf pdD; rw [List.map_map, List.map_map]; rfl
  · rw [List.map_map]; exact h1
  · obtain ⟨p, hp, rfl⟩ := List.mem_map.mp hq
    exact ⟨span_dp (h2 p hp), span_shaped _⟩
theorem ne_ss : ¬ (("settings" : Str) = "stretches") := by decide +kernel
theorem ne_ts : ¬ (("stretches" : Str) = "settings") := by decide +kernel
def af1 (a : V) : List (Str × V) := putF "settings" a []
def af2 (a b : V) : List (Str × V) := putF "stretches" b (af1 a)
theorem af1_set (a : V) : (af1 a).lookup ("settings" : Str) = some a := by unfold af1; rw [lookup_putF, if_pos rfl]
theorem af2_set (a b : V) : (af2 a b).lookup ("settings" : Str) = some a := by unfold af2; rw [lookup_putF, if_neg ne_ss, af1_set]
theorem af2_str (a b : V) : (af2 a b).lookup ("stretches" : Str) = some b := by unfold af2; rw [lookup_putF, if_pos rfl]
/-- an arrangement -/
structure ArrAt (K : PySem.W.Frag) (C : Addr) (H : Hp) (p : Addr) (ss : SetL) (ts : SpanL) : Prop where
  ex : ∃ dx a b, H p = some (.ins C dx (af2 (.ref a) (.ref b))) ∧ SetF H a ss ∧ SpanF K H b ts
theorem ArrAt.of {K : PySem.W.Frag} {C : Addr} {H H' : Hp} {p : Addr} {ss : SetL} {ts : SpanL} (s : Same H H') (h : ArrAt K C H p ss ts) : ArrAt K C H' p ss ts := by
  obtain ⟨dx, a, b, h1, h2, h3⟩ := h.ex
  exact ⟨dx, a, b, s _ _ h1, h2.of s, h3.of s⟩
structure TxtA (K : PySem.W.Frag) (mg : Str → Option Value) (C : Addr) : Prop where
  cl : Cls K C
  nS : NoAttr K C "settings"
  nT : NoAttr K C "stretches"
  gA : mg "Arrangement" = some (.ref C)
  dict : mg "dict" = none
  tuple : mg "tuple" = none
  sor : mg "sorted" = none
  isinstance : mg "isinstance" = none
def spContains (K : PySem.W.Frag) : Sp := fun vs H Q _ => ∃ v o z, vs = [v, .int z] ∧ SpanV K H v o ∧ Q (.bl (inSp z o)) H
def spMoved (K : PySem.W.Frag) : Sp := fun vs H Q _ => ∃ v o z, vs = [v, .int z] ∧ SpanV K H v o ∧ ∀ H' v', Same H H' → SpanV K H' v' (mvSp z o) → Q v' H'
def spTurned (K : PySem.W.Frag) : Sp := fun vs H Q _ => ∃ v o, vs = [v] ∧ SpanV K H v o ∧ ∀ H' v', Same H H' → SpanV K H' v' (tnSp o) → Q v' H'
section
variable {P : Program} {w : World} {K : PySem.W.Frag} {mg : Str → Option Value} {base : Heap} {C : Addr}
theorem scContains : FnScope ["stretch", "setting"] ["stretch", "setting"] (defScope sContains) := ⟨rfl, rfl, rfl, by decide +kernel, rfl, by decide +kernel, by decide +kernel⟩
theorem ok_contains {f : Addr} {fd : FuncData} (F : Fun K "_contains" "_contains" sContains f fd) : FnOk P w K mg base CX0 1 f fd ["stretch", "setting"] (spContains K) := by
  refine F.ok scContains (fun vs H Q E h => ?_) (fun cdv A outer s H vs Q E hr h => ?_)
  · obtain ⟨v, o, z, rfl, _⟩ := h
    rfl
  · obtain ⟨v, o, z, rfl, hv, k⟩ := h
    refine ⟨_, pss_one (ps_ret (pe_and (pe_cmpR op_notN (pv 0) pe_non (nomark _)) (pe_one (pe_chain op_le op_le (pe_ix ix_tup (pv 0) pe_int (fun _ _ => rfl)) (pv 1) (pe_ix ix_tup (pv 0) pe_int (fun _ _ => rfl)))))), ?_⟩
    cases o with
    | none =>
      cases (show v = .non from hv)
      exact ⟨_, rfl, rfl, false, rfl, iteF k⟩
    | some q =>
      obtain ⟨t, rfl, ht⟩ := hv
      refine ⟨_, rfl, rfl, true, rfl, iteT ?_⟩
      refine ⟨_, rfl, t, _, 0, _, rfl, rfl, ht, rfl, ?_⟩
      refine ⟨_, rfl, _, _, rfl, rfl, _, rfl, ?_⟩
      have k : Q (.bl (decide (q.1 ≤ z) && decide (z ≤ q.2))) H := k
      by_cases h : q.1 ≤ z
      · refine iteY (decide_eq_true h) ⟨_, rfl, t, _, 1, _, rfl, rfl, ht, rfl, _, _, rfl, rfl, ?_⟩
        rw [decide_eq_true h, Bool.true_and] at k
        exact k
      · refine iteZ (decide_eq_false h) ?_
        rw [decide_eq_false h, Bool.false_and] at k
        exact k
theorem scMoved : FnScope ["stretch", "distance"] ["stretch", "distance"] (defScope sMoved) := ⟨rfl, rfl, rfl, by decide +kernel, rfl, by decide +kernel, by decide +kernel⟩
theorem ok_moved {f : Addr} {fd : FuncData} (F : Fun K "_moved" "_moved" sMoved f fd) : FnOk P w K mg base CX0 1 f fd ["stretch", "distance"] (spMoved K) := by
  refine F.ok scMoved (fun vs H Q E h => ?_) (fun cdv A outer s H vs Q E hr h => ?_)
  · obtain ⟨v, o, z, rfl, _⟩ := h
    rfl
  · obtain ⟨v, o, z, rfl, hv, k⟩ := h
    refine ⟨_, pss_one (ps_ret (pe_ifExp (pt_cmpR op_isN (pv 0) pe_non (nomark _)) pe_non (pe_tup (pa_cons (pe_op op_add (pe_ix ix_tup (pv 0) pe_int (fun _ _ => rfl)) (pv 1)) (pa_cons (pe_op op_add (pe_ix ix_tup (pv 0) pe_int (fun _ _ => rfl)) (pv 1)) pa_nil))))), ?_⟩
    cases o with
    | none =>
      cases (show v = .non from hv)
      exact ⟨_, rfl, rfl, true, rfl, iteT (k _ _ (Same.refl _) rfl)⟩
    | some q =>
      obtain ⟨t, rfl, ht⟩ := hv
      refine ⟨_, rfl, rfl, false, rfl, iteF ?_⟩
      refine ⟨_, rfl, t, _, 0, _, rfl, rfl, ht, rfl, _, rfl, _, _, rfl, rfl, ?_⟩
      refine ⟨_, rfl, t, _, 1, _, rfl, rfl, ht, rfl, _, rfl, _, _, rfl, rfl, ?_⟩
      exact ⟨by show 2 ≤ sizeLine; decide, fun u hu => k _ _ (Same.upd_new hu) ⟨u, rfl, SqT.of upd_same⟩⟩
theorem scTurned : FnScope ["stretch"] ["stretch"] (defScope sTurned) := ⟨rfl, rfl, rfl, by decide +kernel, rfl, by decide +kernel, by decide +kernel⟩
theorem ok_turned {f : Addr} {fd : FuncData} (F : Fun K "_turned" "_turned" sTurned f fd) : FnOk P w K mg base CX0 1 f fd ["stretch"] (spTurned K) := by
  refine F.ok scTurned (fun vs H Q E h => ?_) (fun cdv A outer s H vs Q E hr h => ?_)
  · obtain ⟨v, o, rfl, _⟩ := h
    rfl
  · obtain ⟨v, o, rfl, hv, k⟩ := h
    refine ⟨_, pss_one (ps_ret (pe_ifExp (pt_cmpR op_isN (pv 0) pe_non (nomark _)) pe_non (pe_tup (pa_cons (pe_un un_neg (pe_ix ix_tup (pv 0) pe_int (fun _ _ => rfl))) (pa_cons (pe_un un_neg (pe_ix ix_tup (pv 0) pe_int (fun _ _ => rfl))) pa_nil))))), ?_⟩
    cases o with
    | none =>
      cases (show v = .non from hv)
      exact ⟨_, rfl, rfl, true, rfl, iteT (k _ _ (Same.refl _) rfl)⟩
    | some q =>
      obtain ⟨t, rfl, ht⟩ := hv
      refine ⟨_, rfl, rfl, false, rfl, iteF ?_⟩
      refine ⟨_, rfl, t, _, 1, _, rfl, rfl, ht, rfl, _, rfl, ?_⟩
      refine ⟨_, rfl, t, _, 0, _, rfl, rfl, ht, rfl, _, rfl, ?_⟩
      exact ⟨by show 2 ≤ sizeLine; decide, fun u hu => k _ _ (Same.upd_new hu) ⟨u, rfl, SqT.of upd_same⟩⟩
end
end Dl

/-! the methods of an arrangement -/
namespace Dl
open PySem PySem.Spec PyProof.Rows L2
def spArrInit (K : PySem.W.Frag) (C : Addr) : Sp := fun vs H Q _ => ∃ (H0 : Hp) (p dx a b : Addr) (ss : SetL) (ts : SpanL), vs = [.ref p, .ref a, .ref b] ∧ Same H0 H ∧ H0 p = none ∧ H p = some (.ins C dx []) ∧ SetR H0 a ss ∧ SpanR K H0 b ts ∧ ∀ H', Same H0 H' → ArrAt K C H' p ss ts → Q .non H'
def spArrCall (K : PySem.W.Frag) (C : Addr) : Sp := fun vs H Q _ => ∃ p ss ts z, vs = [.ref p, .int z] ∧ ArrAt K C H p ss ts ∧ (ts.map (·.1)).Nodup ∧ ts.length < 64 ∧ ∀ H' t ys, Same H H' → H' t = some (.tup (ys.map V.str)) → sortedS ys = true → ys.Perm (glow ts z) → Q (.ref t) H'
def spArrAdd (K : PySem.W.Frag) (C : Addr) : Sp := fun vs H Q _ => ∃ p ss ts d, vs = [.ref p, .int d] ∧ ArrAt K C H p ss ts ∧ (ss.map (·.1)).Nodup ∧ (ts.map (·.1)).Nodup ∧ ss.length < 64 ∧ ts.length < 64 ∧ ∀ H' r, Same H H' → H r = none → ArrAt K C H' r (shL d ss) (mvL d ts) → Q (.ref r) H'
def spArrNeg (K : PySem.W.Frag) (C : Addr) : Sp := fun vs H Q _ => ∃ p ss ts, vs = [.ref p] ∧ ArrAt K C H p ss ts ∧ (ss.map (·.1)).Nodup ∧ (ts.map (·.1)).Nodup ∧ ss.length < 64 ∧ ts.length < 64 ∧ ∀ H' r, Same H H' → H r = none → ArrAt K C H' r (ngL ss) (tnL ts) → Q (.ref r) H'
/-- a dict comprehension's walk over texts: the dict so far -/
theorem kv_at {α : Type} {f : α → V} {L : List (Str × α)} {i : Nat} {k : Key} {v : V} (h : (L.map fun p => ((Sum.inr p.1 : Key), f p.2))[i]? = some (k, v)) : ∃ p, L[i]? = some p ∧ p ∈ L ∧ k = .inr p.1 ∧ v = f p.2 := by
  rw [List.getElem?_map] at h
  cases e : L[i]? with
  | none => rw [e] at h; cases h
  | some q =>
    rw [e] at h
    have h := Option.some.inj h
    exact ⟨q, rfl, List.mem_of_getElem? e, (congrArg Prod.fst h).symm, (congrArg Prod.snd h).symm⟩
theorem take_snoc {α : Type} {l : List α} {i : Nat} {x : α} (h : l[i]? = some x) : l.take (i + 1) = l.take i ++ [x] := by rw [List.take_succ, h]; rfl
theorem val_kvI {ss : SetL} (nd : (ss.map (·.1)).Nodup) {p : Str × Int} (h : p ∈ ss) : valV (kvI ss) (.inr p.1) = some (.int p.2) := by
  unfold kvI
  induction ss with
  | nil => cases h
  | cons q r ih =>
    rw [List.map_cons, List.nodup_cons] at nd
    rw [List.map_cons]
    rcases List.mem_cons.mp h with rfl | h
    · exact valV_pos rfl
    · rw [valV_neg fun e => nd.1 (by rw [Sum.inr.inj e]; exact List.mem_map_of_mem h)]
      exact ih nd.2 h
theorem val_kvS {L : SpH} (nd : (L.map (·.1)).Nodup) {p : Str × V × Span} (h : p ∈ L) : valV (kvS L) (.inr p.1) = some p.2.1 := by
  unfold kvS
  induction L with
  | nil => cases h
  | cons q r ih =>
    rw [List.map_cons, List.nodup_cons] at nd
    rw [List.map_cons]
    rcases List.mem_cons.mp h with rfl | h
    · exact valV_pos rfl
    · rw [valV_neg fun e => nd.1 (by rw [Sum.inr.inj e]; exact List.mem_map_of_mem h)]
      exact ih nd.2 h
theorem put_new {kvs : List (Key × V)} {k : Str} (v : V) (h : k ∉ kvs.map fun p => p.1.elim (fun _ => ("" : Str)) id) : putK kvs (.inr k) v = kvs ++ [(.inr k, v)] := by
  refine putK_new v ?_
  cases e : valV kvs (.inr k) with
  | none => rfl
  | some x =>
    unfold valV at e
    cases hf : kvs.find? (fun kv => decide (kv.1 = .inr k)) with
    | none => rw [hf] at e; cases e
    | some q =>
      have m := List.mem_of_find?_eq_some hf
      have q1 : q.1 = .inr k := of_decide_eq_true (by simpa using List.find?_some hf)
      exact absurd (List.mem_map.mpr ⟨q, m, by rw [q1]; rfl⟩) h
theorem glow_snoc (ts : SpanL) (p : Str × Span) (z : Int) : glow (ts ++ [p]) z = glow ts z ++ if inSp z p.2 = true then [p.1] else [] := by
  unfold glow
  rw [List.filter_append, List.map_append]
  congr 1
  by_cases h : inSp z p.2 = true
  · rw [if_pos h]
    show List.map _ (List.filter (fun p => inSp z p.2) [p]) = _
    rw [List.filter_cons_of_pos (p := fun p : Str × Span => inSp z p.2) h]
    rfl
  · rw [if_neg h]
    show List.map _ (List.filter (fun p => inSp z p.2) [p]) = _
    rw [List.filter_cons_of_neg (p := fun p : Str × Span => inSp z p.2) h]
    rfl
theorem glow_len (ts : SpanL) (z : Int) : (glow ts z).length ≤ ts.length := by
  unfold glow
  rw [List.length_map]
  exact List.length_filter_le _ _
theorem tsOf_keys (L : SpH) : (tsOf L).map (·.1) = L.map (·.1) := by unfold tsOf; rw [List.map_map]; rfl
section
variable {P : Program} {w : World} {K : PySem.W.Frag} {mg : Str → Option Value} {base : Heap} {C : Addr}
theorem scArrInit : FnScope ["self", "settings", "stretches"] ["self", "settings", "stretches"] (defScope sArrangementInit) := ⟨rfl, rfl, rfl, by decide +kernel, rfl, by decide +kernel, by decide +kernel⟩
theorem ok_arrinit {f : Addr} {fd : FuncData} (F : Fun K "__init__" "Arrangement.__init__" sArrangementInit f fd) (T : TxtA K mg C) : FnOk P w K mg base CX0 1 f fd ["self", "settings", "stretches"] (spArrInit K C) := by
  refine F.ok scArrInit (fun vs H Q E h => ?_) (fun cdv A outer s H vs Q E hr h => ?_)
  · obtain ⟨H0, p, dx, a, b, ss, ts, rfl, _⟩ := h
    rfl
  · obtain ⟨H0, p, dx, a, b, ss, ts, rfl, s0, np, hp, ha, hb, k⟩ := h
    refine ⟨_, pss_cons (ps_fld (pv 0) (pe_frozen (pe_callTy call_dictD (by rfl) T.dict (by decide +kernel) (pa_cons (pv 1) pa_nil))) rfl) (pss_one (ps_fld (pv 0) (pe_frozen (pe_callTy call_dictD (by rfl) T.dict (by decide +kernel) (pa_cons (pv 2) pa_nil))) rfl)), ?_⟩
    obtain ⟨L, eL, hb, hL⟩ := hb
    refine ⟨_, rfl, a, _, rfl, rd_same s0 ha, fun d hd => ⟨d, _, rfl, upd_same, fun od => ?_⟩⟩
    rw [upd_upd]
    have s1 := Same.upd_new hd (o := .frz od (.dK (kvI ss)))
    have hd1 := upd_same (H := H) (a := d) (o := .frz od (.dK (kvI ss)))
    have hp1 := s1 _ _ hp
    have npd : p ≠ d := ne_of_none hp hd
    have s01 := s0.trans s1
    generalize upd H d (.frz od (.dK (kvI ss))) = H1 at *
    refine ⟨_, rfl, p, C, dx, _, rfl, hp1, T.cl, T.nS, by show 0 < 1000; decide, ?_⟩
    have s12 : Same H0 (upd H1 p (.ins C dx (putF "settings" (V.ref d) []))) := fun c o e => by rw [upd_ne (ne_of_none e np)]; exact s01 _ _ e
    have hd2 : upd H1 p (.ins C dx (putF "settings" (V.ref d) [])) d = some (.frz od (.dK (kvI ss))) := by rw [upd_ne npd.symm]; exact hd1
    have hp2 := upd_same (H := H1) (a := p) (o := .ins C dx (putF "settings" (V.ref d) []))
    have hL2 := hL.of s12
    have hb2 := rd_same s12 hb
    generalize upd H1 p (.ins C dx (putF "settings" (V.ref d) [])) = H2 at *
    refine ⟨_, rfl, b, _, rfl, hb2, fun e he => ⟨e, _, rfl, upd_same, fun oe => ?_⟩⟩
    rw [upd_upd]
    have s3 := Same.upd_new he (o := .frz oe (.dK (kvS L)))
    have he3 := upd_same (H := H2) (a := e) (o := .frz oe (.dK (kvS L)))
    have npe : p ≠ e := ne_of_none hp2 he
    have hp3 := s3 _ _ hp2
    have hd3 := s3 _ _ hd2
    have s03 := s12.trans s3
    have hL3 := hL.of s03
    generalize upd H2 e (.frz oe (.dK (kvS L))) = H3 at *
    refine ⟨_, rfl, p, C, dx, _, rfl, hp3, T.cl, T.nT, (by show 1 < 1000; decide), ?_⟩
    have s4 : Same H0 (upd H3 p (.ins C dx (af2 (.ref d) (.ref e)))) := fun c o q => by rw [upd_ne (ne_of_none q np)]; exact s03 _ _ q
    exact k _ s4 ⟨dx, d, e, upd_same, ⟨od, by rw [upd_ne npd.symm]; exact hd3⟩, L, oe, eL, by rw [upd_ne npe.symm]; exact he3, hL.of s4⟩
theorem scArrCall : FnScope ["self", "setting", "glowing", "lamp"] ["self", "setting"] (defScope sArrangementCall) := ⟨rfl, rfl, rfl, by decide +kernel, rfl, by decide +kernel, by decide +kernel⟩
def tGetSp (K : PySem.W.Frag) (i : Nat) : TE := tDGet (tFld K (tVar 0) "stretches") (tVar i)
theorem ok_arrcall {f : Addr} {fd : FuncData} (F : Fun K "__call__" "Arrangement.__call__" sArrangementCall f fd) (T : TxtA K mg C) (gC : Dfn P w K mg base CX0 1 "_contains" ["stretch", "setting"] (spContains K)) : FnOk P w K mg base CX0 2 f fd ["self", "setting"] (spArrCall K C) := by
  obtain ⟨fC, dC, mC, kC, bC, GC⟩ := gC
  refine F.ok scArrCall (fun vs H Q E h => ?_) (fun cdv A outer s H vs Q E hr h => ?_)
  · obtain ⟨p, ss, ts, z, rfl, _⟩ := h
    rfl
  · obtain ⟨p, ss, ts, z, rfl, ar, nd, few, k⟩ := h
    have hr1 : Room 1 _ := hr
    refine ⟨_, pss_cons (ps_setLc (i := 2) (own := [("lamp", 3)]) (g := gName 3) (tt := tB (tCall (spContains K) [] E0 (tCons (tGetSp K 3) (tCons (tVar 1) tNil)))) (te := tVar 3) rfl scArrCall.nd rfl rfl (sw_true rfl rfl rfl (by decide +kernel)) (pi_keys (pe_fld (pv 0) rfl)) (blkOk_by (N := ["self", "setting", "glowing", "lamp"]) (sc := defScope sArrangementCall) (by decide +kernel))
          (fun _ _ _ _ _ => pg_name (i := 3) scArrCall.nd rfl (Or.inl rfl)) (fun _ _ _ _ _ => pts_one (pt_val (by exact pe_call GC hr1 (by rfl) mC kC bC .nil pass0 (pa_cons (pe_dget (hu_of hr) (pe_fld (pv 0) rfl) (pv 3) (fun _ _ => rfl)) (pa_cons (pv 1) pa_nil))))) (fun _ _ _ _ _ => pv 3))
      (pss_one (ps_ret (pe_callTy call_tuple_of (by rfl) T.tuple (by decide +kernel) (pa_cons (pe_callB cr_sortedS (by rfl) T.sor (by decide +kernel) (pa_cons (pv 2) pa_nil)) pa_nil)))), ?_⟩
    obtain ⟨dx, a, b, hp, hset, L, od, eL, hb, hL⟩ := ar.ex
    subst eL
    rw [tsOf_keys] at nd
    unfold tsOf at few
    rw [List.length_map] at few
    refine ⟨_, rfl, p, C, dx, _, _, rfl, hp, T.cl, T.nT, af2_str _ _, b, od, rfl, .inl ⟨_, hb, fun D hD => lc_it (walk_keys (d := b) (o := od) (kvs := kvS L)) (fun i H' => Same H H' ∧ H' D = some (.lst ((glow (tsOf (L.take i)) z).map V.str))) ⟨Same.upd_new hD, upd_same⟩ (fun i H' _ ⟨s, _⟩ => s _ _ hb) ?_ ?_⟩⟩
    · rintro i v H1 H2 hi ⟨s1, hD1⟩ ⟨rfl, k', v', hv, rfl⟩
      obtain ⟨q, hq, hqm, rfl, rfl⟩ := kv_at hv
      have hp2 := s1 _ _ hp
      have hb2 := s1 _ _ hb
      refine ⟨rfl, _, rfl, p, C, dx, _, _, rfl, hp2, T.cl, T.nT, af2_str _ _, _, rfl, b, _, rfl, .inl ⟨kvS L, .inr q.1, .inr ⟨od, hb2⟩, rfl, (val_kvS nd hqm).symm⟩, _, rfl, q.2.1, q.2.2, z, rfl, (hL q hqm).of s1, _, rfl, ?_⟩
      have e1 : tsOf (L.take (i + 1)) = tsOf (L.take i) ++ [(q.1, q.2.2)] := by unfold tsOf; rw [take_snoc hq, List.map_append]; rfl
      rw [e1, glow_snoc]
      by_cases hz : inSp z q.2.2 = true
      · refine iteY hz ⟨_, rfl, _, hD1, ?_, fun c o e => ?_, ?_⟩
        · rw [List.length_map]
          have := glow_len (tsOf (L.take i)) z
          unfold tsOf at this
          rw [List.length_map, List.length_take] at this
          unfold tsOf
          exact small1000 (by omega)
        · rw [upd_ne (ne_of_none e hD)]
          exact s1 _ _ e
        · rw [upd_same, if_pos hz, List.map_append]
          rfl
      · have hz : inSp z q.2.2 = false := by simpa using hz
        refine iteZ hz ⟨s1, ?_⟩
        rw [if_neg (by rw [hz]; decide), List.append_nil]
        exact hD1
    · rintro H1 ⟨s1, hD1⟩
      have eln : (kvS L).length = L.length := by unfold kvS; rw [List.length_map]
      rw [eln, List.take_length] at hD1
      have gl := glow_len (tsOf L) z
      unfold tsOf at gl
      rw [List.length_map] at gl
      refine ⟨_, rfl, D, _, rfl, SqL.of hD1, by unfold tsOf; omega, fun ys l py sy hl => ?_⟩
      refine ⟨l, _, rfl, .inl ⟨SqL.of upd_same, fun t ht => ?_⟩⟩
      exact k _ t ys (s1.trans ((Same.upd_new hl).trans (Same.upd_new ht))) upd_same sy py
end
end Dl

/-! the methods that make arrangements -/
namespace Dl
open PySem PySem.Spec PyProof.Rows L2
abbrev kvM {α : Type} (M : List (Str × V × α)) : List (Key × V) := M.map fun q => (Sum.inr q.1, q.2.1)
theorem kvM_new {α : Type} {M : List (Str × V × α)} {k : Str} (v : V) (h : k ∉ M.map (·.1)) : putK (kvM M) (.inr k) v = kvM M ++ [(.inr k, v)] := by
  refine put_new v fun m => h ?_
  rw [List.map_map] at m
  exact m
/-- {k: .. for k in a dict of texts} -/
theorem dc_walk {α : Type} {g : α → V} {L : List (Str × α)} {b : Addr} {od : Obj} {H : Hp} {σ : L2.St} {i : Nat} {tv : TE} {Q : Addr → Hp → Prop} {Pb : Hp → V → α → Prop} (nd : (L.map (·.1)).Nodup) (few : L.length < 64)
    (hb : H b = some (.frz od (.dK (L.map fun p => ((Sum.inr p.1 : Key), g p.2))))) (wip : ∀ x, wipe ((wipe σ [i]).set i (some x)) [i] = wipe σ [i]) (get : ∀ x, ((wipe σ [i]).set i (some x))[i]? = some (some x))
    (st : ∀ H1 H2 v a, Same H1 H2 → Pb H1 v a → Pb H2 v a) (st2 : ∀ H1 v a D kvs kvs', H1 D = some (.dK kvs) → Pb H1 v a → Pb (upd H1 D (.dK kvs')) v a)
    (hv : ∀ p ∈ L, ∀ H1, Same H H1 → ∀ Q' : VK, (∀ H3 v', Same H1 H3 → Pb H3 v' p.2 → Q' v' H3) → tv ((wipe σ [i]).set i (some (.str p.1))) H1 Q')
    (k : ∀ H' D (M : List (Str × V × α)), Same H H' → H D = none → H' D = some (.dK (kvM M)) → M.map (fun q => (q.1, q.2.2)) = L → (∀ q ∈ M, Pb H' q.2.1 q.2.2) → Q D H') :
    ∀ D, H D = none → ∃ W : Nat → Nat → Hp → Prop, (∃ m, W 0 m (upd H D (.dK []))) ∧ ∀ j m H1, W j m H1 →
      ((Itk b od (L.map fun p => ((Sum.inr p.1 : Key), g p.2))).stop j H1 ∧ Q D H1) ∨ ((Itk b od (L.map fun p => ((Sum.inr p.1 : Key), g p.2))).go j H1 ∧ ∃ Nx : Hp → Prop, (∀ H', Nx H' → ∃ m', m' < m ∧ W (j + 1) m' H') ∧
        ∀ x H', (Itk b od (L.map fun p => ((Sum.inr p.1 : Key), g p.2))).yld j H1 x H' → gName i x (wipe σ [i]) H' fun σ2 H2 => wipe σ2 [i] = wipe σ [i] ∧ tYes σ2 H2 fun b H3 =>
          if b = true then tVar i σ2 H3 fun y H4 => tv σ2 H4 fun z H5 => ∃ kvs k, y = kV k ∧ H5 D = some (.dK kvs) ∧ kvs.length < sizeLine ∧ Nx (upd H5 D (.dK (putK kvs k z))) else Nx H3) := by
  intro D hD
  refine dc1_it (walk_keys (d := b) (o := od) (kvs := L.map fun p => ((Sum.inr p.1 : Key), g p.2))) (fun j H' => Same H H' ∧ ∃ M : List (Str × V × α), H' D = some (.dK (kvM M)) ∧ M.map (fun q => (q.1, q.2.2)) = L.take j ∧ ∀ q ∈ M, Pb H' q.2.1 q.2.2)
    ⟨Same.upd_new hD, [], upd_same, rfl, fun q hq => absurd hq (by simp)⟩ (fun j H' _ ⟨s, _⟩ => s _ _ hb) ?_ ?_
  · rintro j v H1 H2 hj ⟨s1, M, hM, eM, pM⟩ ⟨rfl, k', v', hx, rfl⟩
    obtain ⟨p, hp, hpm, rfl, rfl⟩ := kv_at hx
    refine ⟨wip _, ?_⟩
    refine ⟨_, get _, hv p hpm H2 s1 _ fun H3 z s3 pz => ?_⟩
    have hM3 := s3 _ _ hM
    have lM := congrArg List.length eM
    rw [List.length_map, List.length_take] at lM
    have eT := take_snoc hp
    have new : p.1 ∉ M.map (·.1) := fun m => by
      have e : M.map (·.1) = (L.take j).map (·.1) := by rw [← eM, List.map_map]; rfl
      have n2 : ((L.take (j + 1)).map (·.1)).Nodup := nd.sublist ((List.take_sublist _ _).map _)
      rw [eT, List.map_append, List.nodup_append] at n2
      rw [e] at m
      exact n2.2.2 _ m _ (List.mem_singleton.mpr rfl) rfl
    refine ⟨_, .inr p.1, rfl, hM3, small1000 (by rw [List.length_map]; omega), fun c o e => ?_, M ++ [(p.1, z, p.2)], ?_, ?_, fun q hq => ?_⟩
    · rw [upd_ne (ne_of_none e hD)]
      exact s3 _ _ (s1 _ _ e)
    · rw [upd_same, kvM_new z new]
      unfold kvM
      rw [List.map_append]
      rfl
    · rw [List.map_append, eM, eT]
      rfl
    · rcases List.mem_append.mp hq with h | h
      · exact st2 _ _ _ _ _ _ hM3 (st _ _ _ _ s3 (pM q h))
      · rw [List.mem_singleton.mp h]
        exact st2 _ _ _ _ _ _ hM3 pz
  · rintro H1 ⟨s1, M, hM, eM, pM⟩
    rw [List.length_map, List.take_length] at eM
    exact k H1 D M s1 hD hM eM pM
theorem updD_tup {K : PySem.W.Frag} {H : Hp} {D a : Addr} {xs : List V} {kvs kvs' : List (Key × V)} (hD : H D = some (.dK kvs)) (h : SqT K H a xs) : SqT K (upd H D (.dK kvs')) a xs := by
  have ne : ∀ {o : HO}, H a = some o → (∀ l, o ≠ .dK l) → a ≠ D := fun e n q => by rw [q, hD] at e; exact n _ (Option.some.inj e).symm
  rcases h with (h | ⟨o, h⟩) | h
  · exact .inl (.inl (by rw [upd_ne (ne h fun l e => by cases e)]; exact h))
  · exact .inl (.inr ⟨o, by rw [upd_ne (ne h fun l e => by cases e)]; exact h⟩)
  · exact .inr h
theorem updD_span {K : PySem.W.Frag} {H : Hp} {D : Addr} {v : V} {o : Span} {kvs kvs' : List (Key × V)} (hD : H D = some (.dK kvs)) (h : SpanV K H v o) : SpanV K (upd H D (.dK kvs')) v o := by
  cases o with
  | none => exact h
  | some q =>
    obtain ⟨t, e, ht⟩ := h
    exact ⟨t, e, updD_tup hD ht⟩
theorem set_of_M {H : Hp} {D : Addr} {f : Int → Int} {M : List (Str × V × Int)} {ss : SetL} (h : H D = some (.dK (kvM M))) (e : M.map (fun q => (q.1, q.2.2)) = ss) (p : ∀ q ∈ M, q.2.1 = .int (f q.2.2)) : SetR H D (ss.map fun p => (p.1, f p.2)) := by
  refine .inl ?_
  rw [h, ← e]
  unfold kvI kvM
  rw [List.map_map, List.map_map]
  congr 2
  refine List.map_congr_left fun q hq => ?_
  rw [p q hq]
  rfl
theorem span_of_M {K : PySem.W.Frag} {H : Hp} {D : Addr} {f : Span → Span} {M : List (Str × V × V × Span)} {L : SpH} (h : H D = some (.dK (kvM M))) (e : M.map (fun q => (q.1, q.2.2)) = L) (p : ∀ q ∈ M, SpanV K H q.2.1 (f q.2.2.2)) : SpanR K H D ((tsOf L).map fun p => (p.1, f p.2)) := by
  refine ⟨M.map fun q => (q.1, q.2.1, f q.2.2.2), ?_, .inl ?_, fun q hq => ?_⟩
  · rw [← e]
    unfold tsOf
    rw [List.map_map, List.map_map, List.map_map]
    rfl
  · rw [h]
    unfold kvS kvM
    rw [List.map_map]
    rfl
  · obtain ⟨r, hr, rfl⟩ := List.mem_map.mp hq
    exact p r hr
/-- what the class has -/
structure ArrM (P : Program) (w : World) (K : PySem.W.Frag) (mg : Str → Option Value) (base : Heap) (C : Addr) : Prop where
  txt : TxtA K mg C
  init : ∃ fI dI, Mk K C fI ∧ FnOk P w K mg base CX0 1 fI dI ["self", "settings", "stretches"] (spArrInit K C) ∧ Binds K dI ["self", "settings", "stretches"] []
theorem arr_make {K : PySem.W.Frag} {C : Addr} {H : Hp} {a b : Addr} {ss : SetL} {ts : SpanL} {Q : VK} {E : XK} (ha : SetR H a ss) (hb : SpanR K H b ts) (k : ∀ H' r, Same H H' → H r = none → ArrAt K C H' r ss ts → Q (.ref r) H') :
    ∀ x dx, H x = none → H dx = none → dx ≠ x → spArrInit K C (.ref x :: [.ref a, .ref b]) (upd (upd H dx (.own x)) x (.ins C dx [])) (fun v H2 => v = .non ∧ Q (.ref x) H2) E := fun x dx nx ndx nex => by
  have sm : Same H (upd (upd H dx (.own x)) x (.ins C dx [])) := fun c o e => by rw [upd_ne (ne_of_none e nx), upd_ne (ne_of_none e ndx)]; exact e
  exact ⟨H, x, dx, a, b, ss, ts, rfl, sm, nx, upd_same, ha, hb, fun H' s at_ => ⟨rfl, k H' x s nx at_⟩⟩
section
variable {P : Program} {w : World} {K : PySem.W.Frag} {mg : Str → Option Value} {base : Heap} {C : Addr}
theorem scArrAdd : FnScope ["self", "other", "settings", "stretches", "look", "lamp"] ["self", "other"] (defScope sArrangementAdd) := ⟨rfl, rfl, rfl, by decide +kernel, rfl, by decide +kernel, by decide +kernel⟩
def tGetSet (K : PySem.W.Frag) (i : Nat) : TE := tDGet (tFld K (tVar 0) "settings") (tVar i)
theorem ok_arradd {f : Addr} {fd : FuncData} (F : Fun K "__add__" "Arrangement.__add__" sArrangementAdd f fd) (T : ArrM P w K mg base C) (gM : Dfn P w K mg base CX0 1 "_moved" ["stretch", "distance"] (spMoved K)) : FnOk P w K mg base CX0 3 f fd ["self", "other"] (spArrAdd K C) := by
  obtain ⟨fM, dM, mM, kM, bM, GM⟩ := gM
  obtain ⟨TT, fI, dI, MI, GI, bI⟩ := T
  refine F.ok scArrAdd (fun vs H Q E h => ?_) (fun cdv A outer s H vs Q E hr h => ?_)
  · obtain ⟨p, ss, ts, d, rfl, _⟩ := h
    rfl
  · obtain ⟨p, ss, ts, d, rfl, ar, nd, nt, fs, ft, k⟩ := h
    have hr1 : Room 1 _ := hr.mono (by decide)
    have hr2 : Room 2 _ := hr.mono (by decide)
    refine ⟨_, pss_cons (ps_setDc1 (i := 2) (own := [("look", 4)]) (g := gName 4) (tt := tYes) (tk := tVar 4) (tv := tOp (rI0 fun i j => .int (i + j)) (tGetSet K 4) (tVar 1)) rfl scArrAdd.nd rfl rfl (sw_dict rfl rfl rfl (by decide +kernel)) (pi_keys (pe_fld (pv 0) rfl)) (blkOk_by (N := ["self", "other", "settings", "stretches", "look", "lamp"]) (sc := defScope sArrangementAdd) (by decide +kernel))
          (fun _ _ _ _ _ => pg_name (i := 4) scArrAdd.nd rfl (Or.inl rfl)) (fun _ _ _ _ _ => pts_nil) (fun _ _ _ _ _ => pv 4) (fun _ _ _ _ _ => by exact pe_op op_add (pe_dget (hu_of hr) (pe_fld (pv 0) rfl) (pv 4) (fun _ _ => rfl)) (pv 1)))
      (pss_cons (ps_setDc1 (i := 3) (own := [("lamp", 5)]) (g := gName 5) (tt := tYes) (tk := tVar 5) (tv := tCall (spMoved K) [] E0 (tCons (tGetSp K 5) (tCons (tVar 1) tNil))) rfl scArrAdd.nd rfl rfl (sw_dict rfl rfl rfl (by decide +kernel)) (pi_keys (pe_fld (pv 0) rfl)) (blkOk_by (N := ["self", "other", "settings", "stretches", "look", "lamp"]) (sc := defScope sArrangementAdd) (by decide +kernel))
          (fun _ _ _ _ _ => pg_name (i := 5) scArrAdd.nd rfl (Or.inl rfl)) (fun _ _ _ _ _ => pts_nil) (fun _ _ _ _ _ => pv 5) (fun _ _ _ _ _ => by exact pe_call GM hr1 (by rfl) mM kM bM .nil pass0 (pa_cons (pe_dget (hu_of hr) (pe_fld (pv 0) rfl) (pv 5) (fun _ _ => rfl)) (pa_cons (pv 1) pa_nil))))
      (pss_one (ps_ret (pe_make MI GI hr2 (by rfl) TT.gA bI .nil pass0 (pa_cons (pv 2) (pa_cons (pv 3) pa_nil)))))), ?_⟩
    obtain ⟨dx, a, b, hp, ⟨oa, ha⟩, L, ob, eL, hb, hL⟩ := ar.ex
    subst eL
    rw [tsOf_keys] at nt
    unfold tsOf at ft
    rw [List.length_map] at ft
    refine ⟨_, rfl, p, C, dx, _, _, rfl, hp, TT.cl, TT.nS, af2_set _ _, a, oa, rfl, .inl ⟨_, ha, dc_walk (i := 4) (L := ss) (tv := tOp (rI0 fun i j => .int (i + j)) (tGetSet K 4) (tVar 1)) (g := V.int) (Pb := fun _ v i => v = .int (i + d)) nd fs ha (fun _ => by rfl) (fun _ => by rfl) (fun _ _ _ _ _ h => h) (fun _ _ _ _ _ _ _ h => h) (fun q hq H1 s1 Q' k' => ?_) (fun H1 D M s1 nD hD eM pM => ?_)⟩⟩
    · refine ⟨_, rfl, p, C, dx, _, _, rfl, s1 _ _ hp, TT.cl, TT.nS, af2_set _ _, _, rfl, a, _, rfl, .inl ⟨kvI ss, .inr q.1, .inr ⟨oa, s1 _ _ ha⟩, rfl, (val_kvI nd hq).symm⟩, _, rfl, _, _, rfl, rfl, ?_⟩
      exact k' _ _ (Same.refl _) rfl
    · have set1 : SetR H1 D (shL d ss) := set_of_M (f := fun i => i + d) hD eM pM
      refine ⟨_, rfl, p, C, dx, _, _, rfl, s1 _ _ hp, TT.cl, TT.nT, af2_str _ _, b, ob, rfl, .inl ⟨_, s1 _ _ hb, dc_walk (i := 5) (tv := tCall (spMoved K) [] E0 (tCons (tGetSp K 5) (tCons (tVar 1) tNil))) (g := Prod.fst) (L := L) (Pb := fun H v o => SpanV K H v (mvSp d o.2)) nt ft (s1 _ _ hb) (fun _ => by rfl) (fun _ => by rfl) (fun _ _ _ _ s h => h.of s) (fun _ _ _ _ _ _ hD h => updD_span hD h) (fun q hq H2 s2 Q' k' => ?_) (fun H2 D2 M2 s2 nD2 hD2 eM2 pM2 => ?_)⟩⟩
      · have s12 := s1.trans s2
        exact ⟨_, rfl, p, C, dx, _, _, rfl, s12 _ _ hp, TT.cl, TT.nT, af2_str _ _, _, rfl, b, _, rfl, .inl ⟨kvS L, .inr q.1, .inr ⟨ob, s12 _ _ hb⟩, rfl, (val_kvS nt hq).symm⟩, _, rfl, q.2.1, q.2.2, d, rfl, (hL q hq).of s12, fun H3 v' s3 sv => k' _ _ s3 sv⟩
      · have s12 := s1.trans s2
        refine ⟨_, rfl, _, rfl, arr_make (set1.of s2) (span_of_M (f := mvSp d) hD2 eM2 pM2) fun H4 r s4 nr ar4 => ?_⟩
        exact k H4 r (s12.trans s4) (s12.free nr) ar4
end
end Dl

/-! - and == of arrangements, n + one -/
namespace Dl
open PySem PySem.Spec PyProof.Rows L2
/-- the facts of + with a whole number -/
structure AddF (K : PySem.W.Frag) (C : Addr) : Prop where
  selfF : PySem.W.selfFirst K C = true
  radd : ∃ g, PySem.W.findIn K (.ref C) (PySem.dunderR "add") = some (some (.ref g))
  i1 : ∃ o, PySem.W.findIn K (.type "int") (PySem.dunder "add") = some o
  i2 : ∃ o, PySem.W.findIn K (.type "int") (PySem.dunderR "add") = some o
  s1 : PySem.W.subIn K (.type "int") (.ref C) = some false
  s2 : PySem.W.subIn K (.ref C) (.type "int") = some false
def spArrEq (K : PySem.W.Frag) (C : Addr) : Sp := fun vs H Q _ => (∃ (a : Addr) (y : V) (t : Value), vs = [.ref a, y] ∧ TyOf K H y t ∧ PySem.W.kitOne K t (.ref C) = some false ∧ Q (.bl false) H) ∨
  ∃ (a b : Addr) (ss rs : SetL) (ts us : SpanL), vs = [.ref a, .ref b] ∧ ArrAt K C H a ss ts ∧ ArrAt K C H b rs us ∧ Q (.bl (deq (pdD pdI ss) (pdD pdI rs) && deq (pdD pdO ts) (pdD pdO us))) H
section
variable {P : Program} {w : World} {K : PySem.W.Frag} {mg : Str → Option Value} {base : Heap} {C : Addr}
theorem scArrNeg : FnScope ["self", "settings", "stretches", "look", "lamp"] ["self"] (defScope sArrangementNeg) := ⟨rfl, rfl, rfl, by decide +kernel, rfl, by decide +kernel, by decide +kernel⟩
theorem ok_arrneg {f : Addr} {fd : FuncData} (F : Fun K "__neg__" "Arrangement.__neg__" sArrangementNeg f fd) (T : ArrM P w K mg base C) (gM : Dfn P w K mg base CX0 1 "_turned" ["stretch"] (spTurned K)) : FnOk P w K mg base CX0 3 f fd ["self"] (spArrNeg K C) := by
  obtain ⟨fM, dM, mM, kM, bM, GM⟩ := gM
  obtain ⟨TT, fI, dI, MI, GI, bI⟩ := T
  refine F.ok scArrNeg (fun vs H Q E h => ?_) (fun cdv A outer s H vs Q E hr h => ?_)
  · obtain ⟨p, ss, ts, rfl, _⟩ := h
    rfl
  · obtain ⟨p, ss, ts, rfl, ar, nd, nt, fs, ft, k⟩ := h
    have hr1 : Room 1 _ := hr.mono (by decide)
    have hr2 : Room 2 _ := hr.mono (by decide)
    refine ⟨_, pss_cons (ps_setDc1 (i := 1) (own := [("look", 3)]) (g := gName 3) (tt := tYes) (tk := tVar 3) (tv := tUn (rU fun i => .int (-i)) (tGetSet K 3)) rfl scArrNeg.nd rfl rfl (sw_dict rfl rfl rfl (by decide +kernel)) (pi_keys (pe_fld (pv 0) rfl)) (blkOk_by (N := ["self", "settings", "stretches", "look", "lamp"]) (sc := defScope sArrangementNeg) (by decide +kernel))
          (fun _ _ _ _ _ => pg_name (i := 3) scArrNeg.nd rfl (Or.inl rfl)) (fun _ _ _ _ _ => pts_nil) (fun _ _ _ _ _ => pv 3) (fun _ _ _ _ _ => by exact pe_un un_neg (pe_dget (hu_of hr) (pe_fld (pv 0) rfl) (pv 3) (fun _ _ => rfl))))
      (pss_cons (ps_setDc1 (i := 2) (own := [("lamp", 4)]) (g := gName 4) (tt := tYes) (tk := tVar 4) (tv := tCall (spTurned K) [] E0 (tCons (tGetSp K 4) tNil)) rfl scArrNeg.nd rfl rfl (sw_dict rfl rfl rfl (by decide +kernel)) (pi_keys (pe_fld (pv 0) rfl)) (blkOk_by (N := ["self", "settings", "stretches", "look", "lamp"]) (sc := defScope sArrangementNeg) (by decide +kernel))
          (fun _ _ _ _ _ => pg_name (i := 4) scArrNeg.nd rfl (Or.inl rfl)) (fun _ _ _ _ _ => pts_nil) (fun _ _ _ _ _ => pv 4) (fun _ _ _ _ _ => by exact pe_call GM hr1 (by rfl) mM kM bM .nil pass0 (pa_cons (pe_dget (hu_of hr) (pe_fld (pv 0) rfl) (pv 4) (fun _ _ => rfl)) pa_nil)))
      (pss_one (ps_ret (pe_make MI GI hr2 (by rfl) TT.gA bI .nil pass0 (pa_cons (pv 1) (pa_cons (pv 2) pa_nil)))))), ?_⟩
    obtain ⟨dx, a, b, hp, ⟨oa, ha⟩, L, ob, eL, hb, hL⟩ := ar.ex
    subst eL
    rw [tsOf_keys] at nt
    unfold tsOf at ft
    rw [List.length_map] at ft
    refine ⟨_, rfl, p, C, dx, _, _, rfl, hp, TT.cl, TT.nS, af2_set _ _, a, oa, rfl, .inl ⟨_, ha, dc_walk (i := 3) (L := ss) (tv := tUn (rU fun i => .int (-i)) (tGetSet K 3)) (g := V.int) (Pb := fun _ v i => v = .int (-i)) nd fs ha (fun _ => by rfl) (fun _ => by rfl) (fun _ _ _ _ _ h => h) (fun _ _ _ _ _ _ _ h => h) (fun q hq H1 s1 Q' k' => ?_) (fun H1 D M s1 nD hD eM pM => ?_)⟩⟩
    · refine ⟨_, rfl, p, C, dx, _, _, rfl, s1 _ _ hp, TT.cl, TT.nS, af2_set _ _, _, rfl, a, _, rfl, .inl ⟨kvI ss, .inr q.1, .inr ⟨oa, s1 _ _ ha⟩, rfl, (val_kvI nd hq).symm⟩, _, rfl, ?_⟩
      exact k' _ _ (Same.refl _) rfl
    · have set1 : SetR H1 D (ngL ss) := set_of_M (f := fun i => -i) hD eM pM
      refine ⟨_, rfl, p, C, dx, _, _, rfl, s1 _ _ hp, TT.cl, TT.nT, af2_str _ _, b, ob, rfl, .inl ⟨_, s1 _ _ hb, dc_walk (i := 4) (tv := tCall (spTurned K) [] E0 (tCons (tGetSp K 4) tNil)) (g := Prod.fst) (L := L) (Pb := fun H v o => SpanV K H v (tnSp o.2)) nt ft (s1 _ _ hb) (fun _ => by rfl) (fun _ => by rfl) (fun _ _ _ _ s h => h.of s) (fun _ _ _ _ _ _ hD h => updD_span hD h) (fun q hq H2 s2 Q' k' => ?_) (fun H2 D2 M2 s2 nD2 hD2 eM2 pM2 => ?_)⟩⟩
      · have s12 := s1.trans s2
        exact ⟨_, rfl, p, C, dx, _, _, rfl, s12 _ _ hp, TT.cl, TT.nT, af2_str _ _, _, rfl, b, _, rfl, .inl ⟨kvS L, .inr q.1, .inr ⟨ob, s12 _ _ hb⟩, rfl, (val_kvS nt hq).symm⟩, q.2.1, q.2.2, rfl, (hL q hq).of s12, fun H3 v' s3 sv => k' _ _ s3 sv⟩
      · have s12 := s1.trans s2
        refine ⟨_, rfl, _, rfl, arr_make (set1.of s2) (span_of_M (f := tnSp) hD2 eM2 pM2) fun H4 r s4 nr ar4 => ?_⟩
        exact k H4 r (s12.trans s4) (s12.free nr) ar4

theorem scArrRadd : FnScope ["self", "other"] ["self", "other"] (defScope sArrangementRadd) := ⟨rfl, rfl, rfl, by decide +kernel, rfl, by decide +kernel, by decide +kernel⟩
theorem ok_arrradd {f : Addr} {fd : FuncData} (F : Fun K "__radd__" "Arrangement.__radd__" sArrangementRadd f fd) (A0 : AddF K C) (mA : OwnM P w K mg base C "__add__" 3 ["self", "other"] (spArrAdd K C)) : FnOk P w K mg base CX0 4 f fd ["self", "other"] (spArrAdd K C) := by
  obtain ⟨fA, dA, hA, iA, bA, GA⟩ := mA
  have hA : PySem.W.findIn K (.ref C) (PySem.dunder (Operator.info .Add).2) = some (some (.ref fA)) := hA
  obtain ⟨g, hg⟩ := A0.radd
  obtain ⟨o1, h1⟩ := A0.i1
  obtain ⟨o2, h2⟩ := A0.i2
  have hg : PySem.W.findIn K (.ref C) (PySem.dunderR (Operator.info .Add).2) = some (some (.ref g)) := hg
  have h1 : PySem.W.findIn K (.type "int") (PySem.dunder (Operator.info .Add).2) = some o1 := h1
  have h2 : PySem.W.findIn K (.type "int") (PySem.dunderR (Operator.info .Add).2) = some o2 := h2
  refine F.ok scArrRadd (fun vs H Q E h => ?_) (fun cdv A outer s H vs Q E hr h => ?_)
  · obtain ⟨p, ss, ts, d, rfl, _⟩ := h
    rfl
  · obtain ⟨p, ss, ts, d, rfl, ar, k⟩ := h
    have hr3 : Room 3 _ := hr
    refine ⟨_, pss_one (ps_ret (pe_op (op_binInt GA A0.selfF hA iA hg (.inr ⟨g, rfl⟩) h1 h2 A0.s1 hr3 bA pass0) (pv 0) (pv 1))), ?_⟩
    obtain ⟨dx, a, b, hp, _⟩ := ar.ex
    exact ⟨_, rfl, _, rfl, p, dx, _, d, rfl, hp, rfl, p, ss, ts, d, rfl, ar, k⟩
theorem scArrEq : FnScope ["self", "other"] ["self", "other"] (defScope sArrangementEq) := ⟨rfl, rfl, rfl, by decide +kernel, rfl, by decide +kernel, by decide +kernel⟩
theorem ok_arreq {f : Addr} {fd : FuncData} (F : Fun K "__eq__" "Arrangement.__eq__" sArrangementEq f fd) (T : TxtA K mg C) (ic : C8.InsC K C) : FnOk P w K mg base CX0 1 f fd ["self", "other"] (spArrEq K C) := by
  refine F.ok scArrEq (fun vs H Q E h => ?_) (fun cdv A outer s H vs Q E hr h => ?_)
  · rcases h with ⟨a, y, t, rfl, _⟩ | ⟨a, b, ss, rs, ts, us, rfl, _⟩ <;> rfl
  · have h66 := room66 hr
    refine ⟨_, pss_one (ps_ret (pe_and (pe_callB call_isi (by rfl) T.isinstance (by decide +kernel) (pa_cons (pv 1) (pa_cons (pe_glob (v := .ref C) (by rfl) T.gA rfl) pa_nil))) (pe_and (pe_cmpR (op_eqDD h66) (pe_fld (pv 0) rfl) (pe_fld (pv 1) rfl) (nomark _)) (pe_one (pe_cmpR (op_eqDD h66) (pe_fld (pv 0) rfl) (pe_fld (pv 1) rfl) (nomark _)))))), ?_⟩
    rcases h with ⟨a, y, t, rfl, ty, kt, k⟩ | ⟨a, b, ss, rs, ts, us, rfl, ar, br, k⟩
    · exact ⟨_, rfl, _, _, _, _, false, rfl, ClsV.own C, .base ty, kt, _, rfl, iteF k⟩
    · obtain ⟨dx, p, q, ha, h1, h2⟩ := ar.ex
      obtain ⟨dy, p', q', hb, h3, h4⟩ := br.ex
      refine ⟨_, rfl, _, _, _, _, true, rfl, ClsV.own C, .base (TyOf.ins hb ic.cl ic.ha ic.hn ic.htk ic.hm), ic.me, _, rfl, iteT ?_⟩
      refine ⟨_, rfl, a, C, dx, _, _, rfl, ha, T.cl, T.nS, af2_set _ _, _, rfl, b, C, dy, _, _, rfl, hb, T.cl, T.nS, af2_set _ _, p, p', _, _, rfl, rfl, set_dd h1.r, set_dd h3.r, _, rfl, ?_⟩
      cases e : deq (pdD pdI ss) (pdD pdI rs) with
      | false =>
        rw [e, Bool.false_and] at k
        exact iteF k
      | true =>
        rw [e, Bool.true_and] at k
        exact iteT ⟨_, rfl, a, C, dx, _, _, rfl, ha, T.cl, T.nT, af2_str _ _, _, rfl, b, C, dy, _, _, rfl, hb, T.cl, T.nT, af2_str _ _, q, q', _, _, rfl, rfl, span_dd h2.r, span_dd h4.r, k⟩
end
end Dl

/-! _law_glowing, _law_is_made -/
namespace Dl
open PySem PySem.Spec PyProof.Rows L2
def SetU (H : Hp) (a : Addr) (ss : SetL) : Prop := H a = some (.dK (kvI ss))
def SpanU (K : PySem.W.Frag) (H : Hp) (a : Addr) (ts : SpanL) : Prop := ∃ L, tsOf L = ts ∧ H a = some (.dK (kvS L)) ∧ SpansV K H L
theorem SetU.of {H H' : Hp} {a : Addr} {ss : SetL} (s : Same H H') (h : SetU H a ss) : SetU H' a ss := s _ _ h
theorem SpanU.of {K : PySem.W.Frag} {H H' : Hp} {a : Addr} {ts : SpanL} (s : Same H H') (h : SpanU K H a ts) : SpanU K H' a ts := by
  obtain ⟨L, e, h1, h2⟩ := h
  exact ⟨L, e, s _ _ h1, h2.of s⟩
theorem SetU.r {H : Hp} {a : Addr} {ss : SetL} (h : SetU H a ss) : SetR H a ss := .inl h
theorem SpanU.r {K : PySem.W.Frag} {H : Hp} {a : Addr} {ts : SpanL} (h : SpanU K H a ts) : SpanR K H a ts := by
  obtain ⟨L, e, h1, h2⟩ := h
  exact ⟨L, e, .inl h1, h2⟩
theorem sameB_tup {K : PySem.W.Frag} {b a : Addr} {H H' : Hp} {xs ys : List V} (s : SameB b H H') (hb : H b = some (.lst ys)) (h : SqT K H a xs) : SqT K H' a xs := by
  have ne : ∀ {o : HO}, H a = some o → (∀ l, o ≠ .lst l) → a ≠ b := fun e n q => by rw [q, hb] at e; exact n _ (Option.some.inj e).symm
  rcases h with (h | ⟨o, h⟩) | h
  · exact .inl (.inl (s _ _ (ne h fun l e => by cases e) h))
  · exact .inl (.inr ⟨o, s _ _ (ne h fun l e => by cases e) h⟩)
  · exact .inr h
theorem SpanV.ofB {K : PySem.W.Frag} {b : Addr} {H H' : Hp} {ys : List V} {v : V} {o : Span} (s : SameB b H H') (hb : H b = some (.lst ys)) (h : SpanV K H v o) : SpanV K H' v o := by
  cases o with
  | none => exact h
  | some q =>
    obtain ⟨t, e, ht⟩ := h
    exact ⟨t, e, sameB_tup s hb ht⟩
theorem SpansV.ofB {K : PySem.W.Frag} {b : Addr} {H H' : Hp} {ys : List V} {L : SpH} (s : SameB b H H') (hb : H b = some (.lst ys)) (h : SpansV K H L) : SpansV K H' L := fun q hq => (h q hq).ofB s hb
theorem st_at {L : List Str} {i : Nat} {v : V} (h : (L.map V.str)[i]? = some v) : ∃ q, L[i]? = some q ∧ q ∈ L ∧ v = .str q := by
  rw [List.getElem?_map] at h
  cases e : L[i]? with
  | none => rw [e] at h; cases h
  | some q => rw [e] at h; exact ⟨q, rfl, List.mem_of_getElem? e, (Option.some.inj h).symm⟩
def spGlowing (K : PySem.W.Frag) : Sp := fun vs H Q _ => ∃ l s ls ts z, vs = [.ref l, .ref s, .int z] ∧ H l = some (.lst (ls.map V.str)) ∧ SpanU K H s ts ∧ ls = ts.map (·.1) ∧ (ts.map (·.1)).Nodup ∧ ts.length < 64 ∧ ∀ H' t ys, Same H H' → SqT K H' t (ys.map V.str) → sortedS ys = true → ys.Perm (glow ts z) → Q (.ref t) H'
def spIsMade (K : PySem.W.Frag) (C : Addr) : Sp := fun vs H Q _ => ∃ p a b ss ts rs us, vs = [.ref p, .ref a, .ref b] ∧ ArrAt K C H p ss ts ∧ SetU H a rs ∧ SpanU K H b us ∧ Q (.bl (deq (pdD pdI ss) (pdD pdI rs) && deq (pdD pdO ts) (pdD pdO us))) H
section
variable {P : Program} {w : World} {K : PySem.W.Frag} {mg : Str → Option Value} {base : Heap} {C : Addr}
theorem scGlowing : FnScope ["_law_lamps", "_law_stretches", "_law_setting", "_law_found", "_law_lamp", "_law_ends"] ["_law_lamps", "_law_stretches", "_law_setting"] (defScope sLawGlowing) := ⟨rfl, rfl, rfl, by decide +kernel, rfl, by decide +kernel, by decide +kernel⟩
theorem ok_glowing {f : Addr} {fd : FuncData} (F : Fun K "_law_glowing" "_law_glowing" sLawGlowing f fd) (T : TxtA K mg C) : FnOk P w K mg base CX0 1 f fd ["_law_lamps", "_law_stretches", "_law_setting"] (spGlowing K) := by
  refine F.ok scGlowing (fun vs H Q E h => ?_) (fun cdv A outer s H vs Q E hr h => ?_)
  · obtain ⟨l, s, ls, ts, z, rfl, _⟩ := h
    rfl
  · obtain ⟨l, s, ls, ts, z, rfl, hl, ⟨L, rfl, hs, hL⟩, rfl, nd, few, k⟩ := h
    refine ⟨_, (pss_cons (ps_set (i := 3) scGlowing.nd rfl (Or.inl rfl) (pe_lst pa_nil))
        (pss_cons (ps_for PassesOwn.never rfl (pi_list (pv 0)) (pg_name (i := 4) scGlowing.nd rfl (Or.inl rfl)) (pss_cons (ps_set (i := 5) scGlowing.nd rfl (Or.inl rfl) (pe_dget (hu_of hr) (pv 1) (pv 4) (fun _ _ => rfl)))
        (pss_one (ps_if (PW.pt (pw_and (pt_cmpR op_notN (pv 5) pe_non (nomark _)) (pw_and (pt_cmpR op_le (pe_ix ix_tup (pv 5) pe_int (fun _ _ => rfl)) (pv 2) (nomark _)) (pw_and1 (pt_cmpR op_le (pv 2) (pe_ix ix_tup (pv 5) pe_int (fun _ _ => rfl)) (nomark _)))))) (pss_one (ps_expr (pe_bm PySem.F.plainAttrs_list PySem.F.slot_list_append PySem.F.type_list_append mt_append (pv 3) (pa_cons (pv 4) pa_nil)))) pss_nil))))
        (pss_one (ps_ret (pe_callTy call_tuple_of (by rfl) T.tuple (by decide +kernel) (pa_cons (pe_callB cr_sortedS (by rfl) T.sor (by decide +kernel) (pa_cons (pv 3) pa_nil)) pa_nil)))))), ?_⟩
    rw [tsOf_keys] at hl nd
    have few2 : L.length < 64 := by unfold tsOf at few; rw [List.length_map] at few; exact few
    refine ⟨Nat.zero_le _, fun g hg => ?_⟩
    have s1 := Same.upd_new hg (o := .lst [])
    have hg1 := upd_same (H := H) (a := g) (o := .lst [])
    have nlg : l ≠ g := ne_of_none hl hg
    have nsg : s ≠ g := ne_of_none hs hg
    have hl := s1 _ _ hl
    have hs := s1 _ _ hs
    have hL := hL.of s1
    generalize upd H g (.lst []) = H1 at *
    refine ⟨_, rfl, l, rfl, ⟨_, SqL.of hl⟩, for_it (walk_list (K := K) (a := l) (xs := (L.map (·.1)).map V.str)) (fun i σ H' => ∃ x4 x5, σ = [some (.ref l), some (.ref s), some (.int z), some (.ref g), x4, x5] ∧ SameB g H1 H' ∧ H' g = some (.lst ((glow (tsOf (L.take i)) z).map V.str)))
      ⟨_, _, rfl, SameB.refl _ _, hg1⟩ (fun i σ H' _ ⟨_, _, _, kp, _⟩ => SqL.of (kp _ _ nlg hl)) ?_ ?_⟩
    · rintro i v σ H2 H3 hi ⟨x4, x5, rfl, kp, hg2⟩ ⟨rfl, hv⟩
      obtain ⟨n, hn, _, rfl⟩ := st_at hv
      obtain ⟨q, hq, rfl⟩ : ∃ q, L[i]? = some q ∧ n = q.1 := by
        rw [List.getElem?_map] at hn
        cases e : L[i]? with
        | none => rw [e] at hn; cases hn
        | some q => rw [e] at hn; exact ⟨q, rfl, (Option.some.inj hn).symm⟩
      have hqm := List.mem_of_getElem? hq
      have e1 : tsOf (L.take (i + 1)) = tsOf (L.take i) ++ [(q.1, q.2.2)] := by unfold tsOf; rw [take_snoc hq, List.map_append]; rfl
      have sv := (hL q hqm).ofB kp hg1
      have hs2 := kp _ _ nsg hs
      have put : inSp z q.2.2 = true → ∃ x4 x5, [some (V.ref l), some (V.ref s), some (V.int z), some (V.ref g), some (V.str q.1), some q.2.1] = [some (.ref l), some (.ref s), some (.int z), some (.ref g), x4, x5] ∧ SameB g H1 (upd H3 g (.lst ((glow (tsOf (L.take i)) z).map V.str ++ [V.str q.1]))) ∧
          upd H3 g (.lst ((glow (tsOf (L.take i)) z).map V.str ++ [V.str q.1])) g = some (.lst ((glow (tsOf (L.take (i + 1))) z).map V.str)) := fun hz => by
        refine ⟨_, _, rfl, fun c o n e => by rw [upd_ne n]; exact kp _ _ n e, ?_⟩
        rw [upd_same, e1, glow_snoc, if_pos hz, List.map_append]
        rfl
      have stay : inSp z q.2.2 = false → ∃ x4 x5, [some (V.ref l), some (V.ref s), some (V.int z), some (V.ref g), some (V.str q.1), some q.2.1] = [some (.ref l), some (.ref s), some (.int z), some (.ref g), x4, x5] ∧ SameB g H1 H3 ∧
          H3 g = some (.lst ((glow (tsOf (L.take (i + 1))) z).map V.str)) := fun hz => by
        refine ⟨_, _, rfl, kp, ?_⟩
        rw [e1, glow_snoc, if_neg (by rw [hz]; decide), List.append_nil]
        exact hg2
      have room : ((glow (tsOf (L.take i)) z).map V.str).length < sizeLine := by
        rw [List.length_map]
        have := glow_len (tsOf (L.take i)) z
        unfold tsOf at this
        rw [List.length_map, List.length_take] at this
        unfold tsOf
        exact small1000 (by omega)
      refine ⟨_, rfl, _, rfl, s, q.2.1, rfl, .inl ⟨kvS L, .inr q.1, .inl hs2, rfl, (val_kvS nd hqm).symm⟩, ?_⟩
      cases ho : q.2.2 with
      | none =>
        rw [ho] at sv put stay
        have e2 : q.2.1 = .non := sv
        refine ⟨_, rfl, rfl, _, rfl, ?_⟩
        rw [e2]
        refine iteZ rfl ?_
        rw [e2] at stay
        exact stay rfl
      | some r =>
        rw [ho] at sv put stay
        obtain ⟨t, e2, ht⟩ := sv
        rw [e2] at put stay ⊢
        refine ⟨_, rfl, rfl, true, rfl, iteT ?_⟩
        refine ⟨_, rfl, t, _, 0, _, rfl, rfl, ht, rfl, _, rfl, _, _, rfl, rfl, _, rfl, ?_⟩
        by_cases h1 : r.1 ≤ z
        · refine iteY (decide_eq_true h1) ?_
          refine ⟨_, rfl, _, rfl, t, _, 1, _, rfl, rfl, ht, rfl, _, _, rfl, rfl, _, rfl, ?_⟩
          by_cases h2 : z ≤ r.2
          · refine iteY (decide_eq_true h2) ?_
            exact ⟨_, rfl, .inl ⟨rfl, _, SqL.of hg2⟩, _, rfl, g, _, _, rfl, rfl, hg2, room, put (by show (decide (r.1 ≤ z) && decide (z ≤ r.2)) = true; rw [decide_eq_true h1, decide_eq_true h2]; rfl)⟩
          · exact iteZ (decide_eq_false h2) (stay (by show (decide (r.1 ≤ z) && decide (z ≤ r.2)) = false; rw [decide_eq_false h2, Bool.and_false]))
        · exact iteZ (decide_eq_false h1) (stay (by show (decide (r.1 ≤ z) && decide (z ≤ r.2)) = false; rw [decide_eq_false h1, Bool.false_and]))
    · rintro σ H2 ⟨x4, x5, rfl, kp, hg2⟩
      rw [List.length_map, List.length_map, List.take_length] at hg2
      have sH : Same H H2 := fun c o e => kp _ _ (ne_of_none e hg) (s1 _ _ e)
      have gl := glow_len (tsOf L) z
      unfold tsOf at gl
      rw [List.length_map] at gl
      refine ⟨_, rfl, g, _, rfl, SqL.of hg2, by unfold tsOf; omega, fun ys m py sy hm => ?_⟩
      refine ⟨m, _, rfl, .inl ⟨SqL.of upd_same, fun t ht => ?_⟩⟩
      exact k _ t ys (sH.trans ((Same.upd_new hm).trans (Same.upd_new ht))) (SqT.of upd_same) sy py
end
end Dl

/-! _law_drawn_settings, _law_drawn_stretches -/
namespace Dl
open PySem PySem.Spec PyProof.Rows L2
theorem put_last {kvs : List (Key × V)} {k : Str} {v v' : V} (h : k ∉ kvs.map fun p => p.1.elim (fun _ => ("" : Str)) id) : putK (kvs ++ [(.inr k, v)]) (.inr k) v' = kvs ++ [(.inr k, v')] := by
  have ne : ∀ p ∈ kvs, ¬ p.1 = (.inr k : Key) := fun p hp e => h (List.mem_map.mpr ⟨p, hp, by rw [e]; rfl⟩)
  unfold putK
  rw [if_pos (by rw [List.any_append]; simp)]
  rw [List.map_append]
  congr 1
  · refine (List.map_congr_left fun p hp => ?_).trans (List.map_id _)
    rw [if_neg (ne p hp)]
    rfl
  · rw [List.map_cons, if_pos rfl]
    rfl
theorem new_kvI {ss : SetL} {k : Str} (h : k ∉ ss.map (·.1)) : k ∉ (kvI ss).map fun p => p.1.elim (fun _ => ("" : Str)) id := by
  unfold kvI
  rw [List.map_map]
  exact h
theorem new_kvS {L : SpH} {k : Str} (h : k ∉ L.map (·.1)) : k ∉ (kvS L).map fun p => p.1.elim (fun _ => ("" : Str)) id := by
  unfold kvS
  rw [List.map_map]
  exact h
theorem kvI_snoc (ss : SetL) (p : Str × Int) : kvI (ss ++ [p]) = kvI ss ++ [(.inr p.1, .int p.2)] := by unfold kvI; rw [List.map_append]; rfl
theorem kvS_snoc (L : SpH) (p : Str × V × Span) : kvS (L ++ [p]) = kvS L ++ [(.inr p.1, p.2.1)] := by unfold kvS; rw [List.map_append]; rfl
theorem take_new {l : List Str} (nd : l.Nodup) {i : Nat} {x : Str} (h : l[i]? = some x) : x ∉ l.take i := fun m => by
  have n2 : (l.take (i + 1)).Nodup := nd.sublist (List.take_sublist _ _)
  rw [take_snoc h, List.nodup_append] at n2
  exact n2.2.2 _ m _ (List.mem_singleton.mpr rfl) rfl
def spDSets : Sp := fun vs H Q _ => ∃ (b l : Addr) (L : List Int) (zs : List Str), vs = [.ref b, .ref l] ∧ H b = some (.lst (L.map V.int)) ∧ BagOk L ∧ H l = some (.lst (zs.map V.str)) ∧ l ≠ b ∧ zs.Nodup ∧ zs.length < 64 ∧
  ∀ (H' : Hp) (d : Addr) (L' : List Int) (ss : SetL), SameB b H H' → H d = none → H' b = some (.lst (L'.map V.int)) → BagOk L' → SetU H' d ss → ss.map (·.1) = zs → Q (.ref d) H'
def spDStrs (K : PySem.W.Frag) : Sp := fun vs H Q _ => ∃ (b l : Addr) (L : List Int) (zs : List Str), vs = [.ref b, .ref l] ∧ H b = some (.lst (L.map V.int)) ∧ BagOk L ∧ H l = some (.lst (zs.map V.str)) ∧ l ≠ b ∧ zs.Nodup ∧ zs.length < 64 ∧
  ∀ (H' : Hp) (d : Addr) (L' : List Int) (ts : SpanL), SameB b H H' → H d = none → H' b = some (.lst (L'.map V.int)) → BagOk L' → SpanU K H' d ts → ts.map (·.1) = zs → Q (.ref d) H'
section
variable {P : Program} {w : World} {K : PySem.W.Frag} {mg : Str → Option Value} {base : Heap} {C : Addr}
theorem scDSets : FnScope ["_law_bag_here", "_law_looks", "_law_settings", "_law_look"] ["_law_bag_here", "_law_looks"] (defScope sLawDrawnSettings) := ⟨rfl, rfl, rfl, by decide +kernel, rfl, by decide +kernel, by decide +kernel⟩
theorem ok_dsets {f : Addr} {fd : FuncData} (F : Fun K "_law_drawn_settings" "_law_drawn_settings" sLawDrawnSettings f fd) (gT : Dfn P w K mg base CX0 1 "_law_take" ["_law_bag_here", "_law_size"] spTake) : FnOk P w K mg base CX0 2 f fd ["_law_bag_here", "_law_looks"] spDSets := by
  obtain ⟨fT, dT, mTake, kTake, bTake, GTake⟩ := gT
  refine F.ok scDSets (fun vs H Q E h => ?_) (fun cdv A outer s H vs Q E hr h => ?_)
  · obtain ⟨b, l, L, zs, rfl, _⟩ := h
    rfl
  · obtain ⟨b, l, L, zs, rfl, hb, okL, hl, nlb, nd, few, k⟩ := h
    have hr1 : Room 1 _ := hr.mono (by decide)
    refine ⟨_, (pss_cons (ps_set (i := 2) scDSets.nd rfl (Or.inl rfl) pe_dnewK)
        (pss_cons (ps_for PassesOwn.never rfl (pi_list (pv 1)) (pg_name (i := 3) scDSets.nd rfl (Or.inl rfl)) (pss_cons (ps_dput (hu_of hr) (pv 2) (pv 3) (pe_op op_sub (pe_call GTake hr1 (by rfl) mTake kTake bTake .nil pass0 (pa_cons (pv 0) (pa_cons pe_int pa_nil))) pe_int) rfl)
        (pss_one (ps_if (pt_cmpR op_eq (pe_call GTake hr1 (by rfl) mTake kTake bTake .nil pass0 (pa_cons (pv 0) (pa_cons pe_int pa_nil))) pe_int (nomark _)) (pss_one (ps_dput (hu_of hr) (pv 2) (pv 3) (pe_op op_sub (pe_call GTake hr1 (by rfl) mTake kTake bTake .nil pass0 (pa_cons (pv 0) (pa_cons (pe_op op_pow pe_int pe_int) pa_nil))) (pe_op op_mul pe_int (pe_op op_pow pe_int pe_int))) rfl)) pss_nil))))
        (pss_one (ps_ret (pv 2))))), ?_⟩
    refine fun d hd => ?_
    have ndb : d ≠ b := fun e => by rw [e, hb] at hd; cases hd
    have ndl : d ≠ l := fun e => by rw [e, hl] at hd; cases hd
    refine ⟨_, rfl, l, rfl, ⟨_, SqL.of (by rw [upd_ne ndl.symm]; exact hl)⟩, for_it (walk_list (K := K) (a := l) (xs := zs.map V.str)) (fun i σ H' => ∃ x3 L' ss, σ = [some (.ref b), some (.ref l), some (.ref d), x3] ∧ SameB b H H' ∧ H' b = some (.lst (L'.map V.int)) ∧ BagOk L' ∧ SetU H' d ss ∧ ss.map (·.1) = zs.take i)
      ⟨_, L, [], rfl, SameB.of (Same.upd_new hd), by rw [upd_ne ndb.symm]; exact hb, okL, upd_same, rfl⟩ (fun i σ H' _ ⟨_, _, _, _, s, _⟩ => SqL.of (s _ _ nlb hl)) ?_ ?_⟩
    · rintro i v σ H2 H3 hi ⟨x3, L2, ss, rfl, s2, hb2, ok2, hd2, es⟩ ⟨rfl, hv⟩
      obtain ⟨n, hn, _, rfl⟩ := st_at hv
      have new : n ∉ ss.map (·.1) := by rw [es]; exact take_new nd hn
      have es2 : ∀ z : Int, (ss ++ [(n, z)]).map (·.1) = zs.take (i + 1) := fun z => by rw [List.map_append, es, take_snoc hn]; rfl
      have lss : (kvI ss).length ≤ 63 := by
        have := congrArg List.length es
        rw [List.length_map, List.length_take] at this
        unfold kvI
        rw [List.length_map]
        omega
      refine ⟨_, rfl, b, L2, 15, rfl, hb2, ok2, by decide, by decide, fun L3 r ok3 r0 r1 => ?_⟩
      have lt3 : (kvI ss).length < sizeLine := small1000 (by omega)
      have hd3 : upd H3 b (.lst (L3.map V.int)) d = some (.dK (kvI ss)) := by rw [upd_ne ndb]; exact hd2
      refine ⟨_, _, rfl, rfl, _, rfl, _, rfl, d, _, rfl, DPut.k (k := .inr n) hd3 lt3, ?_⟩
      rw [put_new _ (new_kvI new)]
      have s4 : SameB b H (upd (upd H3 b (.lst (L3.map V.int))) d (.dK (kvI ss ++ [(.inr n, V.int (r - 7))]))) := fun c o nc e => by
        rw [upd_ne (ne_of_none e hd), upd_ne nc]
        exact s2 _ _ nc e
      have hb4 : upd (upd H3 b (.lst (L3.map V.int))) d (.dK (kvI ss ++ [(.inr n, V.int (r - 7))])) b = some (.lst (L3.map V.int)) := by rw [upd_ne ndb.symm, upd_same]
      have hd4 := upd_same (H := upd H3 b (.lst (L3.map V.int))) (a := d) (o := .dK (kvI ss ++ [(.inr n, V.int (r - 7))]))
      generalize upd (upd H3 b (.lst (L3.map V.int))) d (.dK (kvI ss ++ [(.inr n, V.int (r - 7))])) = H4 at *
      refine ⟨_, rfl, b, L3, 5, rfl, hb4, ok3, by decide, by decide, fun L5 q ok5 q0 q1 => ?_⟩
      refine ⟨rfl, _, rfl, ?_⟩
      have hd5 : upd H4 b (.lst (L5.map V.int)) d = some (.dK (kvI ss ++ [(.inr n, V.int (r - 7))])) := by rw [upd_ne ndb]; exact hd4
      have s5 := s4.trans (SameB.upd (o := .lst (L5.map V.int)))
      have hb5 := upd_same (H := H4) (a := b) (o := .lst (L5.map V.int))
      generalize upd H4 b (.lst (L5.map V.int)) = H5 at *
      refine ite2 (fun c => ?_) fun c => ?_
      · refine ⟨_, rfl, 10, 25, rfl, rfl, ⟨by decide, by decide, by decide +kernel⟩, ?_⟩
        refine ⟨b, L5, 10 ^ 25, rfl, hb5, ok5, by decide +kernel, by decide +kernel, fun L6 x ok6 x0 x1 => ?_⟩
        have hd6 : upd H5 b (.lst (L6.map V.int)) d = some (.dK (kvI ss ++ [(.inr n, V.int (r - 7))])) := by rw [upd_ne ndb]; exact hd5
        refine ⟨10, 24, rfl, rfl, ⟨by decide, by decide, by decide +kernel⟩, 5, _, rfl, rfl, .inl (by decide), _, _, rfl, rfl, ?_⟩
        refine ⟨_, rfl, _, rfl, d, _, rfl, DPut.k (k := .inr n) hd6 (small1000 (by rw [List.length_append]; show _ + 1 ≤ _; omega)), ?_⟩
        rw [put_last (new_kvI new)]
        refine ⟨_, L6, ss ++ [(n, _)], rfl, fun c o nc e => ?_, by rw [upd_ne ndb.symm, upd_same], ok6, by unfold SetU; rw [kvI_snoc]; exact upd_same, es2 _⟩
        rw [upd_ne (ne_of_none e hd), upd_ne nc]
        exact s5 _ _ nc e
      · exact ⟨_, L5, ss ++ [(n, r - 7)], rfl, s5, hb5, ok5, by unfold SetU; rw [kvI_snoc]; exact hd5, es2 _⟩
    · rintro σ H2 ⟨x3, L2, ss, rfl, s2, hb2, ok2, hd2, es⟩
      rw [List.length_map, List.take_length] at es
      exact ⟨_, rfl, k H2 d L2 ss s2 hd hb2 ok2 hd2 es⟩
theorem scDStrs : FnScope ["_law_bag_here", "_law_lamps", "_law_stretches", "_law_lamp", "_law_low"] ["_law_bag_here", "_law_lamps"] (defScope sLawDrawnStretches) := ⟨rfl, rfl, rfl, by decide +kernel, rfl, by decide +kernel, by decide +kernel⟩
theorem ok_dstrs {f : Addr} {fd : FuncData} (F : Fun K "_law_drawn_stretches" "_law_drawn_stretches" sLawDrawnStretches f fd) (gT : Dfn P w K mg base CX0 1 "_law_take" ["_law_bag_here", "_law_size"] spTake) : FnOk P w K mg base CX0 2 f fd ["_law_bag_here", "_law_lamps"] (spDStrs K) := by
  obtain ⟨fT, dT, mTake, kTake, bTake, GTake⟩ := gT
  refine F.ok scDStrs (fun vs H Q E h => ?_) (fun cdv A outer s H vs Q E hr h => ?_)
  · obtain ⟨b, l, L, zs, rfl, _⟩ := h
    rfl
  · obtain ⟨b, l, L, zs, rfl, hb, okL, hl, nlb, nd, few, k⟩ := h
    have hr1 : Room 1 _ := hr.mono (by decide)
    refine ⟨_, (pss_cons (ps_set (i := 2) scDStrs.nd rfl (Or.inl rfl) pe_dnewK)
        (pss_cons (ps_for PassesOwn.never rfl (pi_list (pv 1)) (pg_name (i := 3) scDStrs.nd rfl (Or.inl rfl)) (pss_cons (ps_set (i := 4) scDStrs.nd rfl (Or.inl rfl) (pe_op op_sub (pe_call GTake hr1 (by rfl) mTake kTake bTake .nil pass0 (pa_cons (pv 0) (pa_cons pe_int pa_nil))) pe_int))
        (pss_cons (ps_dput (hu_of hr) (pv 2) (pv 3) (pe_tup (pa_cons (pv 4) (pa_cons (pe_op op_add (pv 4) (pe_call GTake hr1 (by rfl) mTake kTake bTake .nil pass0 (pa_cons (pv 0) (pa_cons pe_int pa_nil)))) pa_nil))) rfl)
        (pss_one (ps_if (pt_cmpR op_eq (pe_call GTake hr1 (by rfl) mTake kTake bTake .nil pass0 (pa_cons (pv 0) (pa_cons pe_int pa_nil))) pe_int (nomark _)) (pss_one (ps_dput (hu_of hr) (pv 2) (pv 3) pe_non rfl)) pss_nil)))))
        (pss_one (ps_ret (pv 2))))), ?_⟩
    refine fun d hd => ?_
    have ndb : d ≠ b := fun e => by rw [e, hb] at hd; cases hd
    have ndl : d ≠ l := fun e => by rw [e, hl] at hd; cases hd
    refine ⟨_, rfl, l, rfl, ⟨_, SqL.of (by rw [upd_ne ndl.symm]; exact hl)⟩, for_it (walk_list (K := K) (a := l) (xs := zs.map V.str)) (fun i σ H' => ∃ x3 x4 L' M, σ = [some (.ref b), some (.ref l), some (.ref d), x3, x4] ∧ SameB b H H' ∧ H' b = some (.lst (L'.map V.int)) ∧ BagOk L' ∧ H' d = some (.dK (kvS M)) ∧ M.map (·.1) = zs.take i ∧ SpansV K H' M)
      ⟨_, _, L, [], rfl, SameB.of (Same.upd_new hd), by rw [upd_ne ndb.symm]; exact hb, okL, upd_same, rfl, fun q hq => absurd hq (by simp)⟩ (fun i σ H' _ ⟨_, _, _, _, _, s, _⟩ => SqL.of (s _ _ nlb hl)) ?_ ?_⟩
    · rintro i v σ H2 H3 hi ⟨x3, x4, L2, M, rfl, s2, hb2, ok2, hd2, es, sv2⟩ ⟨rfl, hv⟩
      obtain ⟨n, hn, _, rfl⟩ := st_at hv
      have new : n ∉ M.map (·.1) := by rw [es]; exact take_new nd hn
      have es2 : ∀ (v : V) (o : Span), (M ++ [(n, v, o)]).map (·.1) = zs.take (i + 1) := fun v o => by rw [List.map_append, es, take_snoc hn]; rfl
      have lM : (kvS M).length ≤ 63 := by
        have := congrArg List.length es
        rw [List.length_map, List.length_take] at this
        unfold kvS
        rw [List.length_map]
        omega
      refine ⟨_, rfl, b, L2, 15, rfl, hb2, ok2, by decide, by decide, fun L3 r ok3 r0 r1 => ?_⟩
      have s3 := s2.trans (SameB.upd (o := .lst (L3.map V.int)))
      have hb3 := upd_same (H := H3) (a := b) (o := .lst (L3.map V.int))
      have hd3 : upd H3 b (.lst (L3.map V.int)) d = some (.dK (kvS M)) := by rw [upd_ne ndb]; exact hd2
      have sv3 := sv2.ofB (SameB.upd (o := .lst (L3.map V.int))) hb2
      generalize upd H3 b (.lst (L3.map V.int)) = H4 at *
      refine ⟨_, _, rfl, rfl, _, rfl, _, rfl, _, rfl, b, L3, 9, rfl, hb3, ok3, by decide, by decide, fun L5 q ok5 q0 q1 => ?_⟩
      have s5 := s3.trans (SameB.upd (o := .lst (L5.map V.int)))
      have hb5 := upd_same (H := H4) (a := b) (o := .lst (L5.map V.int))
      have hd5 : upd H4 b (.lst (L5.map V.int)) d = some (.dK (kvS M)) := by rw [upd_ne ndb]; exact hd3
      have sv5 := sv3.ofB (SameB.upd (o := .lst (L5.map V.int))) hb3
      generalize upd H4 b (.lst (L5.map V.int)) = H5 at *
      refine ⟨_, _, rfl, rfl, by show 2 ≤ sizeLine; decide, fun t ht => ?_⟩
      have ntd : t ≠ d := (ne_of_none hd5 ht).symm
      have ntb : t ≠ b := (ne_of_none hb5 ht).symm
      have s6 := s5.trans (SameB.of (Same.upd_new ht (o := .tup [.int (r - 7), .int (r - 7 + q)])))
      have st6 := Same.upd_new ht (o := .tup [.int (r - 7), .int (r - 7 + q)])
      have ht6 : SqT K (upd H5 t (.tup [.int (r - 7), .int (r - 7 + q)])) t [.int (r - 7), .int (r - 7 + q)] := SqT.of upd_same
      have hb6 := st6 _ _ hb5
      have hd6 := st6 _ _ hd5
      have sv6 := sv5.of st6
      refine ⟨_, rfl, _, rfl, d, _, rfl, DPut.k (k := .inr n) hd6 (small1000 (by omega)), ?_⟩
      generalize upd H5 t (.tup [.int (r - 7), .int (r - 7 + q)]) = H6 at *
      rw [put_new _ (new_kvS new)]
      have sD : ∀ kvs' : List (Key × V), SpansV K (upd H6 d (.dK kvs')) M := fun kvs' q hq => updD_span hd6 (sv6 q hq)
      have s7 : SameB b H (upd H6 d (.dK (kvS M ++ [(.inr n, V.ref t)]))) := fun c o nc e => by
        rw [upd_ne (ne_of_none e hd)]
        exact s6 _ _ nc e
      have hb7 : upd H6 d (.dK (kvS M ++ [(.inr n, V.ref t)])) b = some (.lst (L5.map V.int)) := by rw [upd_ne ndb.symm]; exact hb6
      have hd7 := upd_same (H := H6) (a := d) (o := .dK (kvS M ++ [(.inr n, V.ref t)]))
      have sv7 := sD (kvS M ++ [(.inr n, V.ref t)])
      have ht7 := updD_tup (kvs' := kvS M ++ [(.inr n, V.ref t)]) hd6 ht6
      generalize upd H6 d (.dK (kvS M ++ [(.inr n, V.ref t)])) = H7 at *
      refine ⟨_, rfl, b, L5, 4, rfl, hb7, ok5, by decide, by decide, fun L8 x ok8 x0 x1 => ?_⟩
      refine ⟨rfl, _, rfl, ?_⟩
      have s8 := s7.trans (SameB.upd (o := .lst (L8.map V.int)))
      have hb8 := upd_same (H := H7) (a := b) (o := .lst (L8.map V.int))
      have hd8 : upd H7 b (.lst (L8.map V.int)) d = some (.dK (kvS M ++ [(.inr n, V.ref t)])) := by rw [upd_ne ndb]; exact hd7
      have sv8 := sv7.ofB (SameB.upd (o := .lst (L8.map V.int))) hb7
      have ht8 := sameB_tup (SameB.upd (o := .lst (L8.map V.int))) hb7 ht7
      generalize upd H7 b (.lst (L8.map V.int)) = H8 at *
      refine ite2 (fun c => ?_) fun c => ?_
      · refine ⟨_, rfl, _, rfl, d, _, rfl, DPut.k (k := .inr n) hd8 (small1000 (by rw [List.length_append]; show _ + 1 ≤ _; omega)), ?_⟩
        rw [put_last (new_kvS new)]
        refine ⟨_, _, L8, M ++ [(n, .non, none)], rfl, fun c o nc e => ?_, by rw [upd_ne ndb.symm]; exact hb8, ok8, by rw [kvS_snoc]; exact upd_same, es2 _ _, fun q hq => ?_⟩
        · rw [upd_ne (ne_of_none e hd)]
          exact s8 _ _ nc e
        · rcases List.mem_append.mp hq with h | h
          · exact updD_span hd8 (sv8 q h)
          · rw [List.mem_singleton.mp h]; rfl
      · refine ⟨_, _, L8, M ++ [(n, .ref t, some (r - 7, r - 7 + q))], rfl, s8, hb8, ok8, by rw [kvS_snoc]; exact hd8, es2 _ _, fun q hq => ?_⟩
        rcases List.mem_append.mp hq with h | h
        · exact sv8 q h
        · rw [List.mem_singleton.mp h]; exact ⟨t, rfl, ht8⟩
    · rintro σ H2 ⟨x3, x4, L2, M, rfl, s2, hb2, ok2, hd2, es, sv2⟩
      rw [List.length_map, List.take_length] at es
      exact ⟨_, rfl, k H2 d L2 (tsOf M) s2 hd hb2 ok2 ⟨M, rfl, hd2, sv2⟩ (by rw [tsOf_keys]; exact es)⟩
end
end Dl

/-! pairs_in, _stand_together, _ascend -/
namespace Dl
open PySem PySem.Spec PyProof.Rows L2
/-- notes, or None -/
def NtV (K : PySem.W.Frag) (CN : Addr) (H : Hp) (v : V) (ks : List (List Str)) : Prop := (v = .non ∧ ks = []) ∨ ∃ p, v = .ref p ∧ NotesAt K CN H p ks
theorem NtV.of {K : PySem.W.Frag} {CN : Addr} {H H' : Hp} {v : V} {ks : List (List Str)} (s : Same H H') (h : NtV K CN H v ks) : NtV K CN H' v ks := h.imp id fun ⟨p, e, h⟩ => ⟨p, e, h.of s⟩
def spPairsIn (K : PySem.W.Frag) (CN : Addr) : Sp := fun vs H Q _ => ∃ v ks, vs = [v] ∧ NtV K CN H v ks ∧ ∀ H' t (L : Keyed), Same H H' → SqT K H' t (L.map fun q => V.ref q.1) → L.map (·.2) = ks → (∀ q ∈ L, SqT K H' q.1 (q.2.map V.str)) → Q (.ref t) H'
structure TxtCo (mg : Str → Option Value) : Prop where
  len : mg "len" = none
  max : mg "max" = none
  min : mg "min" = none
  all : mg "all" = none
  sor : mg "sorted" = none
  enumerate : mg "enumerate" = none
section
variable {P : Program} {w : World} {K : PySem.W.Frag} {mg : Str → Option Value} {base : Heap} {CN CI CE : Addr}
theorem scPairsIn : FnScope ["notes"] ["notes"] (defScope sPairsIn) := ⟨rfl, rfl, rfl, by decide +kernel, rfl, by decide +kernel, by decide +kernel⟩
theorem ok_pairsin {f : Addr} {fd : FuncData} (F : Fun K "pairs_in" "pairs_in" sPairsIn f fd) (T : NoteM P w K mg base CN CI CE) : FnOk P w K mg base CX0 1 f fd ["notes"] (spPairsIn K CN) := by
  refine F.ok scPairsIn (fun vs H Q E h => ?_) (fun cdv A outer s H vs Q E hr h => ?_)
  · obtain ⟨v, ks, rfl, _⟩ := h
    rfl
  · obtain ⟨v, ks, rfl, hv, k⟩ := h
    refine ⟨_, pss_one (ps_ret (pe_ifExp (pt_cmpR op_isN (pv 0) pe_non (nomark _)) (pe_tup pa_nil) (pe_fld (pv 0) rfl))), ?_⟩
    rcases hv with ⟨rfl, rfl⟩ | ⟨p, rfl, hN⟩
    · exact ⟨_, rfl, rfl, true, rfl, iteT ⟨Nat.zero_le _, fun t ht => k _ t [] (Same.upd_new ht) (SqT.of upd_same) rfl fun q hq => absurd hq (by simp)⟩⟩
    · obtain ⟨dx, tp, L, hp, htp, e1, hL⟩ := hN.ex
      exact ⟨_, rfl, rfl, false, rfl, iteF ⟨_, rfl, p, CN, dx, _, _, rfl, hp, T.cl, T.nP, pfN _, k H tp L (Same.refl _) (SqT.of htp) e1 hL⟩⟩
theorem scAscend : FnScope ["place", "notes", "pairs", "before", "after"] ["place", "notes"] (defScope sAscend) := ⟨rfl, rfl, rfl, by decide +kernel, rfl, by decide +kernel, by decide +kernel⟩
end
end Dl

/-! _ascend over settings, arrangement_holds -/
namespace Dl
open PySem PySem.Spec PyProof.Rows L2
def sval (ss : SetL) (k : Str) : Int := (dval ss k).getD 0
theorem val_dv {α : Type} {g : α → V} (ss : List (Str × α)) (k : Str) : valV (ss.map fun p => ((Sum.inr p.1 : Key), g p.2)) (.inr k) = (dval ss k).map g := by
  induction ss with
  | nil => rfl
  | cons p r ih =>
    unfold dval
    rw [List.map_cons, List.find?_cons]
    by_cases e : p.1 = k
    · rw [valV_pos (by show (Sum.inr p.1 : Key) = _; rw [e]), decide_eq_true e]
      rfl
    · rw [valV_neg (by intro q; exact e (Sum.inr.inj q)), decide_eq_false e, ih]
      rfl
theorem dval_some {α : Type} {ss : List (Str × α)} {k : Str} (h : k ∈ ss.map (·.1)) : ∃ x, dval ss k = some x := by
  unfold dval
  cases e : ss.find? (fun p => decide (p.1 = k)) with
  | some p => exact ⟨p.2, rfl⟩
  | none =>
    obtain ⟨p, hp, e2⟩ := List.mem_map.mp h
    have := List.find?_eq_none.mp e p hp
    rw [e2] at this
    simp at this
theorem dval_none {α : Type} {ss : List (Str × α)} {k : Str} (h : k ∉ ss.map (·.1)) : dval ss k = none := by
  unfold dval
  cases e : ss.find? (fun p => decide (p.1 = k)) with
  | none => rfl
  | some p =>
    have m := List.mem_of_find?_eq_some e
    have q : p.1 = k := of_decide_eq_true (by simpa using List.find?_some e)
    exact absurd (List.mem_map.mpr ⟨p, m, q⟩) h
theorem SetR.get {H : Hp} {a : Addr} {ss : SetL} (h : SetR H a ss) (k : Str) : DGet H a (.str k) ((dval ss k).map V.int) := .inl ⟨kvI ss, .inr k, h, rfl, (val_dv ss k).symm⟩
theorem SetR.at_ {H : Hp} {a : Addr} {ss : SetL} (h : SetR H a ss) {k : Str} (m : k ∈ ss.map (·.1)) : DGet H a (.str k) (some (.int (sval ss k))) := by
  have q := h.get k
  obtain ⟨x, e⟩ := dval_some m
  unfold sval
  rw [e] at q ⊢
  exact q
theorem SetR.not_ {H : Hp} {a : Addr} {ss : SetL} (h : SetR H a ss) {k : Str} (m : k ∉ ss.map (·.1)) : DGet H a (.str k) none := by
  have q := h.get k
  rw [dval_none m] at q
  exact q
theorem kvI_keys (ss : SetL) : (kvI ss).map (·.1) = (ss.map (·.1)).map Sum.inr := by unfold kvI; rw [List.map_map, List.map_map]; rfl
theorem kvS_keys (L : SpH) : (kvS L).map (·.1) = ((tsOf L).map (·.1)).map Sum.inr := by unfold kvS tsOf; rw [List.map_map, List.map_map, List.map_map]; rfl
def ascA (ss : SetL) (ks : List (List Str)) : Bool := ks.all fun k => decide (k0 k ∈ ss.map (·.1)) && (decide (k1 k ∈ ss.map (·.1)) && decide (sval ss (k0 k) < sval ss (k1 k)))
def rowA (ss : SetL) (ts : SpanL) (x : Str × List Str) : Bool := decide ((glow ts (sval ss x.1)).Perm x.2)
def keysB {α : Type} (ds : List (Str × α)) (ks : List Str) : Bool := decide ((ds.map (·.1)).Perm ks)
def holdsA (ss : SetL) (ts : SpanL) (ls : List Str) (rs : List (Str × List Str)) (ks : List (List Str)) : Bool := (keysB ss (rs.map (·.1)) && keysB ts ls) && ((rs.all (rowA ss ts)) && ascA ss ks)
def spAscendA (K : PySem.W.Frag) (CN : Addr) : Sp := fun vs H Q _ => ∃ p v ss ks, vs = [.ref p, v] ∧ SetR H p ss ∧ NtV K CN H v ks ∧ GoodK ks ∧ ks.length < 64 ∧ ∀ H', Same H H' → Q (.bl (ascA ss ks)) H'
/-- a value called, its class's own __call__: as pe_callO, for objects with a dict -/
def tCallI (C : Addr) (sp : Sp) (E : XK) (tf : TE) (t : TA) : TE := fun σ H Q => tf σ H fun y H1 => ∃ a, y = V.ref a ∧ t σ H1 fun vs H2 => (∃ dx fs, H2 a = some (.ins C dx fs)) ∧ sp (V.ref a :: vs) H2 Q E
section
open StX
theorem pe_callI {X : Cx} {C g : Addr} {fe e : Expr} {es : List Expr} {pos : Pos} {tf : TE} {t : TA} {k : Nat} {sp : Sp} {CX : CXT} {E : XK} (hf : PE X fe tf) (c : CallO X.K C g) (F : FnR X.prog X.w X.K X.mg X.base CX k g sp) (hr : Room k X.A) (hx : Passes CX X E) (ha : PA X (e :: es) t)
    (ht : eval (.Call fe (e :: es) [] pos) X.env = (do callWith pos (← eval fe X.env) [] (backTo pos (starEach (e :: es) X.env)) (backToKw pos (keywordEach [] X.env))) := by rfl)
    (he : starEach (e :: es) X.env = (false, eval e X.env) :: starEach es X.env := by rfl) (hpl : (backTo pos (starEach es X.env)).any (·.1) = false := by rfl) : PE X (.Call fe (e :: es) [] pos) (tCallI C sp E tf t) := by
  refine ⟨fun pins s σ H Q I h => ?_⟩
  refine Call_ (thn (hf.run pins s σ H _ I h) fun u s1 ⟨y, H1, I1, ry, a, ey, q⟩ => ?_) ht
  subst ey
  obtain rfl : u = Value.ref a := ry
  refine callO_with (thn (ha.run pos pins s1 σ H1 _ I1 q) fun us s2 ⟨vs, H2, I2, r, hi, q2⟩ => ?_) he hpl
  have hi : InsC X H2 a C := .inr hi
  obtain ⟨ox, od, J, hd⟩ := insC_at I2 hi
  exact ⟨⟨C, ox, od, J, hd⟩, run_callO c F hr hx I2 hi r q2⟩
end
def rTupOf (K : PySem.W.Frag) : List V → Hp → VK → Prop := fun xs H Q => ∃ p ys, xs = [.ref p] ∧ ((SqL K H p ys ∧ ∀ l, H l = none → Q (.ref l) (upd H l (.tup ys))) ∨ (SqT K H p ys ∧ Q (.ref p) H))
section
variable {P : Program} {w : World} {K : PySem.W.Frag} {mg : Str → Option Value} {base : Heap} {C : Cs} {CT CN CA : Addr}
theorem ok_ascendA {f : Addr} {fd : FuncData} (F : Fun K "_ascend" "_ascend" sAscend f fd) (mall : mg "all" = none) (gP : Dfn P w K mg base CX0 1 "pairs_in" ["notes"] (spPairsIn K CN)) : FnOk P w K mg base CX0 2 f fd ["place", "notes"] (spAscendA K CN) := by
  obtain ⟨fP, dP, mP, kP, bP, GP⟩ := gP
  refine F.ok scAscend (fun vs H Q E h => ?_) (fun cdv A outer s H vs Q E hr h => ?_)
  · obtain ⟨p, v, ss, ks, rfl, _⟩ := h
    rfl
  · obtain ⟨p, v, ss, ks, rfl, hp, hv, gk, few, k⟩ := h
    have hr1 : Room 1 _ := hr
    refine ⟨_, pss_cons (ps_set (i := 2) scAscend.nd rfl (Or.inl rfl) (pe_call GP hr1 (by rfl) mP kP bP .nil pass0 (pa_cons (pv 1) pa_nil)))
      (pss_one (ps_ret (pe_callB (cr_all rfl) (by rfl) mall (by decide +kernel) (pa_cons
        (pe_lc (own := [("before", 3), ("after", 4)]) (g := gTup K 2 (gCons (gName 3) (gCons (gName 4) gNil))) (tt := tYes) rfl scAscend.nd (pi_tup (pv 2)) (blkOk_by (N := ["place", "notes", "pairs", "before", "after"]) (sc := defScope sAscend) (by decide +kernel))
          (fun _ _ _ _ _ => pg_tup rfl (pgs_cons (pg_name (i := 3) scAscend.nd rfl (Or.inl rfl)) (pgs_cons (pg_name (i := 4) scAscend.nd rfl (Or.inl rfl)) pgs_nil))) (fun _ _ _ _ _ => pts_nil)
          (fun _ _ _ _ _ => pe_and (pe_cmp (pc_din (hu_of hr) (pv 3) (pv 0)) rfl) (pe_and (pe_cmp (pc_din (hu_of hr) (pv 4) (pv 0)) rfl) (pe_one (pe_cmpR op_lt (pe_dget (hu_of hr) (pv 0) (pv 3) (fun _ _ => rfl)) (pe_dget (hu_of hr) (pv 0) (pv 4) (fun _ _ => rfl)) (nomark _)))))) pa_nil)))), ?_⟩
    refine ⟨_, rfl, v, ks, rfl, hv, fun H1 t L s1 ht eL hL => ?_⟩
    have hp := hp.of s1
    refine ⟨_, rfl, t, rfl, ⟨_, ht⟩, fun D hD => lc_it (walk_tup (K := K) (a := t) (xs := L.map fun q => V.ref q.1)) (fun i H' => Same H1 H' ∧ H' D = some (.lst ((((ks.take i).map fun k => decide (k0 k ∈ ss.map (·.1)) && (decide (k1 k ∈ ss.map (·.1)) && decide (sval ss (k0 k) < sval ss (k1 k)))).map V.bl)))) ⟨Same.upd_new hD, upd_same⟩ (fun i H' _ ⟨s, _⟩ => Same.tup s ht) ?_ ?_⟩
    · rintro i x H2 H3 hi ⟨s2, hD2⟩ ⟨rfl, hx⟩
      obtain ⟨z, hz, hzm, rfl⟩ := kf_at hx
      have gz : GoodP z.2 := gk _ (by rw [← eL]; exact List.mem_map_of_mem hzm)
      have hzt := Same.tup s2 (hL z hzm)
      rw [gz.eq.1] at hzt
      have keyi : ks[i]? = some z.2 := by rw [← eL, List.getElem?_map, hz]; rfl
      have hp2 := hp.of s2
      have fin : ∀ c : Bool, c = (decide (k0 z.2 ∈ ss.map (·.1)) && (decide (k1 z.2 ∈ ss.map (·.1)) && decide (sval ss (k0 z.2) < sval ss (k1 z.2)))) → ∃ acc, H3 D = some (.lst acc) ∧ acc.length < sizeLine ∧ Same H1 (upd H3 D (.lst (acc ++ [V.bl c]))) ∧ upd H3 D (.lst (acc ++ [V.bl c])) D = some (.lst ((((ks.take (i + 1)).map fun k => decide (k0 k ∈ ss.map (·.1)) && (decide (k1 k ∈ ss.map (·.1)) && decide (sval ss (k0 k) < sval ss (k1 k)))).map V.bl))) := fun c ec => by
        refine ⟨_, hD2, ?_, fun b o e => ?_, ?_⟩
        · rw [List.length_map, List.length_map, List.length_take]
          exact small1000 (by omega)
        · rw [upd_ne (ne_of_none e hD)]
          exact s2 _ _ e
        · rw [upd_same, take_next keyi, List.map_append, List.map_append, ec]
          rfl
      refine ⟨z.1, _, rfl, hzt, rfl, _, _, rfl, _, _, rfl, rfl, rfl, ?_⟩
      by_cases m0 : k0 z.2 ∈ ss.map (·.1)
      · have g0 := hp2.at_ m0
        refine ⟨_, rfl, _, rfl, p, _, rfl, g0, _, rfl, ?_⟩
        by_cases m1 : k1 z.2 ∈ ss.map (·.1)
        · have g1 := hp2.at_ m1
          refine iteY rfl ⟨_, rfl, _, rfl, p, _, rfl, g1, _, rfl, ?_⟩
          refine iteY rfl ⟨_, rfl, _, rfl, p, _, rfl, g0, _, rfl, _, rfl, p, _, rfl, g1, _, _, rfl, rfl, fin _ ?_⟩
          rw [decide_eq_true m0, decide_eq_true m1, Bool.true_and, Bool.true_and]
        · refine iteY rfl ⟨_, rfl, _, rfl, p, _, rfl, hp2.not_ m1, _, rfl, ?_⟩
          refine iteZ rfl (fin _ ?_)
          rw [decide_eq_true m0, decide_eq_false m1]
          rfl
      · refine ⟨_, rfl, _, rfl, p, _, rfl, hp2.not_ m0, _, rfl, ?_⟩
        refine iteZ rfl (fin _ ?_)
        rw [decide_eq_false m0]
        rfl
    · rintro H2 ⟨s2, hD2⟩
      rw [List.length_map, show L.length = ks.length by rw [← eL, List.length_map], List.take_length] at hD2
      refine ⟨D, _, rfl, SqL.of hD2, ?_⟩
      rw [List.all_map]
      exact k H2 (s1.trans s2)
def sArrHoldsTE (K : PySem.W.Frag) (CA : Addr) : TE := tOp (rEqD K) (tCallI CA (spArrCall K CA) E0 (tVar 2) (tCons (tDGet (tVar 3) (tVar 4)) tNil)) (tCB (rTupOf K) (tCons (tCB (rSortedST K) (tCons (tVar 5) tNil)) tNil))
def spArrHolds (K : PySem.W.Frag) (CT CN CA : Addr) : Sp := fun vs H Q _ => ∃ t v p ls rs ks ss ts, vs = [.ref t, v, .ref p] ∧ TableAt CT H t ls rs ∧ TabOk ls rs ∧ NtV K CN H v ks ∧ GoodK ks ∧ ks.length < 64 ∧ ArrAt K CA H p ss ts ∧ ss.length < 64 ∧ ts.length < 64 ∧ (∀ q ∈ ss, canS q.1) ∧ (∀ q ∈ ts, canS q.1) ∧ (ts.map (·.1)).Nodup ∧ ∀ H', Same H H' → Q (.bl (holdsA ss ts ls rs ks)) H'
theorem scArrHolds : FnScope ["table", "notes", "arrangement", "settings", "look", "shown"] ["table", "notes", "arrangement"] (defScope sArrangementHolds) := ⟨rfl, rfl, rfl, by decide +kernel, rfl, by decide +kernel, by decide +kernel⟩
theorem st_atP {L : List Str} {i : Nat} {v : V} (h : (L.map V.str)[i]? = some v) : ∃ q, L[i]? = some q ∧ q ∈ L ∧ v = .str q := by
  rw [List.getElem?_map] at h
  cases e : L[i]? with
  | none => rw [e] at h; cases h
  | some q => rw [e] at h; exact ⟨q, rfl, List.mem_of_getElem? e, (Option.some.inj h).symm⟩
theorem shapedP {zs : List Str} (h : ∀ z ∈ zs, canS z) : SeqAt.shaped (.list (zs.map PyData.str)) = true := by
  unfold SeqAt.shaped
  rw [Bool.and_eq_true, PyData.canLay0, PyData.depth, depthAll_strs]
  exact ⟨canAll_strs h, by decide⟩
theorem rows_nmA : ¬ (("rows" : Str) = "lamps") ∧ ¬ (("rows" : Str) = "_shown") ∧ ¬ (("rows" : Str) = "looks") := by decide +kernel
structure TxtAp (mg : Str → Option Value) : Prop where
  all : mg "all" = none
  sor : mg "sorted" = none
  tuple : mg "tuple" = none
/-- two sorted lists of texts, compared -/
theorem sorted_cmp {ys zs as bs : List Str} (yp : ys.Perm as) (zp : zs.Perm bs) (ysd : sortedS ys = true) (zsd : sortedS zs = true) : decide (ys = zs) = decide (as.Perm bs) := by
  rw [decide_eq_decide]
  exact ⟨fun e => yp.symm.trans (e ▸ zp), fun p => sortedS_uniq ysd zsd (yp.trans (p.trans zp.symm))⟩
theorem ok_arrholds {f : Addr} {fd : FuncData} (F : Fun K "arrangement_holds" "arrangement_holds" sArrangementHolds f fd) (T : TxtAp mg) (TA : TxtA K mg CA) (cl : Cls K CT) (nK : NoAttr K CT "looks") (nL : NoAttr K CT "lamps")
    (hRows : ∃ fR dR, Meth K CT "rows" fR ∧ Binds K dR ["self"] [] ∧ FnOk P w K mg base CX0 1 fR dR ["self"] (spTRows K CT))
    (oC : ∃ g dC, StX.CallO K CA g ∧ Binds K dC ["self", "setting"] [] ∧ FnOk P w K mg base CX0 2 g dC ["self", "setting"] (spArrCall K CA))
    (gA : Dfn P w K mg base CX0 2 "_ascend" ["place", "notes"] (spAscendA K CN)) : FnOk P w K mg base CX0 3 f fd ["table", "notes", "arrangement"] (spArrHolds K CT CN CA) := by
  obtain ⟨fR, dR, mRows, bRows, GRows⟩ := hRows
  obtain ⟨gC, dC, cC, bC, GC0⟩ := oC
  obtain ⟨fA, dA, mA, kA, bA, GA⟩ := gA
  have GC : FnR P w K mg base CX0 2 gC (spArrCall K CA) := (GC0.raw bC .nil).imp fun vs H Q E h => by rw [List.append_nil]; exact h
  refine F.ok scArrHolds (fun vs H Q E h => ?_) (fun cdv A outer s H vs Q E hr h => ?_)
  · obtain ⟨t, v, p, ls, rs, ks, ss, ts, rfl, _⟩ := h
    rfl
  · obtain ⟨t, v, p, ls, rs, ks, ss, ts, rfl, hT, ok, hv, gk, fk, hA, sf, tf, scan, tcan, tnd, k⟩ := h
    have hr1 : Room 1 _ := hr.mono (by decide)
    have hr2 : Room 2 _ := hr
    refine ⟨_, pss_cons (ps_set (i := 3) scArrHolds.nd rfl (Or.inr rfl) (pe_fld (pv 2) rfl))
      (pss_cons (ps_if (PW.pt (pw_or (pt_cmpR (op_neD hr.units) (pe_callB (cr_sortedSD rfl) (by rfl) T.sor (by decide +kernel) (pa_cons (pv 3) pa_nil)) (pe_callB cr_sortedSE (by rfl) T.sor (by decide +kernel) (pa_cons (pe_fld (pv 0) rfl) pa_nil)) (nomark _))
        (pw_or1 (pt_cmpR (op_neD hr.units) (pe_callB (cr_sortedSD rfl) (by rfl) T.sor (by decide +kernel) (pa_cons (pe_fld (pv 2) rfl) pa_nil)) (pe_callB cr_sortedSE (by rfl) T.sor (by decide +kernel) (pa_cons (pe_fld (pv 0) rfl) pa_nil)) (nomark _))))) (pss_one (ps_ret pe_bl)) pss_nil)
      (pss_cons (ps_if (pt_not (pt_val (pe_callB (cr_all rfl) (by rfl) T.all (by decide +kernel) (pa_cons
          (pe_lc (own := [("look", 4), ("shown", 5)]) (g := gTup K 2 (gCons (gName 4) (gCons (gName 5) gNil))) (tt := tYes) (te := sArrHoldsTE K CA) rfl scArrHolds.nd (pi_list (pe_meth0 (pv 0) cl mRows GRows hr1 bRows .nil pass0)) (blkOk_by (N := ["table", "notes", "arrangement", "settings", "look", "shown"]) (sc := defScope sArrangementHolds) (by decide +kernel))
            (fun _ _ _ _ _ => pg_tup rfl (pgs_cons (pg_name (i := 4) scArrHolds.nd rfl (Or.inl rfl)) (pgs_cons (pg_name (i := 5) scArrHolds.nd rfl (Or.inl rfl)) pgs_nil))) (fun _ _ _ _ _ => pts_nil)
            (fun _ _ _ _ _ => pe_cmpR (by exact op_eqD hr.units : OpR _ _ (rEqD K)) (pe_callI (pv 2) cC GC hr2 pass0 (pa_cons (pe_dget (hu_of hr) (pv 3) (pv 4) (fun _ _ => rfl)) pa_nil)) (pe_callTy (by exact call_tuple_of : CallR _ _ (rTupOf K)) (by rfl) T.tuple (by decide +kernel) (pa_cons (pe_callB (by exact cr_sortedST : CallR _ _ (rSortedST K)) (by rfl) T.sor (by decide +kernel) (pa_cons (pv 5) pa_nil)) pa_nil)) (nomark _))) pa_nil)))) (pss_one (ps_ret pe_bl)) pss_nil)
      (pss_one (ps_ret (pe_call GA hr2 (by rfl) mA kA bA .nil pass0 (pa_cons (pv 3) (pa_cons (pv 1) pa_nil))))))), ?_⟩
    obtain ⟨dx, a, b, hp, hset, L, od, rfl, hb, hL⟩ := hA.ex
    obtain ⟨dt, lt, sd, kt, kvs, hpt, hlt, hsd, hkt, hrs⟩ := hT.ex
    have kf := ok.kfew
    have lf := ok.lfew
    refine ⟨_, rfl, p, CA, dx, _, _, rfl, hp, TA.cl, TA.nS, af2_set _ _, ?_⟩
    refine ⟨_, rfl, a, kvI ss, ss.map (·.1), rfl, hset.r, kvI_keys ss, by rw [List.length_map]; exact sf, fun ys q1 yp ysd hq1 => ?_⟩
    have s1 : Same H _ := Same.upd_new hq1 (o := .lst (ys.map V.str))
    have hy : SqL K (upd H q1 (.lst (ys.map V.str))) q1 (ys.map V.str) := SqL.of upd_same
    generalize upd H q1 (.lst (ys.map V.str)) = H1 at *
    refine ⟨_, rfl, t, CT, dt, _, _, rfl, s1 _ _ hpt, cl, nK, pf3_looks _ _ _, kt, rs.map (·.1), rfl, .inr (SqT.of (s1 _ _ hkt)), by rw [List.length_map]; omega, fun zs q2 zp zsd hq2 => ?_⟩
    have s2 : Same H1 _ := Same.upd_new hq2 (o := .lst (zs.map V.str))
    have hz : SqL K (upd H1 q2 (.lst (zs.map V.str))) q2 (zs.map V.str) := SqL.of upd_same
    have hy2 := s2.seq hy
    generalize upd H1 q2 (.lst (zs.map V.str)) = H2 at *
    have s12 := s1.trans s2
    have kcan : ∀ z ∈ zs, canS z := fun z hz => by
      obtain ⟨r, hr, rfl⟩ := List.mem_map.mp (zp.subset hz)
      exact valid_can (ok.kval r hr)
    have ycan : ∀ z ∈ ys, canS z := fun z hz => by
      obtain ⟨r, hr, rfl⟩ := List.mem_map.mp (yp.subset hz)
      exact scan r hr
    refine ⟨.list (ys.map PyData.str), .list (zs.map PyData.str), .lst hy2 (dpAll_strs _), .lst hz (dpAll_strs _), shapedP ycan, shapedP kcan, _, rfl, ?_⟩
    rw [PyData.eqv, eqvAll_strs, sorted_cmp yp zp ysd zsd]
    by_cases pk : (ss.map (·.1)).Perm (rs.map (·.1))
    case neg =>
      rw [decide_eq_false pk]
      refine iteT ?_
      have q := k H2 s12
      unfold holdsA keysB at q
      rw [decide_eq_false pk, Bool.false_and, Bool.false_and] at q
      exact q
    rw [decide_eq_true pk]
    refine iteF ?_
    clear hy hz hy2 kcan ycan yp ysd zp zsd hq1 hq2
    have hb2 := s12 _ _ hb
    refine ⟨_, rfl, p, CA, dx, _, _, rfl, s12 _ _ hp, TA.cl, TA.nT, af2_str _ _, b, kvS L, (tsOf L).map (·.1), rfl, .inr ⟨od, hb2⟩, kvS_keys L, by rw [List.length_map]; exact tf, fun ys q1 yp ysd hq1 => ?_⟩
    have s3 : Same H2 _ := Same.upd_new hq1 (o := .lst (ys.map V.str))
    have hy : SqL K (upd H2 q1 (.lst (ys.map V.str))) q1 (ys.map V.str) := SqL.of upd_same
    generalize upd H2 q1 (.lst (ys.map V.str)) = H3 at *
    have s13 := s12.trans s3
    refine ⟨_, rfl, t, CT, dt, _, _, rfl, s13 _ _ hpt, cl, nL, pf3_lamps _ _ _, lt, ls, rfl, .inr (SqT.of (s13 _ _ hlt)), by omega, fun zs q2 zp zsd hq2 => ?_⟩
    have s4 : Same H3 _ := Same.upd_new hq2 (o := .lst (zs.map V.str))
    have hz : SqL K (upd H3 q2 (.lst (zs.map V.str))) q2 (zs.map V.str) := SqL.of upd_same
    have hy2 := s4.seq hy
    generalize upd H3 q2 (.lst (zs.map V.str)) = H4 at *
    have s14 := s13.trans s4
    have kcan : ∀ z ∈ zs, canS z := fun z hz => valid_can (ok.lval z (zp.subset hz))
    have ycan : ∀ z ∈ ys, canS z := fun z hz => by
      obtain ⟨r, hr, rfl⟩ := List.mem_map.mp (yp.subset hz)
      exact tcan r hr
    refine ⟨.list (ys.map PyData.str), .list (zs.map PyData.str), .lst hy2 (dpAll_strs _), .lst hz (dpAll_strs _), shapedP ycan, shapedP kcan, _, rfl, ?_⟩
    rw [PyData.eqv, eqvAll_strs, sorted_cmp yp zp ysd zsd]
    by_cases pl : ((tsOf L).map (·.1)).Perm ls
    case neg =>
      rw [decide_eq_false pl]
      refine iteT ?_
      have q := k H4 s14
      unfold holdsA keysB at q
      rw [decide_eq_false pl, Bool.and_false, Bool.false_and] at q
      exact q
    rw [decide_eq_true pl]
    refine iteF ?_
    clear hy hz hy2 kcan ycan yp ysd zp zsd hq1 hq2 s1 s2 s12 s3 s13 s4 hb2
    have k2 : ∀ H', Same H H' → Q (.bl ((rs.all (rowA ss (tsOf L))) && ascA ss ks)) H' := fun H' s => by
      have q := k H' s
      unfold holdsA keysB at q
      rw [decide_eq_true pk, decide_eq_true pl, Bool.true_and, Bool.true_and] at q
      exact q
    have inK : ∀ x ∈ rs, x.1 ∈ ss.map (·.1) := fun x hx => pk.mem_iff.mpr (List.mem_map_of_mem hx)
    -- the rows
    refine ⟨_, rfl, t, dt, _, rfl, s14 _ _ hpt, pf3_no _ _ _ rows_nmA.1 rows_nmA.2.1 rows_nmA.2.2, t, ls, rs, rfl, hT.of s14, ok, fun H5 l rows s5 nl hl hrt hdat => ?_⟩
    have s15 := s14.trans s5
    refine ⟨l, rfl, ⟨_, SqL.of hl⟩, fun D hD => lc_it (walk_list (K := K) (a := l) (xs := rows.map fun r => V.ref r.t)) (fun i H' => Same H5 H' ∧ H' D = some (.lst (((rs.take i).map (rowA ss (tsOf L))).map V.bl))) ⟨Same.upd_new hD, upd_same⟩ (fun i H' _ ⟨s, _⟩ => SqL.of (s _ _ hl)) ?_ ?_⟩
    · rintro i v' H6 H7 hi ⟨s6, hD6⟩ ⟨rfl, hv'⟩
      rw [List.getElem?_map] at hv'
      obtain ⟨r, hr', rfl⟩ : ∃ r, rows[i]? = some r ∧ v' = .ref r.t := by
        cases e : rows[i]? with
        | none => rw [e] at hv'; cases hv'
        | some q => rw [e] at hv'; exact ⟨q, rfl, (Option.some.inj hv').symm⟩
      have q : (rows.map RowIn.dat)[i]? = (rs.map rdat)[i]? := by rw [hdat]
      rw [List.getElem?_map, List.getElem?_map, hr'] at q
      obtain ⟨x, hx, e1⟩ : ∃ x, rs[i]? = some x ∧ RowIn.dat r = rdat x := by
        cases e : rs[i]? with
        | none => rw [e] at q; cases q
        | some y => rw [e] at q; exact ⟨y, rfl, Option.some.inj q⟩
      have xm := List.mem_of_getElem? hx
      have el : r.look = .str x.1 := congrArg Prod.fst e1
      have ex : r.xs = x.2.map V.str := congrArg Prod.snd e1
      have rt := (hrt r (List.mem_of_getElem? hr')).of s6
      have gp := rt.pair
      have gt := rt.tup
      rw [el] at gp
      rw [ex] at gt
      have s16 := s15.trans s6
      have xsub := ok.sub x xm
      have xl : x.2.length < 64 := Nat.lt_of_le_of_lt xsub.length_le (by omega)
      refine ⟨r.t, _, rfl, SqT.of gp, rfl, _, _, rfl, _, _, rfl, rfl, rfl, ?_⟩
      refine ⟨_, rfl, p, rfl, _, rfl, _, rfl, a, _, rfl, (hset.of s16).r.at_ (inK x xm), ⟨dx, _, s16 _ _ hp⟩, ?_⟩
      refine ⟨p, ss, tsOf L, _, rfl, hA.of s16, tnd, tf, fun H8 u ys s8 hu ysd yp => ?_⟩
      refine ⟨_, rfl, r.s, x.2, rfl, SqT.of (s8 _ _ gt), xl, fun zs q zp zsd hq => ?_⟩
      have s9 := Same.upd_new hq (o := .lst (zs.map V.str))
      refine ⟨q, _, rfl, .inl ⟨SqL.of upd_same, fun u2 hu2 => ?_⟩⟩
      have s10 := Same.upd_new hu2 (o := .tup (zs.map V.str))
      have st := (s8.trans s9).trans s10
      have ycan : ∀ z ∈ ys, canS z := fun z hz => by
        have m := yp.subset hz
        unfold glow at m
        obtain ⟨r, hr, rfl⟩ := List.mem_map.mp m
        exact tcan r (List.mem_filter.mp hr).1
      have zcan : ∀ z ∈ zs, canS z := fun z hz => valid_can (ok.lval z (xsub.subset (zp.subset hz)))
      refine ⟨.tuple (ys.map PyData.str), .tuple (zs.map PyData.str), .tup (SqT.of ((s9.trans s10) _ _ hu)) (dpAll_strs _), .tup (SqT.of upd_same) (dpAll_strs _), shaped_tups ycan, shaped_tups zcan, ?_⟩
      rw [eqv_tups, sorted_cmp yp zp ysd zsd]
      refine ⟨_, st _ _ hD6, by rw [List.length_map, List.length_map, List.length_take]; exact small1000 (by omega), fun c o e => ?_, ?_⟩
      · rw [upd_ne (ne_of_none e hD)]
        exact (s6.trans st) _ _ e
      · rw [upd_same, take_next hx, List.map_append, List.map_append]
        rfl
    · rintro H6 ⟨s6, hD6⟩
      have rl : (rows.map fun r => V.ref r.t).length = rs.length := by
        have := congrArg List.length hdat
        rw [List.length_map, List.length_map] at this
        rw [List.length_map]
        exact this
      rw [rl, List.take_length] at hD6
      have s16 := s15.trans s6
      refine ⟨D, _, rfl, SqL.of hD6, ?_⟩
      rw [List.all_map]
      have e0 : rs.all (id ∘ rowA ss (tsOf L)) = rs.all (rowA ss (tsOf L)) := rfl
      rw [e0]
      cases ea : rs.all (rowA ss (tsOf L)) with
      | false =>
        have q := k2 H6 s16
        rw [ea, Bool.false_and] at q
        exact ⟨_, rfl, iteT q⟩
      | true =>
        refine ⟨_, rfl, iteF ?_⟩
        refine ⟨_, rfl, _, rfl, a, v, ss, ks, rfl, (hset.of s16).r, hv.of s16, gk, fk, fun H7 s7 => ?_⟩
        have q := k2 H7 (s16.trans s7)
        rw [ea, Bool.true_and] at q
        exact q
end
end Dl

/-! != of dicts whose keys are texts and whose values are data: beside op_eqDD, my own rule -/
namespace Dl
open PySem PySem.Spec PyProof.Rows L2
section
variable {prog : Program} {w : World} {A : Around} {s : Shared}
theorem ne_dicts {a b : Addr} {ka kb : List (Key × Value)} {r : Bool} (ha : (a == sysModules) = false) (hb : (b == sysModules) = false)
    (da : s.heap.DictOf (mixKind prog w) a ka) (db : s.heap.DictOf (mixKind prog w) b kb) (hu : A.units < cLine) (hits : ka.length = kb.length → PySem.W.KeqHitsP prog w A.in1 s kb ka r) (E Q : Value → Shared → Prop) (h : Q (.bool (!(ka.length == kb.length && r))) s) : wpAny (model prog w) A (richCompare .NotEq (.ref a) (.ref b)) Q E s := by
  refine wpAny_richCompare_same_room (op := .NotEq) da.typeIs db.typeIs PySem.F.slot_dict_ne (wpAny_call_entry PySem.F.slot_dict_ne da.typeIs PySem.F.entry_dict_ne ?_ (PySem.F.args_dict_ne_2 _ _)) hu
  show wpAny _ _ (Builtin.Dict.dictSlotArgs "__ne__" ⟨[.ref a, .ref b], []⟩ >>= _) _ _ s
  refine wpAny_bind ?_
  unfold Builtin.Dict.dictSlotArgs
  refine wpAny_bind (wpAny_notOrdered_dict da.typeIs ?_)
  show wpAny _ _ (pure (Value.ref a, Value.ref b)) _ _ s
  refine wpAny_pure ?_
  refine wpAny_bind (wpAny_isInstance (T := "dict") db.typeIs PySem.F.sub_dict_dict ?_)
  simp only [Bool.not_true, Bool.false_eq_true, if_false]
  refine wpAny_bind (wpAny_pure (wpAny_bind (wpAny_pure ?_)))
  refine wpAny_bind (PySem.W.samePairsP ha hb da db hits ?_)
  refine wpAny_pure ⟨_, rfl, ?_, ?_⟩
  · exact fun x => nomatch x
  · simpa using h
end
section
variable {X : Cx}
def rNeDD (K : PySem.W.Frag) : R2 := fun x y H Q => ∃ a b ds es, x = .ref a ∧ y = .ref b ∧ DDp K H a ds ∧ DDp K H b es ∧ Q (.bl (!deq ds es)) H
theorem op_neDD (hu : X.A.units + 66 < cLine) : OpR X (compareOp .NotEq) (rNeDD X.K) := by
  intro pins s σ H x y v u Q I rx ry h
  obtain ⟨a, b, ds, es, rfl, rfl, ⟨L, rfl, ha, hL⟩, ⟨M, rfl, hb, hM⟩, q⟩ := h
  cases rx
  cases ry
  obtain ⟨_, ya, va, ra, da⟩ := dk_rd I.hok ha
  obtain ⟨_, yb, vb, rb, db⟩ := dk_rd I.hok hb
  show wpAny (model X.prog X.w) X.A (richCompare .NotEq (.ref a) (.ref b)) _ _ s
  refine ne_dicts ya yb da db (by omega) (fun _ => hits_dd I hu hM rb ra hL) _ _ ?_
  have l1 : va.length = L.length := by rw [← ra.length, List.length_map]
  have l2 : vb.length = M.length := by rw [← rb.length, List.length_map]
  refine ⟨.bl _, H, I, ?_, q⟩
  show Value.bool _ = Value.bool _
  unfold deq
  rw [l1, l2, List.length_map, List.length_map]
  rfl
end
end Dl

/-! _law_due_holds of arrangements -/
namespace Dl
open PySem PySem.Spec PyProof.Rows L2
/-- drawn rows, by their texts -/
structure RowsS (H : Hp) (R : Addr) (rs : List (Str × List Str)) : Prop where
  ex : ∃ rows : List RowIn, H R = some (.lst (refsOf rows)) ∧ (∀ r ∈ rows, RowG H r) ∧ rows.map RowIn.dat = rs.map rdat
theorem RowsS.of {H H' : Hp} {R : Addr} {rs : List (Str × List Str)} (s : Same H H') (h : RowsS H R rs) : RowsS H' R rs := by
  obtain ⟨rows, h1, h2, h3⟩ := h.ex
  exact ⟨rows, s _ _ h1, fun r hr => (h2 r hr).of s, h3⟩
structure TxtDue (mg : Str → Option Value) : Prop where
  list : mg "list" = none
  sor : mg "sorted" = none
  tuple : mg "tuple" = none
def spDueA (K : PySem.W.Frag) : Sp := fun vs H Q _ => ∃ l R p s g ls rs L ss ts, vs = [.ref l, .ref R, .ref p, .ref s, .ref g] ∧ H l = some (.lst (ls.map V.str)) ∧ RowsS H R rs ∧ TabOk ls rs ∧ PairsAt H p L ∧ SetU H s ss ∧ SpanU K H g ts ∧ ss.length < 64 ∧ ts.length < 64 ∧ (∀ q ∈ ss, canS q.1) ∧ (∀ q ∈ ts, canS q.1) ∧ (ts.map (·.1)).Nodup ∧
  (ts.map (·.1) = ls ∨ ¬ (ts.map (·.1)).Perm ls) ∧ ∀ H', Same H H' → Q (.bl (holdsA ss ts ls rs (L.map (·.2)))) H'
theorem row_in {rows : List RowIn} {rs : List (Str × List Str)} (e : rows.map RowIn.dat = rs.map rdat) {i : Nat} {v : V} (h : (refsOf rows)[i]? = some v) : ∃ r x, rows[i]? = some r ∧ rs[i]? = some x ∧ v = .ref r.t ∧ r.look = .str x.1 ∧ r.xs = x.2.map V.str := by
  unfold refsOf at h
  rw [List.getElem?_map] at h
  cases er : rows[i]? with
  | none => rw [er] at h; cases h
  | some r =>
    rw [er] at h
    have q : (rows.map RowIn.dat)[i]? = (rs.map rdat)[i]? := by rw [e]
    rw [List.getElem?_map, List.getElem?_map, er] at q
    cases ex : rs[i]? with
    | none => rw [ex] at q; cases q
    | some x =>
      rw [ex] at q
      have q := Option.some.inj q
      exact ⟨r, x, rfl, rfl, (Option.some.inj h).symm, congrArg Prod.fst q, congrArg Prod.snd q⟩
theorem rows_len {rows : List RowIn} {rs : List (Str × List Str)} (e : rows.map RowIn.dat = rs.map rdat) : (refsOf rows).length = rs.length := by
  have := congrArg List.length e
  rw [List.length_map, List.length_map] at this
  unfold refsOf
  rw [List.length_map]
  exact this
section
variable {P : Program} {w : World} {K : PySem.W.Frag} {mg : Str → Option Value} {base : Heap}
theorem scLawDueA : FnScope ["_law_lamps", "_law_rows", "_law_pairs_here", "_law_settings", "_law_stretches", "_law_pair", "_law_row"] ["_law_lamps", "_law_rows", "_law_pairs_here", "_law_settings", "_law_stretches"] (defScope sLawDueHolds) := ⟨rfl, rfl, rfl, by decide +kernel, rfl, by decide +kernel, by decide +kernel⟩
theorem ok_dueA {f : Addr} {fd : FuncData} (F : Fun K "_law_due_holds" "_law_due_holds" sLawDueHolds f fd) (T : TxtDue mg) (gG : Dfn P w K mg base CX0 1 "_law_glowing" ["_law_lamps", "_law_stretches", "_law_setting"] (spGlowing K)) :
    FnOk P w K mg base CX0 2 f fd ["_law_lamps", "_law_rows", "_law_pairs_here", "_law_settings", "_law_stretches"] (spDueA K) := by
  obtain ⟨fG, dG, mGlowing, kGlowing, bGlowing, GGlowing⟩ := gG
  refine F.ok scLawDueA (fun vs H Q E h => ?_) (fun cdv A outer s H vs Q E hr h => ?_)
  · obtain ⟨l, R, p, s, g, ls, rs, L, ss, ts, rfl, _⟩ := h
    rfl
  · obtain ⟨l, R, p, s, g, ls, rs, L, ss, ts, rfl, hl, hR, ok, hP, hs, hg, sf, tf, scan, tcan, tnd, tor, k⟩ := h
    have hr1 : Room 1 _ := hr
    obtain ⟨rows, hRl, hrg, hdat⟩ := hR.ex
    have rl := rows_len hdat
    have kf := ok.kfew
    have lf := ok.lfew
    obtain ⟨M, eM, hgM, hgV⟩ := hg
    refine ⟨_, (pss_cons (ps_if (PW.pt (pw_or (pt_cmpR (op_neD hr.units) (pe_callB cr_sortedS (by rfl) T.sor (by decide +kernel) (pa_cons (pe_callTy (call_list_dK rfl) (by rfl) T.list (by decide +kernel) (pa_cons (pv 3) pa_nil)) pa_nil)) (pe_callB cr_sortedS (by rfl) T.sor (by decide +kernel) (pa_cons (pe_lc (own := [("_law_row", 6)]) (g := gName 6) (tt := tYes) (te := tOp (rIxT K) (tVar 6) (tC (.int 0))) rfl scLawDueA.nd (pi_list (pv 1)) (blkOk_by (N := ["_law_lamps", "_law_rows", "_law_pairs_here", "_law_settings", "_law_stretches", "_law_pair", "_law_row"]) (sc := defScope sLawDueHolds) (by decide +kernel)) (fun _ _ _ _ _ => (pg_name (i := 6) scLawDueA.nd rfl (Or.inl rfl))) (fun _ _ _ _ _ => pts_nil) (fun _ _ _ _ _ => (pe_ix (by exact ix_tup : IxR _ (rIxT K)) (pv 6) pe_int (fun _ _ => rfl)))) pa_nil)) (nomark _)) (pw_or1 (pt_cmpR (op_neD hr.units) (pe_callB cr_sortedS (by rfl) T.sor (by decide +kernel) (pa_cons (pe_callTy (call_list_dK rfl) (by rfl) T.list (by decide +kernel) (pa_cons (pv 4) pa_nil)) pa_nil)) (pe_callB cr_sortedS (by rfl) T.sor (by decide +kernel) (pa_cons (pv 0) pa_nil)) (nomark _))))) (pss_one (ps_ret pe_bl)) pss_nil)
        (pss_cons (ps_for PassesOwn.never rfl (pi_list (pv 2)) (pg_name (i := 5) scLawDueA.nd rfl (Or.inl rfl)) (pss_one (ps_if (PW.pt (pw_or (pt_cmp (pc_dnotin (hu_of hr) (pe_ix ix_tup (pv 5) pe_int (fun _ _ => rfl)) (pv 3))) (pw_or (pt_cmp (pc_dnotin (hu_of hr) (pe_ix ix_tup (pv 5) pe_int (fun _ _ => rfl)) (pv 3))) (pw_or1 (pt_cmpR op_ge (pe_dget (hu_of hr) (pv 3) (pe_ix ix_tup (pv 5) pe_int (fun _ _ => rfl)) (fun _ _ => rfl)) (pe_dget (hu_of hr) (pv 3) (pe_ix ix_tup (pv 5) pe_int (fun _ _ => rfl)) (fun _ _ => rfl)) (nomark _)))))) (pss_one (ps_ret pe_bl)) pss_nil)))
        (pss_cons (ps_for PassesOwn.never rfl (pi_list (pv 1)) (pg_name (i := 6) scLawDueA.nd rfl (Or.inl rfl)) (pss_one (ps_if (pt_cmpR (op_neD hr.units) (pe_call GGlowing hr1 (by rfl) mGlowing kGlowing bGlowing .nil pass0 (pa_cons (pv 0) (pa_cons (pv 4) (pa_cons (pe_dget (hu_of hr) (pv 3) (pe_ix ix_tup (pv 6) pe_int (fun _ _ => rfl)) (fun _ _ => rfl)) pa_nil)))) (pe_callTy call_tuple_of (by rfl) T.tuple (by decide +kernel) (pa_cons (pe_callB cr_sortedS (by rfl) T.sor (by decide +kernel) (pa_cons (pe_ix ix_tup (pv 6) pe_int (fun _ _ => rfl)) pa_nil)) pa_nil)) (nomark _)) (pss_one (ps_ret pe_bl)) pss_nil)))
        (pss_one (ps_ret pe_bl))))), ?_⟩
    -- the looks
    refine ⟨_, rfl, s, kvI ss, rfl, hs, fun q0 hq0 => ?_⟩
    have e0 : (kvI ss).map (fun kv => kV kv.1) = (ss.map (·.1)).map V.str := by unfold kvI; rw [List.map_map, List.map_map]; rfl
    have s0 := Same.upd_new hq0 (o := .lst ((kvI ss).map fun kv => kV kv.1))
    have h0 := upd_same (H := H) (a := q0) (o := .lst ((kvI ss).map fun kv => kV kv.1))
    generalize upd H q0 (.lst ((kvI ss).map fun kv => kV kv.1)) = H0 at *
    rw [e0] at h0
    refine ⟨q0, ss.map (·.1), rfl, SqL.of h0, by rw [List.length_map]; exact sf, fun ys q1 yp ysd hq1 => ?_⟩
    have s1 := s0.trans (Same.upd_new hq1 (o := .lst (ys.map V.str)))
    have hy := upd_same (H := H0) (a := q1) (o := .lst (ys.map V.str))
    generalize upd H0 q1 (.lst (ys.map V.str)) = H1 at *
    refine ⟨_, rfl, R, rfl, ⟨_, SqL.of (s1 _ _ hRl)⟩, fun D hD => lc_it (walk_list (K := K) (a := R) (xs := refsOf rows)) (fun i H' => Same H1 H' ∧ H' D = some (.lst (((rs.take i).map (·.1)).map V.str))) ⟨Same.upd_new hD, upd_same⟩ (fun i H' _ ⟨s, _⟩ => SqL.of (s _ _ (s1 _ _ hRl))) ?_ ?_⟩
    · rintro i v H2 H3 hi ⟨s2, hD2⟩ ⟨rfl, hv⟩
      obtain ⟨r, x, hr', hx, rfl, el, ex⟩ := row_in hdat hv
      have gp := ((hrg r (List.mem_of_getElem? hr')).of (s1.trans s2)).pair
      rw [el] at gp
      refine ⟨rfl, _, rfl, r.t, _, 0, _, rfl, rfl, SqT.of gp, rfl, _, hD2, ?_, fun c o e => ?_, ?_⟩
      · rw [List.length_map, List.length_map, List.length_take]
        exact small1000 (by omega)
      · rw [upd_ne (ne_of_none e hD)]
        exact s2 _ _ e
      · rw [upd_same, take_next hx, List.map_append, List.map_append]
        rfl
    rintro H2 ⟨s2, hD2⟩
    rw [rl, List.take_length] at hD2
    refine ⟨D, _, rfl, SqL.of hD2, by rw [List.length_map]; omega, fun zs q2 zp zsd hq2 => ?_⟩
    have t3 := Same.upd_new hq2 (o := .lst (zs.map V.str))
    have hz := upd_same (H := H2) (a := q2) (o := .lst (zs.map V.str))
    have hy := t3 _ _ (s2 _ _ hy)
    have s3 := s1.trans (s2.trans t3)
    generalize upd H2 q2 (.lst (zs.map V.str)) = H3 at *
    have ycan : ∀ z ∈ ys, canS z := fun z hz => by
      obtain ⟨r, hr, rfl⟩ := List.mem_map.mp (yp.subset hz)
      exact scan r hr
    have zcan : ∀ z ∈ zs, canS z := fun z hz => by
      obtain ⟨x, hx, rfl⟩ := List.mem_map.mp (zp.subset hz)
      exact valid_can (ok.kval x hx)
    refine ⟨.list (ys.map PyData.str), .list (zs.map PyData.str), .lst (SqL.of hy) (dpAll_strs _), .lst (SqL.of hz) (dpAll_strs _), shapedP ycan, shapedP zcan, _, rfl, ?_⟩
    rw [PyData.eqv, eqvAll_strs, sorted_cmp yp zp ysd zsd]
    by_cases pk : (ss.map (·.1)).Perm (rs.map (·.1))
    case neg =>
      rw [decide_eq_false pk]
      refine iteT ?_
      have q := k H3 s3
      unfold holdsA keysB at q
      rw [decide_eq_false pk, Bool.false_and, Bool.false_and] at q
      exact q
    rw [decide_eq_true pk]
    refine iteF ?_
    clear hy hz ycan zcan yp ysd zp zsd hD2 hD s2 t3 s1 h0 s0 hq0 hq1 hq2
    -- the lamps
    refine ⟨_, rfl, g, kvS M, rfl, s3 _ _ hgM, fun q0 hq0 => ?_⟩
    have e1 : (kvS M).map (fun kv => kV kv.1) = (ts.map (·.1)).map V.str := by rw [← eM]; unfold kvS tsOf; rw [List.map_map, List.map_map, List.map_map]; rfl
    have s4 := s3.trans (Same.upd_new hq0 (o := .lst ((kvS M).map fun kv => kV kv.1)))
    have h0 := upd_same (H := H3) (a := q0) (o := .lst ((kvS M).map fun kv => kV kv.1))
    generalize upd H3 q0 (.lst ((kvS M).map fun kv => kV kv.1)) = H4 at *
    rw [e1] at h0
    refine ⟨q0, ts.map (·.1), rfl, SqL.of h0, by rw [List.length_map]; exact tf, fun ys q1 yp ysd hq1 => ?_⟩
    have s5 := s4.trans (Same.upd_new hq1 (o := .lst (ys.map V.str)))
    have hy := upd_same (H := H4) (a := q1) (o := .lst (ys.map V.str))
    generalize upd H4 q1 (.lst (ys.map V.str)) = H5 at *
    refine ⟨_, rfl, l, ls, rfl, SqL.of (s5 _ _ hl), by omega, fun zs q2 zp zsd hq2 => ?_⟩
    have t6 := Same.upd_new hq2 (o := .lst (zs.map V.str))
    have hz := upd_same (H := H5) (a := q2) (o := .lst (zs.map V.str))
    have hy := t6 _ _ hy
    have s6 := s5.trans t6
    generalize upd H5 q2 (.lst (zs.map V.str)) = H6 at *
    have ycan : ∀ z ∈ ys, canS z := fun z hz => by
      obtain ⟨r, hr, rfl⟩ := List.mem_map.mp (yp.subset hz)
      exact tcan r hr
    have zcan : ∀ z ∈ zs, canS z := fun z hz => valid_can (ok.lval z (zp.subset hz))
    refine ⟨.list (ys.map PyData.str), .list (zs.map PyData.str), .lst (SqL.of hy) (dpAll_strs _), .lst (SqL.of hz) (dpAll_strs _), shapedP ycan, shapedP zcan, _, rfl, ?_⟩
    rw [PyData.eqv, eqvAll_strs, sorted_cmp yp zp ysd zsd]
    by_cases pl : (ts.map (·.1)).Perm ls
    case neg =>
      rw [decide_eq_false pl]
      refine iteT ?_
      have q := k H6 s6
      unfold holdsA keysB at q
      rw [decide_eq_false pl, Bool.and_false, Bool.false_and] at q
      exact q
    rw [decide_eq_true pl]
    refine iteF ?_
    clear hy hz ycan zcan yp ysd zp zsd t6 s5 h0 s4 s3 hq0 hq1 hq2
    have els : ls = ts.map (·.1) := (tor.resolve_right fun h => h pl).symm
    have k2 : ∀ H', Same H H' → Q (.bl ((rs.all (rowA ss ts)) && ascA ss (L.map (·.2)))) H' := fun H' s => by
      have q := k H' s
      unfold holdsA keysB at q
      rw [decide_eq_true pk, decide_eq_true pl, Bool.true_and, Bool.true_and] at q
      exact q
    have inK : ∀ x ∈ rs, x.1 ∈ ss.map (·.1) := fun x hx => pk.mem_iff.mpr (List.mem_map_of_mem hx)
    have hs6 : SetR H6 s ss := .inl (s6 _ _ hs)
    -- the pairs
    refine ⟨_, rfl, p, rfl, ⟨_, SqL.of (s6 _ _ hP.lst)⟩, for_it (walk_list (K := K) (a := p) (xs := L.map fun q => V.ref q.1)) (fun i σ H' => ∃ x5, σ = [some (.ref l), some (.ref R), some (.ref p), some (.ref s), some (.ref g), x5, none] ∧ H' = H6 ∧ ascA ss ((L.take i).map (·.2)) = true)
      ⟨_, rfl, rfl, rfl⟩ (fun i σ H' _ ⟨_, _, e, _⟩ => by rw [e]; exact SqL.of (s6 _ _ hP.lst)) ?_ ?_⟩
    · rintro i v σ H7 H8 hi ⟨x5, rfl, rfl, kp⟩ ⟨rfl, hv⟩
      obtain ⟨z, hz, hzm, rfl⟩ := kf_at hv
      have gz : GoodP z.2 := hP.good _ (List.mem_map_of_mem hzm)
      have hzt := s6 _ _ (hP.tup z hzm)
      rw [gz.eq.1] at hzt
      have bad : (decide (k0 z.2 ∈ ss.map (·.1)) && (decide (k1 z.2 ∈ ss.map (·.1)) && decide (sval ss (k0 z.2) < sval ss (k1 z.2)))) = false → ascA ss (L.map (·.2)) = false := fun e => by
        unfold ascA
        rw [List.all_eq_false]
        exact ⟨z.2, List.mem_map_of_mem hzm, by rw [e]; decide⟩
      have kf := k2 _ s6
      by_cases m0 : k0 z.2 ∈ ss.map (·.1)
      case neg =>
        refine ⟨_, rfl, z.1, _, 0, _, rfl, rfl, SqT.of hzt, rfl, _, rfl, s, _, rfl, hs6.not_ m0, _, rfl, iteY rfl ?_⟩
        rw [bad (by rw [decide_eq_false m0]; rfl), Bool.and_false] at kf
        exact kf
      refine ⟨_, rfl, z.1, _, 0, _, rfl, rfl, SqT.of hzt, rfl, _, rfl, s, _, rfl, hs6.at_ m0, _, rfl, iteZ rfl ?_⟩
      by_cases m1 : k1 z.2 ∈ ss.map (·.1)
      case neg =>
        refine ⟨_, rfl, z.1, _, 1, _, rfl, rfl, SqT.of hzt, rfl, _, rfl, s, _, rfl, hs6.not_ m1, _, rfl, iteY rfl ?_⟩
        rw [bad (by rw [decide_eq_false m1, Bool.false_and, Bool.and_false]), Bool.and_false] at kf
        exact kf
      refine ⟨_, rfl, z.1, _, 1, _, rfl, rfl, SqT.of hzt, rfl, _, rfl, s, _, rfl, hs6.at_ m1, _, rfl, iteZ rfl ?_⟩
      refine ⟨_, rfl, _, rfl, z.1, _, 0, _, rfl, rfl, SqT.of hzt, rfl, s, _, rfl, hs6.at_ m0, _, rfl, _, rfl, z.1, _, 1, _, rfl, rfl, SqT.of hzt, rfl, s, _, rfl, hs6.at_ m1, _, _, rfl, rfl, _, rfl, ?_⟩
      by_cases c : sval ss (k0 z.2) < sval ss (k1 z.2)
      · refine iteZ (decide_eq_false (by omega)) ⟨_, rfl, rfl, ?_⟩
        rw [take_next hz, List.map_append]
        unfold ascA at kp ⊢
        rw [List.all_append, kp]
        show ((decide (k0 z.2 ∈ ss.map (·.1)) && (decide (k1 z.2 ∈ ss.map (·.1)) && decide (sval ss (k0 z.2) < sval ss (k1 z.2)))) && true) = true
        rw [decide_eq_true m0, decide_eq_true m1, decide_eq_true c]
        rfl
      · refine iteY (decide_eq_true (by omega)) ?_
        rw [bad (by rw [decide_eq_false c, Bool.and_false, Bool.and_false]), Bool.and_false] at kf
        exact kf
    rintro σ H7 ⟨x5, rfl, rfl, kp⟩
    rw [List.length_map, List.take_length] at kp
    rw [kp] at k2
    -- the rows
    refine ⟨_, rfl, R, rfl, ⟨_, SqL.of (s6 _ _ hRl)⟩, for_it (walk_list (K := K) (a := R) (xs := refsOf rows)) (fun i σ H' => ∃ x6, σ = [some (.ref l), some (.ref R), some (.ref p), some (.ref s), some (.ref g), x5, x6] ∧ Same H H' ∧ (rs.take i).all (rowA ss ts) = true)
      ⟨_, rfl, s6, rfl⟩ (fun i σ H' _ ⟨_, _, s, _⟩ => SqL.of (s _ _ hRl)) ?_ ?_⟩
    · rintro i v σ H8 H9 hi ⟨x6, rfl, s8, kq⟩ ⟨rfl, hv⟩
      obtain ⟨r, x, hr', hx, rfl, el, ex⟩ := row_in hdat hv
      have xm := List.mem_of_getElem? hx
      have rg := (hrg r (List.mem_of_getElem? hr')).of s8
      have gp := rg.pair
      have gl := rg.lst
      rw [el] at gp
      rw [ex] at gl
      have hs8 : SetR _ s ss := .inl (s8 _ _ hs)
      have xsub := ok.sub x xm
      have xl : x.2.length < 64 := Nat.lt_of_le_of_lt xsub.length_le (by omega)
      refine ⟨_, rfl, _, rfl, _, rfl, _, rfl, r.t, _, 0, _, rfl, rfl, SqT.of gp, rfl, s, _, rfl, hs8.at_ (inK x xm), ?_⟩
      refine ⟨l, g, ls, ts, _, rfl, s8 _ _ hl, ⟨M, eM, s8 _ _ hgM, hgV.of s8⟩, els, tnd, tf, fun H10 u ys s10 hu ysd yp => ?_⟩
      refine ⟨_, rfl, r.t, _, 1, _, rfl, rfl, SqT.of (s10 _ _ gp), rfl, r.s, x.2, rfl, SqL.of (s10 _ _ gl), xl, fun zs q zp zsd hq => ?_⟩
      have s11 := Same.upd_new hq (o := .lst (zs.map V.str))
      refine ⟨q, _, rfl, .inl ⟨SqL.of upd_same, fun u2 hu2 => ?_⟩⟩
      have s12 := Same.upd_new hu2 (o := .tup (zs.map V.str))
      have st := s8.trans (s10.trans (s11.trans s12))
      have ycan : ∀ z ∈ ys, canS z := fun z hz => by
        have m := yp.subset hz
        unfold glow at m
        obtain ⟨r, hr, rfl⟩ := List.mem_map.mp m
        exact tcan r (List.mem_filter.mp hr).1
      have zcan : ∀ z ∈ zs, canS z := fun z hz => valid_can (ok.lval z (xsub.subset (zp.subset hz)))
      refine ⟨.tuple (ys.map PyData.str), .tuple (zs.map PyData.str), .tup (Same.tup (s11.trans s12) hu) (dpAll_strs _), .tup (SqT.of upd_same) (dpAll_strs _), shaped_tups ycan, shaped_tups zcan, _, rfl, ?_⟩
      rw [eqv_tups, sorted_cmp yp zp ysd zsd]
      have er : decide ((glow ts (sval ss x.1)).Perm x.2) = rowA ss ts x := rfl
      rw [er]
      cases ea : rowA ss ts x with
      | true =>
        refine iteF ⟨_, rfl, st, ?_⟩
        rw [take_next hx, List.all_append, kq, List.all_cons, ea]
        rfl
      | false =>
        refine iteT ?_
        have q := k2 _ st
        have e2 : rs.all (rowA ss ts) = false := by
          rw [List.all_eq_false]
          exact ⟨x, xm, by rw [ea]; decide⟩
        rw [e2, Bool.false_and] at q
        exact q
    · rintro σ H8 ⟨x6, rfl, s8, kq⟩
      rw [rl, List.take_length] at kq
      have q := k2 _ s8
      rw [kq] at q
      exact q
end
end Dl

/-! _law_bend -/
namespace Dl
open PySem PySem.Spec PyProof.Rows L2
structure BentK (ks ks' : List Str) : Prop where
  len : ks'.length ≤ ks.length + 1
  inn : ∀ z ∈ ks', z ∈ ks ∨ z = "absent9999"
  nd : ks'.Nodup
  alt : ks' = ks ∨ ¬ ks'.Perm ks
theorem BentK.refl {ks : List Str} (nd : ks.Nodup) : BentK ks ks := ⟨Nat.le_succ _, fun _ h => .inl h, nd, .inl rfl⟩
theorem BentK.del {ks : List Str} {k : Str} (nd : ks.Nodup) (m : k ∈ ks) : BentK ks (ks.filter fun z => decide (z ≠ k)) :=
  ⟨Nat.le_succ_of_le (List.length_filter_le _ _), fun _ h => .inl (List.mem_filter.mp h).1, nd.sublist List.filter_sublist, .inr fun p => by
    have := p.mem_iff.mpr m
    simp at this⟩
theorem BentK.add {ks : List Str} (nd : ks.Nodup) (na : ("absent9999" : Str) ∉ ks) : BentK ks (ks ++ [("absent9999" : Str)]) :=
  ⟨by rw [List.length_append]; exact Nat.le_refl _, fun z h => (List.mem_append.mp h).imp id fun h => List.mem_singleton.mp h, by
    rw [List.nodup_append]
    exact ⟨nd, by simp, fun a ha b hb e => na (by rw [← List.mem_singleton.mp hb, ← e]; exact ha)⟩, .inr fun p => by
    have := p.length_eq
    rw [List.length_append] at this
    simp at this⟩
theorem BentK.delAdd {ks : List Str} {k : Str} (nd : ks.Nodup) (m : k ∈ ks) (na : ("absent9999" : Str) ∉ ks) : BentK ks ((ks.filter fun z => decide (z ≠ k)) ++ [("absent9999" : Str)]) :=
  ⟨by rw [List.length_append]; exact Nat.add_le_add_right (List.length_filter_le _ _) 1, fun z h => (List.mem_append.mp h).imp (fun h => (List.mem_filter.mp h).1) fun h => List.mem_singleton.mp h, by
    rw [List.nodup_append]
    exact ⟨nd.sublist List.filter_sublist, by simp, fun a ha b hb e => na (by rw [← List.mem_singleton.mp hb, ← e]; exact (List.mem_filter.mp ha).1)⟩, .inr fun p => na (p.mem_iff.mp (by simp))⟩
def setD {α : Type} (ds : List (Str × α)) (k : Str) (x : α) : List (Str × α) := ds.map fun p => if p.1 = k then (p.1, x) else p
def delD {α : Type} (ds : List (Str × α)) (k : Str) : List (Str × α) := ds.filter fun p => decide (p.1 ≠ k)
theorem setD_keys {α : Type} (ds : List (Str × α)) (k : Str) (x : α) : (setD ds k x).map (·.1) = ds.map (·.1) := by
  unfold setD
  rw [List.map_map]
  refine List.map_congr_left fun p _ => ?_
  show (if p.1 = k then (p.1, x) else p).1 = p.1
  split <;> rfl
theorem delD_keys {α : Type} (ds : List (Str × α)) (k : Str) : (delD ds k).map (·.1) = (ds.map (·.1)).filter fun z => decide (z ≠ k) := by
  unfold delD
  rw [List.filter_map]
  rfl
theorem put_in {α : Type} {g : α → V} {ds : List (Str × α)} {k : Str} (m : k ∈ ds.map (·.1)) (x : α) : putK (ds.map fun p => ((Sum.inr p.1 : Key), g p.2)) (.inr k) (g x) = (setD ds k x).map fun p => ((Sum.inr p.1 : Key), g p.2) := by
  unfold putK setD
  have e : ((ds.map fun p => ((Sum.inr p.1 : Key), g p.2)).any fun kv => decide (kv.1 = Sum.inr k)) = true := by
    rw [List.any_eq_true]
    obtain ⟨p, hp, rfl⟩ := List.mem_map.mp m
    exact ⟨(.inr p.1, g p.2), List.mem_map_of_mem hp, decide_eq_true rfl⟩
  rw [if_pos e, List.map_map, List.map_map]
  refine List.map_congr_left fun p _ => ?_
  show (if (Sum.inr p.1 : Key) = Sum.inr k then ((Sum.inr p.1 : Key), g x) else (.inr p.1, g p.2)) = _
  by_cases h : p.1 = k
  · rw [if_pos (by rw [h])]
    show _ = (fun q : Str × α => ((Sum.inr q.1 : Key), g q.2)) (if p.1 = k then (p.1, x) else p)
    rw [if_pos h]
  · rw [if_neg (fun q => h (Sum.inr.inj q))]
    show _ = (fun q : Str × α => ((Sum.inr q.1 : Key), g q.2)) (if p.1 = k then (p.1, x) else p)
    rw [if_neg h]
theorem drop_in {α : Type} {g : α → V} (ds : List (Str × α)) (k : Str) : dropK (ds.map fun p => ((Sum.inr p.1 : Key), g p.2)) (.inr k) = (delD ds k).map fun p => ((Sum.inr p.1 : Key), g p.2) := by
  unfold dropK delD
  rw [List.filter_map]
  congr 1
  refine List.filter_congr fun p _ => ?_
  show decide ((Sum.inr p.1 : Key) ≠ Sum.inr k) = decide (p.1 ≠ k)
  rw [decide_eq_decide]
  exact ⟨fun h e => h (by rw [e]), fun h e => h (Sum.inr.inj e)⟩
theorem put_out {α : Type} {g : α → V} {ds : List (Str × α)} {k : Str} (m : k ∉ ds.map (·.1)) (x : α) : putK (ds.map fun p => ((Sum.inr p.1 : Key), g p.2)) (.inr k) (g x) = (ds ++ [(k, x)]).map fun p => ((Sum.inr p.1 : Key), g p.2) := by
  rw [putK_new _ (by rw [val_dv, dval_none m]; rfl), List.map_append]
  rfl
/-- kvS in the shape of the others -/
theorem kvS_eq (L : SpH) : kvS L = L.map fun p => ((Sum.inr p.1 : Key), (fun q : V × Span => q.1) p.2) := rfl
theorem tsOf_set (L : SpH) (k : Str) (q : V × Span) : tsOf (setD L k q) = setD (tsOf L) k q.2 := by
  unfold tsOf setD
  rw [List.map_map, List.map_map]
  refine List.map_congr_left fun p _ => ?_
  show (fun z : Str × V × Span => (z.1, z.2.2)) (if p.1 = k then (p.1, q) else p) = if p.1 = k then (p.1, q.2) else (p.1, p.2.2)
  by_cases h : p.1 = k
  · rw [if_pos h, if_pos h]
  · rw [if_neg h, if_neg h]
theorem tsOf_del (L : SpH) (k : Str) : tsOf (delD L k) = delD (tsOf L) k := by
  unfold tsOf delD
  rw [List.filter_map]
  rfl
theorem tsOf_keysD (L : SpH) : L.map (·.1) = (tsOf L).map (·.1) := (tsOf_keys L).symm
theorem SpansV.set {K : PySem.W.Frag} {H : Hp} {L : SpH} {k : Str} {q : V × Span} (h : SpansV K H L) (hq : SpanV K H q.1 q.2) : SpansV K H (setD L k q) := fun p hp => by
  unfold setD at hp
  obtain ⟨r, hr, rfl⟩ := List.mem_map.mp hp
  by_cases e : r.1 = k
  · rw [if_pos e]; exact hq
  · rw [if_neg e]; exact h r hr
/-- the settings, the stretches, and what the bag and they don't touch -/
structure Bn (K : PySem.W.Frag) (b s g : Addr) (H H' : Hp) (ss : SetL) (ts : SpanL) : Prop where
  keep : ∀ d o, d ≠ b → d ≠ s → d ≠ g → H d = some o → H' d = some o
  bag : BagIn H' b
  sets : SetU H' s ss
  spans : SpanU K H' g ts
theorem SpanV.updD {K : PySem.W.Frag} {H : Hp} {D : Addr} {v : V} {o : Span} {kvs kvs' : List (Key × V)} (hD : H D = some (.dK kvs)) (h : SpanV K H v o) : SpanV K (upd H D (.dK kvs')) v o := updD_span hD h
theorem Bn.new {K : PySem.W.Frag} {b s g : Addr} {H H' H'' : Hp} {ss : SetL} {ts : SpanL} (h : Bn K b s g H H' ss ts) (t : Same H' H'') : Bn K b s g H H'' ss ts :=
  ⟨fun d o n1 n2 n3 e => t _ _ (h.keep d o n1 n2 n3 e), h.bag.of t, h.sets.of t, h.spans.of t⟩
theorem Bn.drawn {K : PySem.W.Frag} {b s g : Addr} {H H' : Hp} {ss : SetL} {ts : SpanL} {L : List Int} (h : Bn K b s g H H' ss ts) (nsb : s ≠ b) (ngb : g ≠ b) (ok : BagOk L) : Bn K b s g H (upd H' b (.lst (L.map V.int))) ss ts := by
  obtain ⟨M, e1, e2, e3⟩ := h.spans
  obtain ⟨xs, hb⟩ := h.bag.lst
  exact ⟨fun d o n1 n2 n3 e => by rw [upd_ne n1]; exact h.keep d o n1 n2 n3 e, .upd ok, by unfold SetU; rw [upd_ne nsb]; exact h.sets, M, e1, by rw [upd_ne ngb]; exact e2, e3.ofB draw_same hb⟩
theorem Bn.setS {K : PySem.W.Frag} {b s g : Addr} {H H' : Hp} {ss ss' : SetL} {ts : SpanL} (h : Bn K b s g H H' ss ts) (nsb : s ≠ b) (nsg : s ≠ g) : Bn K b s g H (upd H' s (.dK (kvI ss'))) ss' ts := by
  obtain ⟨M, e1, e2, e3⟩ := h.spans
  refine ⟨fun d o n1 n2 n3 e => by rw [upd_ne n2]; exact h.keep d o n1 n2 n3 e, ?_, upd_same, M, e1, by rw [upd_ne nsg.symm]; exact e2, fun q hq => (e3 q hq).updD h.sets⟩
  obtain ⟨L, hb, ok⟩ := h.bag
  exact ⟨L, by rw [upd_ne nsb.symm]; exact hb, ok⟩
theorem Bn.setG {K : PySem.W.Frag} {b s g : Addr} {H H' : Hp} {ss : SetL} {ts : SpanL} {kvs : List (Key × V)} {M : SpH} (h : Bn K b s g H H' ss ts) (ngb : g ≠ b) (nsg : s ≠ g) (hg : H' g = some (.dK kvs)) (hM : SpansV K H' M) : Bn K b s g H (upd H' g (.dK (kvS M))) ss (tsOf M) := by
  refine ⟨fun d o n1 n2 n3 e => by rw [upd_ne n3]; exact h.keep d o n1 n2 n3 e, ?_, by unfold SetU; rw [upd_ne nsg]; exact h.sets, M, rfl, upd_same, fun q hq => (hM q hq).updD hg⟩
  obtain ⟨L, hb, ok⟩ := h.bag
  exact ⟨L, by rw [upd_ne ngb.symm]; exact hb, ok⟩
structure TxtBend (mg : Str → Option Value) : Prop where
  list : mg "list" = none
  len : mg "len" = none
def spBend (K : PySem.W.Frag) : Sp := fun vs H Q _ => ∃ b s g ss ts, vs = [.ref b, .ref s, .ref g] ∧ BagIn H b ∧ SetU H s ss ∧ SpanU K H g ts ∧ s ≠ b ∧ g ≠ b ∧ s ≠ g ∧ (ss.map (·.1)).Nodup ∧ (ts.map (·.1)).Nodup ∧ (∀ q ∈ ss, canS q.1) ∧ (∀ q ∈ ts, canS q.1) ∧ ("absent9999" : Str) ∉ ss.map (·.1) ∧ ("absent9999" : Str) ∉ ts.map (·.1) ∧ ss.length ≤ 24 ∧ ts.length ≤ 24 ∧
  ∀ H' ss' ts', Bn K b s g H H' ss' ts' → BentK (ss.map (·.1)) (ss'.map (·.1)) → BentK (ts.map (·.1)) (ts'.map (·.1)) → Q .non H'
section
variable {P : Program} {w : World} {K : PySem.W.Frag} {mg : Str → Option Value} {base : Heap}
theorem scLawBend : FnScope ["_law_bag_here", "_law_settings", "_law_stretches", "_law_way", "_law_looks", "_law_lamps", "_law_look", "_law_lamp"] ["_law_bag_here", "_law_settings", "_law_stretches"] (defScope sLawBend) := ⟨rfl, rfl, rfl, by decide +kernel, rfl, by decide +kernel, by decide +kernel⟩
theorem ok_bend {f : Addr} {fd : FuncData} (F : Fun K "_law_bend" "_law_bend" sLawBend f fd) (T : TxtBend mg) (gT : Dfn P w K mg base CX0 1 "_law_take" ["_law_bag_here", "_law_size"] spTake) : FnOk P w K mg base CX0 2 f fd ["_law_bag_here", "_law_settings", "_law_stretches"] (spBend K) := by
  obtain ⟨fT, dT, mTake, kTake, bTake, GTake⟩ := gT
  refine F.ok scLawBend (fun vs H Q E h => ?_) (fun cdv A outer s H vs Q E hr h => ?_)
  · obtain ⟨b, s, g, ss, ts, rfl, _⟩ := h
    rfl
  · obtain ⟨b, s, g, ss, ts, rfl, hb, hs, hg, nsb, ngb, nsg, snd, tnd, scan, tcan, sna, tna, sl, tl, k⟩ := h
    have hr1 : Room 1 _ := hr
    refine ⟨_, (pss_cons (ps_set (i := 3) scLawBend.nd rfl (Or.inl rfl) (pe_call GTake hr1 (by rfl) mTake kTake bTake .nil pass0 (pa_cons (pv 0) (pa_cons pe_int pa_nil))))
        (pss_cons (ps_set (i := 4) scLawBend.nd rfl (Or.inl rfl) (pe_callTy (call_list_dK rfl) (by rfl) T.list (by decide +kernel) (pa_cons (pv 1) pa_nil)))
        (pss_cons (ps_set (i := 5) scLawBend.nd rfl (Or.inl rfl) (pe_callTy (call_list_dK rfl) (by rfl) T.list (by decide +kernel) (pa_cons (pv 2) pa_nil)))
        (C8.pss_cut (ps_if (PW.pt (pw_and (pt_cmpR (op_neD hr.units) (pv 4) (pe_lst pa_nil) (nomark _)) (pw_and1 (pt_cmpR op_in_seq (pv 3) (pe_lst (pa_cons pe_int (pa_cons pe_int (pa_cons pe_int pa_nil)))) (by rfl))))) (pss_cons (ps_set (i := 6) scLawBend.nd rfl (Or.inl rfl) (pe_ix ix_list (pv 4) (pe_call GTake hr1 (by rfl) mTake kTake bTake .nil pass0 (pa_cons (pv 0) (pa_cons (pe_callB call_len_seq (by rfl) T.len PySem.boot_len (pa_cons (pv 4) pa_nil)) pa_nil))) (fun _ _ => rfl)))
        (pss_cons (ps_dput (hu_of hr) (pv 1) (pv 6) (pe_op op_add (pe_dget (hu_of hr) (pv 1) (pv 6) (fun _ _ => rfl)) pe_int) rfl)
        (pss_cons (ps_if (pt_cmpR op_eq (pv 3) pe_int (nomark _)) (pss_one (ps_expr (pe_dpop1 (pv 1) (pv 6) (by constructor <;> rfl)))) pss_nil)
        (pss_one (ps_if (pt_cmpR op_eq (pv 3) pe_int (nomark _)) (pss_one (ps_dput (hu_of hr) (pv 1) pe_str (pe_dpop1 (pv 1) (pv 6) (by constructor <;> rfl)) rfl)) pss_nil))))) pss_nil)
        (C8.pss_cut (ps_if (PW.pt (pw_and (pt_cmpR (op_neD hr.units) (pv 5) (pe_lst pa_nil) (nomark _)) (pw_and1 (pt_cmpR op_in_seq (pv 3) (pe_lst (pa_cons pe_int (pa_cons pe_int (pa_cons pe_int pa_nil)))) (by rfl))))) (pss_cons (ps_set (i := 7) scLawBend.nd rfl (Or.inl rfl) (pe_ix ix_list (pv 5) (pe_call GTake hr1 (by rfl) mTake kTake bTake .nil pass0 (pa_cons (pv 0) (pa_cons (pe_callB call_len_seq (by rfl) T.len PySem.boot_len (pa_cons (pv 5) pa_nil)) pa_nil))) (fun _ _ => rfl)))
        (pss_cons (ps_dput (hu_of hr) (pv 2) (pv 7) (pe_ix ix_list (pe_lst (pa_cons (pe_tup (pa_cons pe_int (pa_cons pe_int pa_nil))) (pa_cons pe_non pa_nil))) (pe_op op_sub (pv 3) pe_int) (fun _ _ => rfl)) rfl)
        (pss_one (ps_if (pt_cmpR op_eq (pv 3) pe_int (nomark _)) (pss_one (ps_expr (pe_dpop1 (pv 2) (pv 7) (by constructor <;> rfl)))) pss_nil)))) pss_nil)
        (pss_one (ps_if (pt_cmpR op_eq (pv 3) pe_int (nomark _)) (pss_one (ps_dput (hu_of hr) (pv 2) pe_str pe_non rfl)) pss_nil))))))), ?_⟩
    obtain ⟨L0, hb0, ok0⟩ := hb
    have B0 : Bn K b s g H H ss ts := ⟨fun _ _ _ _ _ e => e, ⟨L0, hb0, ok0⟩, hs, hg⟩
    refine ⟨_, rfl, b, L0, 8, rfl, hb0, ok0, by decide, by decide, fun L1 way ok1 w0 w1 => ?_⟩
    have B1 := B0.drawn nsb ngb ok1
    generalize upd H b (.lst (L1.map V.int)) = H1 at *
    refine ⟨_, rfl, s, kvI ss, rfl, B1.sets, fun u hu => ?_⟩
    have e0 : (kvI ss).map (fun kv => kV kv.1) = (ss.map (·.1)).map V.str := by unfold kvI; rw [List.map_map, List.map_map]; rfl
    have B2 := B1.new (Same.upd_new hu (o := .lst ((kvI ss).map fun kv => kV kv.1)))
    have hu2 := upd_same (H := H1) (a := u) (o := .lst ((kvI ss).map fun kv => kV kv.1))
    have nub : u ≠ b := fun e => by obtain ⟨xs, q⟩ := B1.bag.lst; rw [e, q] at hu; cases hu
    have nus : u ≠ s := fun e => by have q := B1.sets; unfold SetU at q; rw [e, q] at hu; cases hu
    have nug : u ≠ g := fun e => by obtain ⟨_, _, q, _⟩ := B1.spans; rw [e, q] at hu; cases hu
    generalize upd H1 u (.lst ((kvI ss).map fun kv => kV kv.1)) = H2 at *
    rw [e0] at hu2
    obtain ⟨M, eM, hgM, hMV⟩ := B2.spans
    refine ⟨_, rfl, g, kvS M, rfl, hgM, fun v hv => ?_⟩
    have e1 : (kvS M).map (fun kv => kV kv.1) = (ts.map (·.1)).map V.str := by rw [← eM]; unfold kvS tsOf; rw [List.map_map, List.map_map, List.map_map]; rfl
    have t3 := Same.upd_new hv (o := .lst ((kvS M).map fun kv => kV kv.1))
    have B3 := B2.new t3
    have hu3 := t3 _ _ hu2
    have hv3 := upd_same (H := H2) (a := v) (o := .lst ((kvS M).map fun kv => kV kv.1))
    have nvb : v ≠ b := fun e => by obtain ⟨xs, q⟩ := B2.bag.lst; rw [e, q] at hv; cases hv
    have nvs : v ≠ s := fun e => by have q := B2.sets; unfold SetU at q; rw [e, q] at hv; cases hv
    have nvg : v ≠ g := fun e => by rw [e, hgM] at hv; cases hv
    generalize upd H2 v (.lst ((kvS M).map fun kv => kV kv.1)) = H3 at *
    rw [e1] at hv3
    clear e0 e1 t3 hu hv hu2 B0 B1 B2 hb0 ok0 ok1 hs hg hgM hMV eM M H1 H2 L0 L1
    have skl : ((ss.map (·.1)).map V.str).length = ss.length := by rw [List.length_map, List.length_map]
    have tkl : ((ts.map (·.1)).map V.str).length = ts.length := by rw [List.length_map, List.length_map]
    have scn : ∀ z ∈ ss.map (·.1), canS z := fun z hz => by obtain ⟨q, hq, rfl⟩ := List.mem_map.mp hz; exact scan q hq
    have tcn : ∀ z ∈ ts.map (·.1), canS z := fun z hz => by obtain ⟨q, hq, rfl⟩ := List.mem_map.mp hz; exact tcan q hq
    -- the settings
    refine ⟨fun σ H' => ∃ (x6 : Option V) (ss' : SetL), σ = [some (.ref b), some (.ref s), some (.ref g), some (.int way), some (.ref u), some (.ref v), x6, none] ∧ Bn K b s g H H' ss' ts ∧ BentK (ss.map (·.1)) (ss'.map (·.1)) ∧ H' v = some (.lst ((ts.map (·.1)).map V.str)), ?_, ?_⟩
    · refine ⟨_, rfl, Nat.zero_le _, fun q hq => ?_⟩
      have t4 := Same.upd_new hq (o := .lst ([] : List V))
      have B4 := B3.new t4
      have hu4 := t4 _ _ hu3
      have hv4 := t4 _ _ hv3
      have hq4 := upd_same (H := H3) (a := q) (o := .lst ([] : List V))
      generalize upd H3 q (.lst ([] : List V)) = H4 at *
      refine ⟨.list ((ss.map (·.1)).map PyData.str), .list (([] : List Str).map PyData.str), .lst (SqL.of hu4) (dpAll_strs _), .lst (SqL.of hq4) (dpAll_strs []), shapedP scn, shapedP (by simp), _, rfl, ?_⟩
      rw [eqv_lists]
      by_cases z0 : ss.map (·.1) = []
      · exact iteZ (by rw [decide_eq_true z0]; rfl) ⟨_, ss, rfl, B4, .refl snd, hv4⟩
      refine iteY (by rw [decide_eq_false z0]; rfl) ?_
      have zp : 0 < ss.length := by
        cases ss with
        | nil => exact absurd rfl z0
        | cons _ _ => exact Nat.succ_pos _
      refine ⟨_, rfl, by show 3 ≤ sizeLine; decide, fun p hp => ?_⟩
      have t5 := Same.upd_new hp (o := .lst [.int 1, .int 2, .int 3])
      have B5 := B4.new t5
      have hu5 := t5 _ _ hu4
      have hv5 := t5 _ _ hv4
      have hp5 := upd_same (H := H4) (a := p) (o := .lst [.int 1, .int 2, .int 3])
      generalize upd H4 p (.lst [.int 1, .int 2, .int 3]) = H5 at *
      refine ⟨p, _, rfl, .inl (SqL.of hp5), rfl, rfl, _, rfl, ?_⟩
      refine ite2 (fun _ => ?_) (fun _ => ⟨_, ss, rfl, B5, .refl snd, hv5⟩)
      obtain ⟨L5, hb5, ok5⟩ := B5.bag
      refine ⟨_, rfl, _, rfl, _, rfl, u, _, rfl, .inl (SqL.of hu5), b, L5, _, rfl, hb5, ok5, by rw [skl]; omega, by rw [skl]; omega, fun L6 i ok6 i0 i1 => ?_⟩
      rw [skl] at i1
      have B6 := B5.drawn nsb ngb ok6
      have hu6 := (draw_same (L := L6)) _ _ nub hu5
      have hv6 := (draw_same (L := L6)) _ _ nvb hv5
      generalize upd H5 b (.lst (L6.map V.int)) = H6 at *
      obtain ⟨i, rfl⟩ := Int.eq_ofNat_of_zero_le i0
      have hi : i < (ss.map (·.1)).length := by rw [List.length_map]; omega
      have zin : (ss.map (·.1))[i] ∈ ss.map (·.1) := List.getElem_mem hi
      refine ⟨u, _, (i : Int), _, rfl, rfl, SqL.of hu6, atI_nat (by rw [List.getElem?_map, List.getElem?_eq_getElem hi]; rfl), ?_⟩
      generalize (ss.map (·.1))[i] = z at *
      have B6r : SetR H6 s ss := .inl B6.sets
      refine ⟨_, rfl, _, rfl, s, _, rfl, B6r.at_ zin, _, _, rfl, rfl, _, rfl, _, rfl, s, _, rfl, DPut.k (k := .inr z) B6.sets (by unfold kvI; rw [List.length_map]; exact small1000 (by omega)), ?_⟩
      have ep : putK (kvI ss) (.inr z) (.int (sval ss z + 1)) = kvI (setD ss z (sval ss z + 1)) := put_in (g := V.int) zin _
      rw [ep]
      have B7 := B6.setS (ss' := setD ss z (sval ss z + 1)) nsb nsg
      have hv7 : upd H6 s (.dK (kvI (setD ss z (sval ss z + 1)))) v = some (.lst ((ts.map (·.1)).map V.str)) := by rw [upd_ne nvs]; exact hv6
      have ek := setD_keys ss z (sval ss z + 1)
      generalize setD ss z (sval ss z + 1) = st at *
      generalize upd H6 s (.dK (kvI st)) = H7 at *
      have zin7 : z ∈ st.map (·.1) := by rw [ek]; exact zin
      obtain ⟨y, ey⟩ := dval_some zin7
      have val7 : valV (kvI st) (.inr z) = some (.int y) := by
        have q := val_dv (g := V.int) st z
        rw [ey] at q
        exact q
      have pop : ∀ {R : V → Hp → Prop}, R (.int y) (upd H7 s (.dK (kvI (delD st z)))) → ∃ a, V.ref s = .ref a ∧ IsD H7 a ∧ ∃ kvs k v, H7 a = some (.dK kvs) ∧ V.str z = kV k ∧ valV kvs k = some v ∧ R v (upd H7 a (.dK (dropK kvs k))) := fun r => by
        refine ⟨s, rfl, .inl ⟨_, .inl B7.sets⟩, kvI st, .inr z, _, B7.sets, rfl, val7, ?_⟩
        have e : dropK (kvI st) (.inr z) = kvI (delD st z) := drop_in (g := V.int) st z
        rw [e]
        exact r
      have ekd : (delD st z).map (·.1) = (ss.map (·.1)).filter fun y => decide (y ≠ z) := by rw [delD_keys, ek]
      refine ⟨_, rfl, rfl, _, rfl, ?_⟩
      by_cases w2 : way = 2
      · refine iteY (decide_eq_true (by rw [w2])) ?_
        refine ⟨_, rfl, ?_⟩
        obtain ⟨a, q1, q2, kvs, kk, vv, q3, q4, q5, q6⟩ := pop (R := fun _ H' => H' = upd H7 s (.dK (kvI (delD st z)))) rfl
        refine ⟨a, q1, q2, _, rfl, kvs, kk, vv, q3, q4, q5, ?_⟩
        rw [q6]
        refine ⟨_, rfl, rfl, _, rfl, iteZ (decide_eq_false (by rw [w2]; decide)) ⟨_, _, rfl, B7.setS nsb nsg, ?_, by rw [upd_ne nvs]; exact hv7⟩⟩
        rw [ekd]
        exact .del snd zin
      · refine iteZ (decide_eq_false (by intro e; injection e with e; exact w2 e)) ?_
        refine ⟨_, rfl, rfl, _, rfl, ?_⟩
        by_cases w3 : way = 3
        · refine iteY (decide_eq_true (by rw [w3])) ?_
          refine ⟨_, rfl, ?_⟩
          obtain ⟨a, q1, q2, kvs, kk, vv, q3, q4, q5, q6⟩ := pop (R := fun v H' => v = .int y ∧ H' = upd H7 s (.dK (kvI (delD st z)))) ⟨rfl, rfl⟩
          refine ⟨a, q1, q2, _, rfl, kvs, kk, vv, q3, q4, q5, ?_⟩
          rw [q6.2, q6.1]
          have nin : ("absent9999" : Str) ∉ (delD st z).map (·.1) := by rw [ekd]; exact fun m => sna (List.mem_filter.mp m).1
          have ll : (delD st z).length ≤ 24 := by
            have := congrArg List.length ek
            rw [List.length_map, List.length_map] at this
            have q := List.length_filter_le (fun p : Str × Int => decide (p.1 ≠ z)) st
            unfold delD
            omega
          refine ⟨_, rfl, s, _, rfl, DPut.k (k := .inr "absent9999") upd_same (by unfold kvI; rw [List.length_map]; exact small1000 (by omega)), ?_⟩
          have ea : putK (kvI (delD st z)) (.inr "absent9999") (.int y) = kvI (delD st z ++ [(("absent9999" : Str), y)]) := put_out (g := V.int) nin _
          rw [ea, upd_upd]
          refine ⟨_, _, rfl, B7.setS nsb nsg, ?_, by rw [upd_ne nvs]; exact hv7⟩
          rw [List.map_append, ekd]
          exact .delAdd snd zin sna
        · refine iteZ (decide_eq_false (by intro e; injection e with e; exact w3 e)) ⟨_, _, rfl, B7, ?_, hv7⟩
          rw [ek]
          exact .refl snd
    clear B3 hu3 hv3 H3
    rintro σ H3 ⟨x6, ss', rfl, B3, bs, hv3⟩
    -- the stretches
    refine ⟨fun σ H' => ∃ (x7 : Option V) (ts' : SpanL), σ = [some (.ref b), some (.ref s), some (.ref g), some (.int way), some (.ref u), some (.ref v), x6, x7] ∧ Bn K b s g H H' ss' ts' ∧ BentK (ts.map (·.1)) (ts'.map (·.1)) ∧ (way = 7 → ts' = ts), ?_, ?_⟩
    · refine ⟨_, rfl, Nat.zero_le _, fun q hq => ?_⟩
      have t4 := Same.upd_new hq (o := .lst ([] : List V))
      have B4 := B3.new t4
      have hv4 := t4 _ _ hv3
      have hq4 := upd_same (H := H3) (a := q) (o := .lst ([] : List V))
      generalize upd H3 q (.lst ([] : List V)) = H4 at *
      refine ⟨.list ((ts.map (·.1)).map PyData.str), .list (([] : List Str).map PyData.str), .lst (SqL.of hv4) (dpAll_strs _), .lst (SqL.of hq4) (dpAll_strs []), shapedP tcn, shapedP (by simp), _, rfl, ?_⟩
      rw [eqv_lists]
      by_cases z0 : ts.map (·.1) = []
      · exact iteZ (by rw [decide_eq_true z0]; rfl) ⟨_, ts, rfl, B4, .refl tnd, fun _ => rfl⟩
      refine iteY (by rw [decide_eq_false z0]; rfl) ?_
      have zp : 0 < ts.length := by
        cases ts with
        | nil => exact absurd rfl z0
        | cons _ _ => exact Nat.succ_pos _
      refine ⟨_, rfl, by show 3 ≤ sizeLine; decide, fun p hp => ?_⟩
      have t5 := Same.upd_new hp (o := .lst [.int 4, .int 5, .int 6])
      have B5 := B4.new t5
      have hv5 := t5 _ _ hv4
      have hp5 := upd_same (H := H4) (a := p) (o := .lst [.int 4, .int 5, .int 6])
      generalize upd H4 p (.lst [.int 4, .int 5, .int 6]) = H5 at *
      refine ⟨p, _, rfl, .inl (SqL.of hp5), rfl, rfl, _, rfl, ?_⟩
      refine ite2 (fun cw => ?_) (fun _ => ⟨_, ts, rfl, B5, .refl tnd, fun _ => rfl⟩)
      have w456 : way = 4 ∨ way = 5 ∨ way = 6 := by
        have q : inV (.int way) [.int 4, .int 5, .int 6] = true := cw
        simp [inV, eqV] at q
        omega
      obtain ⟨L5, hb5, ok5⟩ := B5.bag
      refine ⟨_, rfl, _, rfl, _, rfl, v, _, rfl, .inl (SqL.of hv5), b, L5, _, rfl, hb5, ok5, by rw [tkl]; omega, by rw [tkl]; omega, fun L6 i ok6 i0 i1 => ?_⟩
      rw [tkl] at i1
      have B6 := B5.drawn nsb ngb ok6
      have hv6 := (draw_same (L := L6)) _ _ nvb hv5
      generalize upd H5 b (.lst (L6.map V.int)) = H6 at *
      obtain ⟨i, rfl⟩ := Int.eq_ofNat_of_zero_le i0
      have hi : i < (ts.map (·.1)).length := by rw [List.length_map]; omega
      have zin : (ts.map (·.1))[i] ∈ ts.map (·.1) := List.getElem_mem hi
      refine ⟨v, _, (i : Int), _, rfl, rfl, SqL.of hv6, atI_nat (by rw [List.getElem?_map, List.getElem?_eq_getElem hi]; rfl), ?_⟩
      generalize (ts.map (·.1))[i] = z at *
      refine ⟨by show 2 ≤ sizeLine; decide, fun t ht => ?_⟩
      have t7 := Same.upd_new ht (o := .tup [.int 0, .int 0])
      have B7 := B6.new t7
      have ht7 := upd_same (H := H6) (a := t) (o := .tup [.int 0, .int 0])
      generalize upd H6 t (.tup [.int 0, .int 0]) = H7 at *
      refine ⟨by show 2 ≤ sizeLine; decide, fun q2 hq2 => ?_⟩
      have t8 := Same.upd_new hq2 (o := .lst [.ref t, .non])
      have B8 := B7.new t8
      have ht8 := t8 _ _ ht7
      have hq8 := upd_same (H := H7) (a := q2) (o := .lst [.ref t, .non])
      generalize upd H7 q2 (.lst [.ref t, .non]) = H8 at *
      obtain ⟨M, eM, hgM, hMV⟩ := B8.spans
      have zM : z ∈ M.map (·.1) := by rw [tsOf_keysD, eM]; exact zin
      have ml : M.length = ts.length := by rw [← eM]; unfold tsOf; rw [List.length_map]
      have fin : ∀ (vv : V) (o : Span), SpanV K H8 vv o → atI [V.ref t, .non] (way - 5) = some vv → (way ≠ 4 → ∀ H9, H9 = upd H8 g (.dK (kvS (setD M z (vv, o)))) → Bn K b s g H H9 ss' (tsOf (setD M z (vv, o))) ∧ BentK (ts.map (·.1)) ((tsOf (setD M z (vv, o))).map (·.1))) := fun vv o hv ha _ H9 e9 => by
        rw [e9]
        refine ⟨B8.setG ngb nsg hgM (hMV.set hv), ?_⟩
        rw [← tsOf_keysD, setD_keys, tsOf_keysD, eM]
        exact .refl tnd
      have putE : ∀ (vv : V) (o : Span), putK (kvS M) (.inr z) vv = kvS (setD M z (vv, o)) := fun vv o => put_in (g := fun q : V × Span => q.1) zM (vv, o)
      have kl : (kvS M).length < sizeLine := by unfold kvS; rw [List.length_map]; exact small1000 (by omega)
      rcases w456 with w4 | w56
      · refine ⟨_, rfl, _, _, rfl, rfl, q2, _, way - 5, .non, rfl, rfl, SqL.of hq8, by rw [w4]; rfl, ?_⟩
        refine ⟨_, rfl, _, rfl, g, _, rfl, DPut.k (k := .inr z) hgM kl, ?_⟩
        rw [putE .non none]
        have B9 := B8.setG ngb nsg hgM (hMV.set (k := z) (q := (.non, none)) rfl)
        have z9 : z ∈ (setD M z ((.non : V), (none : Span))).map (·.1) := by rw [setD_keys]; exact zM
        have k9 : (tsOf (setD M z ((.non : V), (none : Span)))).map (·.1) = ts.map (·.1) := by rw [← tsOf_keysD, setD_keys, tsOf_keysD, eM]
        have g9 := upd_same (H := H8) (a := g) (o := .dK (kvS (setD M z ((.non : V), (none : Span)))))
        have V9 : SpansV K (upd H8 g (.dK (kvS (setD M z ((.non : V), (none : Span)))))) (setD M z ((.non : V), (none : Span))) := fun q hq => ((hMV.set (k := z) (q := (.non, none)) rfl) q hq).updD hgM
        generalize setD M z ((.non : V), (none : Span)) = M9 at *
        generalize upd H8 g (.dK (kvS M9)) = H9 at *
        refine ⟨_, rfl, rfl, _, rfl, iteY (decide_eq_true (by rw [w4])) ?_⟩
        obtain ⟨y, ey⟩ := dval_some z9
        have val9 : valV (kvS M9) (.inr z) = some y.1 := by
          have q := val_dv (g := fun q : V × Span => q.1) M9 z
          rw [ey] at q
          exact q
        refine ⟨_, rfl, g, rfl, .inl ⟨_, .inl g9⟩, _, rfl, kvS M9, .inr z, _, g9, rfl, val9, ?_⟩
        have e : dropK (kvS M9) (.inr z) = kvS (delD M9 z) := drop_in (g := fun q : V × Span => q.1) M9 z
        rw [e]
        have B10 := B9.setG ngb nsg g9 (M := delD M9 z) fun q hq => V9 q (List.mem_filter.mp hq).1
        refine ⟨_, _, rfl, B10, ?_, fun e => by omega⟩
        rw [tsOf_del, delD_keys, k9]
        exact .del tnd zin
      · have w4 : way ≠ 4 := by omega
        obtain ⟨vv, o, hvv, ha⟩ : ∃ (vv : V) (o : Span), SpanV K H8 vv o ∧ atI [V.ref t, .non] (way - 5) = some vv := by
          rcases w56 with w5 | w6
          · exact ⟨.ref t, some (0, 0), ⟨t, rfl, SqT.of ht8⟩, by rw [w5]; rfl⟩
          · exact ⟨.non, none, rfl, by rw [w6]; rfl⟩
        refine ⟨_, rfl, _, _, rfl, rfl, q2, _, way - 5, vv, rfl, rfl, SqL.of hq8, ha, ?_⟩
        refine ⟨_, rfl, _, rfl, g, _, rfl, DPut.k (k := .inr z) hgM kl, ?_⟩
        rw [putE vv o]
        obtain ⟨f1, f2⟩ := fin vv o hvv ha w4 _ rfl
        exact ⟨_, rfl, rfl, _, rfl, iteZ (decide_eq_false (by intro e; injection e with e; exact w4 e)) ⟨_, _, rfl, f1, f2, fun e => by omega⟩⟩
    rintro σ H4 ⟨x7, ts', rfl, B4, bt, t7⟩
    refine ⟨_, rfl, rfl, _, rfl, ?_⟩
    by_cases w7 : way = 7
    · refine iteY (decide_eq_true (by rw [w7])) ?_
      have et := t7 w7
      subst et
      obtain ⟨M, eM, hgM, hMV⟩ := B4.spans
      have ml : M.length = ts'.length := by rw [← eM]; unfold tsOf; rw [List.length_map]
      have nin : ("absent9999" : Str) ∉ M.map (·.1) := by rw [tsOf_keysD, eM]; exact tna
      refine ⟨_, rfl, g, _, rfl, DPut.k (k := .inr "absent9999") hgM (by unfold kvS; rw [List.length_map]; exact small1000 (by omega)), ?_⟩
      have ea : putK (kvS M) (.inr "absent9999") .non = kvS (M ++ [(("absent9999" : Str), (V.non, (none : Span)))]) := put_out (g := fun q : V × Span => q.1) nin (.non, none)
      rw [ea]
      refine k _ ss' _ (B4.setG ngb nsg hgM fun q hq => ?_) bs ?_
      · rcases List.mem_append.mp hq with h | h
        · exact hMV q h
        · rw [List.mem_singleton.mp h]; exact rfl
      · rw [← tsOf_keysD, List.map_append, tsOf_keysD, eM]
        exact .add tnd tna
    · exact iteZ (decide_eq_false (by intro e; injection e with e; exact w7 e)) (k _ ss' ts' B4 bs bt)
end
end Dl

/-! the law -/
namespace Dl
open PySem PySem.Spec PyProof.Rows L2
structure TxtL46 (mg : Str → Option Value) : Prop where
  list : mg "list" = none
  dict : mg "dict" = none
theorem absent46 : ("absent9999" : Str).length = 10 ∧ validN "absent9999" = true ∧ ("absent8888" : Str).length = 10 ∧ validN "absent8888" = true ∧ ("absent8888" : Str) ≠ "absent9999" := by decide +kernel
theorem short46 {zs : List Str} (ok : NamesOk zs) {w : Str} (h : 6 ≤ w.length) : w ∉ zs := fun m => by
  obtain ⟨i, hi, e⟩ := List.getElem_of_mem m
  have q := (ok.at_ i w (by rw [List.getElem?_eq_getElem hi, e])).sg (by have := ok.few; omega)
  omega
theorem ascA_norm (ss : SetL) (ks : List (List Str)) : ascA ss (normK ks) = ascA ss ks := by
  unfold ascA
  rw [Bool.eq_iff_iff, List.all_eq_true, List.all_eq_true]
  exact ⟨fun h k hk => h k (mem_norm.mpr hk), fun h k hk => h k (mem_norm.mp hk)⟩
theorem holdsA_norm (ss : SetL) (ts : SpanL) (ls : List Str) (rs : List (Str × List Str)) (ks : List (List Str)) : holdsA ss ts ls rs (normK ks) = holdsA ss ts ls rs ks := by
  unfold holdsA
  rw [ascA_norm]
theorem deq_selfI {ss : SetL} (nd : (ss.map (·.1)).Nodup) : deq (pdD pdI ss) (pdD pdI ss) = true := deq_all rfl fun p hp => ⟨p.2, dval_mem nd hp, by rw [pdI_eq]; exact decide_eq_true rfl⟩
theorem deq_selfO {ts : SpanL} (nd : (ts.map (·.1)).Nodup) : deq (pdD pdO ts) (pdD pdO ts) = true := deq_all rfl fun p hp => ⟨p.2, dval_mem nd hp, by rw [pdO_eq]; exact decide_eq_true rfl⟩
theorem dk_tup {H : Hp} {a c : Addr} {xs : List V} {kvs : List (Key × V)} (h1 : H a = some (.tup xs)) (h2 : H c = some (.dK kvs)) : a ≠ c := fun e => by rw [e, h2] at h1; cases h1
theorem dk_lst {H : Hp} {a c : Addr} {xs : List V} {kvs : List (Key × V)} (h1 : H a = some (.lst xs)) (h2 : H c = some (.dK kvs)) : a ≠ c := fun e => by rw [e, h2] at h1; cases h1
/-- what stands as long as names are drawn -/
structure S46 (K : PySem.W.Frag) (b la lk st sp R : Addr) (zl zk : List Str) (ss : SetL) (ts : SpanL) (rows : List RowIn) (H : Hp) : Prop where
  bag : BagIn H b
  lamps : H la = some (.lst (zl.map V.str))
  looks : H lk = some (.lst (zk.map V.str))
  sets : SetU H st ss
  spans : SpanU K H sp ts
  rows : RowsD b zl zk H R rows
theorem SpanU.ofB {K : PySem.W.Frag} {b sp : Addr} {H H' : Hp} {ts : SpanL} (h : SpanU K H sp ts) (n : sp ≠ b) (s : SameB b H H') (hb : ∃ xs, H b = some (.lst xs)) : SpanU K H' sp ts := by
  obtain ⟨M, e1, e2, e3⟩ := h
  obtain ⟨xs, hb⟩ := hb
  exact ⟨M, e1, s _ _ n e2, e3.ofB s hb⟩
theorem S46.of {K : PySem.W.Frag} {b la lk st sp R : Addr} {zl zk : List Str} {ss : SetL} {ts : SpanL} {rows : List RowIn} {H H' : Hp} (h : S46 K b la lk st sp R zl zk ss ts rows H) (n1 : la ≠ b) (n2 : lk ≠ b) (n3 : st ≠ b) (n4 : sp ≠ b) (s : SameB b H H') (hb : BagIn H' b) : S46 K b la lk st sp R zl zk ss ts rows H' :=
  ⟨hb, s _ _ n1 h.lamps, s _ _ n2 h.looks, s _ _ n3 h.sets, h.spans.ofB n4 s h.bag.lst, h.rows.of h.bag.lst s⟩
theorem RowsD.s46 {b : Addr} {ls ks : List Str} {H : Hp} {R : Addr} {rows : List RowIn} {rs : List (Str × List Str)} (h : RowsD b ls ks H R rows) (e : rows.map RowIn.dat = rs.map rdat) : RowsS H R rs := ⟨rows, h.lst, fun r hr => (h.all r hr).g, e⟩
theorem arr_mk2 {K : PySem.W.Frag} {C : Addr} {H : Hp} {a b : Addr} {ss : SetL} {ts : SpanL} {Q : Addr → Hp → Prop} {E : XK} (ha : SetR H a ss) (hb : SpanR K H b ts) (k : ∀ H' r, Same H H' → H r = none → ArrAt K C H' r ss ts → Q r H') :
    ∀ x dx, H x = none → H dx = none → dx ≠ x → spArrInit K C (.ref x :: [.ref a, .ref b]) (upd (upd H dx (.own x)) x (.ins C dx [])) (fun v H2 => v = .non ∧ Q x H2) E := fun x dx nx ndx nex => by
  have sm : Same H (upd (upd H dx (.own x)) x (.ins C dx [])) := fun c o e => by rw [upd_ne (ne_of_none e nx), upd_ne (ne_of_none e ndx)]; exact e
  exact ⟨H, x, dx, a, b, ss, ts, rfl, sm, nx, upd_same, ha, hb, fun H' s at_ => ⟨rfl, k H' x s nx at_⟩⟩
def big46 : Int := 10 ^ Int.toNat 26
/-- the dict of dark lamps -/
def darkH (zs : List Str) : SpH := zs.map fun z => (z, V.non, (none : Span))
theorem dark_keys (zs : List Str) : (darkH zs).map (·.1) = zs := by
  unfold darkH
  rw [List.map_map]
  show zs.map (fun z => z) = zs
  exact List.map_id _
theorem dark_V (K : PySem.W.Frag) (H : Hp) (zs : List Str) : SpansV K H (darkH zs) := fun q hq => by
  unfold darkH at hq
  obtain ⟨z, _, rfl⟩ := List.mem_map.mp hq
  exact rfl
theorem not_perm8 {ks ms : List Str} (n : ("absent8888" : Str) ∉ ms) : ¬ (ks ++ [("absent8888" : Str)]).Perm ms := fun p => n (p.mem_iff.mp (by simp))
def spLaw46 (K : PySem.W.Frag) : Sp := fun vs H Q _ => ∃ (a : Addr) (ns : List Int), vs = [.ref a] ∧ SqL K H a (ns.map V.int) ∧ ns.length ≤ 63 ∧ ∀ H', Q (.bl true) H'
section
variable {P : Program} {w : World} {K : PySem.W.Frag} {mg : Str → Option Value} {base : Heap} {C : Cs} {CT CN CI CE CA : Addr}
theorem scLaw46 : FnScope ["_law_script", "_law_bag_here", "_law_lamps", "_law_looks", "_law_settings", "_law_stretches", "_law_rows", "_law_look", "_law_glowing_here", "_law_pairs_here", "_law_table", "_law_made", "_law_due", "_law_free", "_law_wider", "_law_longer", "_law_dark", "_law_lamp", "_law_pair"] ["_law_script"] (defScope sLaw) := ⟨rfl, rfl, rfl, by decide +kernel, rfl, by decide +kernel, by decide +kernel⟩
theorem ok_law46 {f : Addr} {fd : FuncData} (F : Fun K "law" "law" sLaw f fd) (T : TxtL46 mg) (gTab : mg "Table" = some (.ref CT)) (TN : NoteOps P w K mg base CN CI CE) (TA : ArrM P w K mg base CA)
    (init : ∃ fT fdT, Mk K CT fT ∧ Binds K fdT ["self", "lamps", "looks"] [] ∧ FnOk P w K mg base (L2.CX P w) 8 fT fdT ["self", "lamps", "looks"] (spTabInit2 K CT C))
    (gB : Dfn P w K mg base CX0 1 "_law_bag" ["_law_script"] (spBag K)) (gT : Dfn P w K mg base CX0 1 "_law_take" ["_law_bag_here", "_law_size"] spTake)
    (gN : Dfn P w K mg base CX0 3 "_law_names" ["_law_bag_here", "_law_count"] spNames) (gFl : Dfn P w K mg base CX0 2 "_law_flipped" ["_law_bag_here", "_law_lamps", "_law_rows"] spFlip)
    (gG : Dfn P w K mg base CX0 1 "_law_given" ["_law_rows", "_law_way"] spGiven) (gP : Dfn P w K mg base CX0 2 "_law_pairs" ["_law_bag_here", "_law_looks", "_law_count"] spPairsA)
    (gS : Dfn P w K mg base CX0 2 "_law_drawn_settings" ["_law_bag_here", "_law_looks"] spDSets) (gD : Dfn P w K mg base CX0 2 "_law_drawn_stretches" ["_law_bag_here", "_law_lamps"] (spDStrs K))
    (gGl : Dfn P w K mg base CX0 1 "_law_glowing" ["_law_lamps", "_law_stretches", "_law_setting"] (spGlowing K)) (gBe : Dfn P w K mg base CX0 2 "_law_bend" ["_law_bag_here", "_law_settings", "_law_stretches"] (spBend K))
    (gDu : Dfn P w K mg base CX0 2 "_law_due_holds" ["_law_lamps", "_law_rows", "_law_pairs_here", "_law_settings", "_law_stretches"] (spDueA K))
    (gNo : Dfn P w K mg base CX0 9 "_law_notes" ["_law_pairs_here"] (spLNotes K CN)) (gI : Dfn P w K mg base CX0 1 "_law_is" ["_law_value", "_law_due"] spIs)
    (gHo : Dfn P w K mg base CX0 3 "arrangement_holds" ["table", "notes", "arrangement"] (spArrHolds K CT CN CA)) :
    FnOk P w K mg base CX0 10 f fd ["_law_script"] (spLaw46 K) := by
  obtain ⟨fM, fdM, M, bM, GM⟩ := init
  obtain ⟨TT, fI, dI, MA, GMA, bMA⟩ := TA
  have gArr := TT.gA
  obtain ⟨fB, dB, mBag, kBag, bBag, GBag⟩ := gB
  obtain ⟨fT, dT, mTake, kTake, bTake, GTake⟩ := gT
  obtain ⟨fN, dN, mNames, kNames, bNames, GNames⟩ := gN
  obtain ⟨fFl, dFl, mFlip, kFlip, bFlip, GFlip⟩ := gFl
  obtain ⟨fG, dG, mGiven, kGiven, bGiven, GGiven⟩ := gG
  obtain ⟨fP, dP, mPairs, kPairs, bPairs, GPairs⟩ := gP
  obtain ⟨fS, dS, mDSets, kDSets, bDSets, GDSets⟩ := gS
  obtain ⟨fD, dD, mDStrs, kDStrs, bDStrs, GDStrs⟩ := gD
  obtain ⟨fGl, dGl, mGlowing, kGlowing, bGlowing, GGlowing⟩ := gGl
  obtain ⟨fBe, dBe, mBend, kBend, bBend, GBend⟩ := gBe
  obtain ⟨fDu, dDu, mDue, kDue, bDue, GDue⟩ := gDu
  obtain ⟨fNo, dNo, mNotes, kNotes, bNotes, GNotes⟩ := gNo
  obtain ⟨fIs, dIs, mIs, kIs, bIs, GIs⟩ := gI
  obtain ⟨fHo, dHo, mHolds, kHolds, bHolds, GHolds⟩ := gHo
  refine F.ok scLaw46 (fun vs H Q E h => ?_) (fun cdv A outer s H vs Q E hr h => ?_)
  · obtain ⟨a, ns, rfl, _⟩ := h
    rfl
  · obtain ⟨a0, ns, rfl, hS, hlen, k⟩ := h
    have hr9 : Room 9 _ := hr
    have hr3 : Room 3 _ := hr.mono (by decide)
    have hr2 : Room 2 _ := hr.mono (by decide)
    have hr1 : Room 1 _ := hr.mono (by decide)
    have h66 := room66 hr
    refine ⟨_, (pss_cons (ps_set (i := 1) scLaw46.nd rfl (Or.inl rfl) (pe_call GBag hr1 (by rfl) mBag kBag bBag .nil pass0 (pa_cons (pv 0) pa_nil)))
        (pss_cons (ps_set (i := 2) scLaw46.nd rfl (Or.inl rfl) (pe_call GNames hr3 (by rfl) mNames kNames bNames .nil pass0 (pa_cons (pv 1) (pa_cons (pe_call GTake hr1 (by rfl) mTake kTake bTake .nil pass0 (pa_cons (pv 1) (pa_cons pe_int pa_nil))) pa_nil))))
        (pss_cons (ps_set (i := 3) scLaw46.nd rfl (Or.inl rfl) (pe_call GNames hr3 (by rfl) mNames kNames bNames .nil pass0 (pa_cons (pv 1) (pa_cons (pe_call GTake hr1 (by rfl) mTake kTake bTake .nil pass0 (pa_cons (pv 1) (pa_cons pe_int pa_nil))) pa_nil))))
        (pss_cons (ps_set (i := 4) scLaw46.nd rfl (Or.inr rfl) (pe_call GDSets hr2 (by rfl) mDSets kDSets bDSets .nil pass0 (pa_cons (pv 1) (pa_cons (pv 3) pa_nil))))
        (pss_cons (ps_set (i := 5) scLaw46.nd rfl (Or.inl rfl) (pe_call GDStrs hr2 (by rfl) mDStrs kDStrs bDStrs .nil pass0 (pa_cons (pv 1) (pa_cons (pv 2) pa_nil))))
        (pss_cons (ps_set (i := 6) scLaw46.nd rfl (Or.inl rfl) (pe_lst pa_nil))
        (pss_cons (ps_for PassesOwn.never rfl (pi_list (pv 3)) (pg_name (i := 7) scLaw46.nd rfl (Or.inl rfl)) (pss_cons (ps_set (i := 8) scLaw46.nd rfl (Or.inr rfl) (pe_call GGlowing hr1 (by rfl) mGlowing kGlowing bGlowing .nil pass0 (pa_cons (pv 2) (pa_cons (pv 5) (pa_cons (pe_dget (hu_of hr) (pv 4) (pv 7) (fun _ _ => rfl)) pa_nil)))))
        (pss_one (ps_expr (pe_bm PySem.F.plainAttrs_list PySem.F.slot_list_append PySem.F.type_list_append mt_append (pv 6) (pa_cons (pe_tup (pa_cons (pv 7) (pa_cons (pe_lc (own := [("_law_lamp", 17)]) (g := gName 17) rfl scLaw46.nd (pi_list (pv 2)) (blkOk_by (N := ["_law_script", "_law_bag_here", "_law_lamps", "_law_looks", "_law_settings", "_law_stretches", "_law_rows", "_law_look", "_law_glowing_here", "_law_pairs_here", "_law_table", "_law_made", "_law_due", "_law_free", "_law_wider", "_law_longer", "_law_dark", "_law_lamp", "_law_pair"]) (sc := defScope sLaw) (by decide +kernel)) (fun _ _ _ _ _ => (pg_name (i := 17) scLaw46.nd rfl (Or.inl rfl))) (fun _ _ _ _ _ => (pts_one (pt_cmpR (by exact op_in_seq : OpR _ _ (rIn K false)) (pv 17) (pv 8) (by rfl)))) (fun _ _ _ _ _ => (pv 17))) pa_nil))) pa_nil))))))
        (C8.pss_cut (ps_if (pt_cmpR op_eq (pe_call GTake hr1 (by rfl) mTake kTake bTake .nil pass0 (pa_cons (pv 1) (pa_cons pe_int pa_nil))) pe_int (nomark _)) (pss_one (ps_set (i := 6) scLaw46.nd rfl (Or.inl rfl) (pe_call GFlip hr2 (by rfl) mFlip kFlip bFlip .nil pass0 (pa_cons (pv 1) (pa_cons (pv 2) (pa_cons (pv 6) pa_nil)))))) pss_nil)
        (pss_cons (ps_set (i := 9) scLaw46.nd rfl (Or.inl rfl) (pe_call GPairs hr2 (by rfl) mPairs kPairs bPairs .nil pass0 (pa_cons (pv 1) (pa_cons (pv 3) (pa_cons (pe_call GTake hr1 (by rfl) mTake kTake bTake .nil pass0 (pa_cons (pv 1) (pa_cons pe_int pa_nil))) pa_nil)))))
        (C8.pss_cut (ps_if (pt_cmpR op_eq (pe_call GTake hr1 (by rfl) mTake kTake bTake .nil pass0 (pa_cons (pv 1) (pa_cons pe_int pa_nil))) pe_int (nomark _)) (pss_one (ps_setLc (i := 9) (own := [("_law_pair", 18)]) (g := gName 18) (tt := tTest (tOp (rI0 fun i j => .bl (decide (i < j))) (tDGet (tVar 4) (tOp (rIxT K) (tVar 18) (tC (.int 0)))) (tDGet (tVar 4) (tOp (rIxT K) (tVar 18) (tC (.int 1)))))) (te := tVar 18) rfl scLaw46.nd rfl rfl (sw_true rfl rfl rfl (by decide +kernel)) (pi_list (pv 9)) (blkOk_by (N := ["_law_script", "_law_bag_here", "_law_lamps", "_law_looks", "_law_settings", "_law_stretches", "_law_rows", "_law_look", "_law_glowing_here", "_law_pairs_here", "_law_table", "_law_made", "_law_due", "_law_free", "_law_wider", "_law_longer", "_law_dark", "_law_lamp", "_law_pair"]) (sc := defScope sLaw) (by decide +kernel)) (fun _ _ _ _ _ => (pg_name (i := 18) scLaw46.nd rfl (Or.inl rfl))) (fun _ _ _ _ _ => (pts_one (pt_cmpR op_lt (pe_dget (hu_of hr) (pv 4) (pe_ix (by exact ix_tup : IxR _ (rIxT K)) (pv 18) pe_int (fun _ _ => rfl)) (fun _ _ => rfl)) (pe_dget (hu_of hr) (pv 4) (pe_ix (by exact ix_tup : IxR _ (rIxT K)) (pv 18) pe_int (fun _ _ => rfl)) (fun _ _ => rfl)) (nomark _)))) (fun _ _ _ _ _ => (pv 18)))) pss_nil)
        (C8.pss_cut (ps_if (PW.pt (pw_and (pt_cmpR (op_neD hr.units) (pv 3) (pe_lst pa_nil) (nomark _)) (pw_and1 (pt_cmpR op_eq (pe_call GTake hr1 (by rfl) mTake kTake bTake .nil pass0 (pa_cons (pv 1) (pa_cons pe_int pa_nil))) pe_int (nomark _))))) (pss_one (ps_expr (pe_bm PySem.F.plainAttrs_list PySem.F.slot_list_append PySem.F.type_list_append mt_append (pv 9) (pa_cons (pe_ix ix_list (pe_lst (pa_cons (pe_tup (pa_cons pe_str (pa_cons (pe_ix ix_list (pv 3) pe_int (fun _ _ => rfl)) pa_nil))) (pa_cons (pe_tup (pa_cons (pe_ix ix_list (pv 3) pe_int (fun _ _ => rfl)) (pa_cons pe_str pa_nil))) pa_nil))) (pe_call GTake hr1 (by rfl) mTake kTake bTake .nil pass0 (pa_cons (pv 1) (pa_cons pe_int pa_nil))) (fun _ _ => rfl)) pa_nil)))) pss_nil)
        (pss_cons (ps_expr (pe_call GBend hr2 (by rfl) mBend kBend bBend .nil pass0 (pa_cons (pv 1) (pa_cons (pv 4) (pa_cons (pv 5) pa_nil)))))
        (pss_cons (ps_set (i := 10) scLaw46.nd rfl (Or.inl rfl) (pe_make M GM hr9 (by rfl) gTab bM .nil passL (pa_cons (pe_callTy call_list_of (by rfl) T.list (by decide +kernel) (pa_cons (pv 2) pa_nil)) (pa_cons (pe_call GGiven hr1 (by rfl) mGiven kGiven bGiven .nil pass0 (pa_cons (pv 6) (pa_cons pe_int pa_nil))) pa_nil))))
        (pss_cons (ps_set (i := 11) scLaw46.nd rfl (Or.inl rfl) (pe_make MA GMA hr2 (by rfl) gArr bMA .nil pass0 (pa_cons (pv 4) (pa_cons (pv 5) pa_nil))))
        (pss_cons (ps_set (i := 12) scLaw46.nd rfl (Or.inl rfl) (pe_call GDue hr2 (by rfl) mDue kDue bDue .nil pass0 (pa_cons (pv 2) (pa_cons (pv 6) (pa_cons (pv 9) (pa_cons (pv 4) (pa_cons (pv 5) pa_nil)))))))
        (pss_cons (ps_if (pt_not (pt_val (pe_call GIs hr1 (by rfl) mIs kIs bIs .nil pass0 (pa_cons (pe_call GHolds hr3 (by rfl) mHolds kHolds bHolds .nil pass0 (pa_cons (pv 10) (pa_cons (pe_call GNotes hr9 (by rfl) mNotes kNotes bNotes .nil pass0 (pa_cons (pv 9) pa_nil)) (pa_cons (pv 11) pa_nil)))) (pa_cons (pv 12) pa_nil))))) (pss_one (ps_ret pe_bl)) pss_nil)
        (pss_cons (ps_set (i := 13) scLaw46.nd rfl (Or.inl rfl) (pe_call GDue hr2 (by rfl) mDue kDue bDue .nil pass0 (pa_cons (pv 2) (pa_cons (pv 6) (pa_cons (pe_lst pa_nil) (pa_cons (pv 4) (pa_cons (pv 5) pa_nil)))))))
        (pss_cons (ps_if (PW.pt (pw_or (pt_not (pt_val (pe_call GIs hr1 (by rfl) mIs kIs bIs .nil pass0 (pa_cons (pe_call GHolds hr3 (by rfl) mHolds kHolds bHolds .nil pass0 (pa_cons (pv 10) (pa_cons pe_non (pa_cons (pv 11) pa_nil)))) (pa_cons (pv 13) pa_nil))))) (pw_or1 (pt_cmpR (op_neDD h66) (pe_fld (pv 11) rfl) (pv 4) (nomark _))))) (pss_one (ps_ret pe_bl)) pss_nil)
        (pss_cons (ps_set (i := 14) scLaw46.nd rfl (Or.inl rfl) (pe_callTy call_dictD (by rfl) T.dict (by decide +kernel) (pa_cons (pv 4) pa_nil)))
        (pss_cons (ps_dput (hu_of hr) (pv 14) pe_str pe_int rfl)
        (pss_cons (ps_set (i := 15) scLaw46.nd rfl (Or.inl rfl) (pe_callTy call_dictD (by rfl) T.dict (by decide +kernel) (pa_cons (pv 5) pa_nil)))
        (pss_cons (ps_dput (hu_of hr) (pv 15) pe_str (pe_tup (pa_cons (pe_op op_pow pe_int pe_int) (pa_cons (pe_op op_pow pe_int pe_int) pa_nil))) rfl)
        (pss_cons (ps_set (i := 16) scLaw46.nd rfl (Or.inl rfl) pe_dnewK)
        (pss_cons (ps_for PassesOwn.never rfl (pi_list (pv 2)) (pg_name (i := 17) scLaw46.nd rfl (Or.inl rfl)) (pss_one (ps_dput (hu_of hr) (pv 16) (pv 17) pe_non rfl)))
        (pss_cons (ps_if (pt_not (pt_val (pe_call GIs hr1 (by rfl) mIs kIs bIs .nil pass0 (pa_cons (pe_call GHolds hr3 (by rfl) mHolds kHolds bHolds .nil pass0 (pa_cons (pv 10) (pa_cons pe_non (pa_cons (pe_make MA GMA hr2 (by rfl) gArr bMA .nil pass0 (pa_cons (pv 14) (pa_cons (pv 5) pa_nil))) pa_nil)))) (pa_cons pe_bl pa_nil))))) (pss_one (ps_ret pe_bl)) pss_nil)
        (pss_cons (ps_if (pt_not (pt_val (pe_call GIs hr1 (by rfl) mIs kIs bIs .nil pass0 (pa_cons (pe_call GHolds hr3 (by rfl) mHolds kHolds bHolds .nil pass0 (pa_cons (pv 10) (pa_cons pe_non (pa_cons (pe_make MA GMA hr2 (by rfl) gArr bMA .nil pass0 (pa_cons (pv 4) (pa_cons (pv 15) pa_nil))) pa_nil)))) (pa_cons pe_bl pa_nil))))) (pss_one (ps_ret pe_bl)) pss_nil)
        (pss_cons (ps_set (i := 12) scLaw46.nd rfl (Or.inl rfl) (pe_call GDue hr2 (by rfl) mDue kDue bDue .nil pass0 (pa_cons (pv 2) (pa_cons (pv 6) (pa_cons (pe_lst pa_nil) (pa_cons (pv 4) (pa_cons (pv 16) pa_nil)))))))
        (pss_cons (ps_if (pt_not (pt_val (pe_call GIs hr1 (by rfl) mIs kIs bIs .nil pass0 (pa_cons (pe_call GHolds hr3 (by rfl) mHolds kHolds bHolds .nil pass0 (pa_cons (pv 10) (pa_cons pe_non (pa_cons (pe_make MA GMA hr2 (by rfl) gArr bMA .nil pass0 (pa_cons (pv 4) (pa_cons (pv 16) pa_nil))) pa_nil)))) (pa_cons (pv 12) pa_nil))))) (pss_one (ps_ret pe_bl)) pss_nil)
        (pss_one (ps_ret (pe_and (pe_call GIs hr1 (by rfl) mIs kIs bIs .nil pass0 (pa_cons (pe_call GHolds hr3 (by rfl) mHolds kHolds bHolds .nil pass0 (pa_cons (pv 10) (pa_cons pe_non (pa_cons (pv 11) pa_nil)))) (pa_cons (pv 13) pa_nil))) (pe_one (pe_cmpR (op_eqDD h66) (pe_fld (pv 11) rfl) (pv 5) (nomark _)))))))))))))))))))))))))))))))))), ?_⟩
    refine ⟨_, rfl, a0, ns, rfl, hS, hlen, fun H1 b L s1 hb0 hL hok => ?_⟩
    refine ⟨_, rfl, _, rfl, b, L, 5, rfl, hL, hok, by decide, by decide, fun L1 n ok1 n0 n1 => ⟨b, L1, n, rfl, upd_same, ok1, by omega, by omega, fun H2 la L2 zl s2 hla0 hla hb2 ok2 okl hzl => ?_⟩⟩
    have nlb : la ≠ b := fun e => by rw [e, upd_same] at hla0; cases hla0
    refine ⟨_, rfl, _, rfl, b, L2, 6, rfl, hb2, ok2, by decide, by decide, fun L3 n' ok3 n0' n1' => ⟨b, L3, n', rfl, upd_same, ok3, by omega, by omega, fun H4 lk L4 zk s4 hlk0 hlk hb4 ok4 okk hzk => ?_⟩⟩
    have nkb : lk ≠ b := fun e => by rw [e, upd_same] at hlk0; cases hlk0
    have hla4 : H4 la = some (.lst (zl.map V.str)) := s4 _ _ nlb (by rw [upd_ne nlb]; exact hla)
    have fl : zl.length ≤ 4 := by omega
    have fk : zk.length ≤ 5 := by omega
    clear hL hok s1 s2 ok1 hla0 n0 n1 hzl hzk s4 hlk0 n0' n1' hb0 hS hla hb2 ok2 ok3
    refine ⟨_, rfl, _, rfl, b, lk, L4, zk, rfl, hb4, ok4, hlk, nkb, okk.nd, by omega, fun H5 st L5 ss s5 hst0 hb5 ok5 hst ks => ?_⟩
    have hla5 := s5 _ _ nlb hla4
    have hlk5 := s5 _ _ nkb hlk
    have nsb : st ≠ b := fun e => by rw [e, hb4] at hst0; cases hst0
    clear hb4 s5 hla4 hlk hst0 ok4
    refine ⟨_, rfl, _, rfl, b, la, L5, zl, rfl, hb5, ok5, hla5, nlb, okl.nd, by omega, fun H6 sp L6 ts s6 hsp0 hb6 ok6 hsp kt => ?_⟩
    have hla6 := s6 _ _ nlb hla5
    have hlk6 := s6 _ _ nkb hlk5
    have hst6 : SetU H6 st ss := s6 _ _ nsb hst
    have npb : sp ≠ b := fun e => by rw [e, hb5] at hsp0; cases hsp0
    have nsp : st ≠ sp := fun e => by unfold SetU at hst; rw [← e, hst] at hsp0; cases hsp0
    have ssl : ss.length = zk.length := by rw [← ks, List.length_map]
    have tsl : ts.length = zl.length := by rw [← kt, List.length_map]
    clear hb5 s6 hla5 hlk5 hst hsp0 ok5 L L1 L2 L3 L4 L5 H1 H2 H4 H5
    -- the rows
    refine ⟨Nat.zero_le _, fun R hR => ?_⟩
    have nRb : R ≠ b := fun e => by rw [e, hb6] at hR; cases hR
    have s7 := Same.upd_new hR (o := .lst ([] : List V))
    refine ⟨_, rfl, lk, rfl, ⟨_, SqL.of (s7 _ _ hlk6)⟩, for_it (walk_list (K := K) (a := lk) (xs := zk.map V.str)) (fun i σ H' => ∃ (x7 x8 : Option V) (rows : List RowIn),
        σ = [some (.ref a0), some (.ref b), some (.ref la), some (.ref lk), some (.ref st), some (.ref sp), some (.ref R), x7, x8, none, none, none, none, none, none, none, none, none, none] ∧
        Same H6 H' ∧ H' R = some (.lst (refsOf rows)) ∧ (∀ r ∈ rows, RowD b zl H' r ∧ r.s ≠ R) ∧ rows.map (·.look) = (zk.take i).map V.str)
      ⟨none, none, [], rfl, s7, upd_same, fun r hr => absurd hr (by simp), rfl⟩ (fun i σ H' _ ⟨_, _, _, _, s, _⟩ => SqL.of (s _ _ hlk6)) ?_ ?_⟩
    · rintro i v σ H7 H8 hi ⟨x7, x8, rows, rfl, s8, hR8, hrs, hlkm⟩ ⟨rfl, hv⟩
      obtain ⟨z, hz, hzm, rfl⟩ := st_atP hv
      have zin : z ∈ ss.map (·.1) := by rw [ks]; exact hzm
      have hst8 : SetR _ st ss := .inl (s8 _ _ hst6)
      refine ⟨_, rfl, _, rfl, _, rfl, _, rfl, st, _, rfl, hst8.at_ zin, la, sp, zl, ts, _, rfl, s8 _ _ hla6, hsp.of s8, kt.symm, by rw [kt]; exact okl.nd, by omega, fun H9 gh ys s9 hgh ysd yp => ?_⟩
      have s19 := s8.trans s9
      have hR9 := s9 _ _ hR8
      refine ⟨_, rfl, .inl ⟨rfl, _, SqL.of hR9⟩, _, rfl, _, rfl, la, rfl, ⟨_, SqL.of (s19 _ _ hla6)⟩, fun D hD => lc_it (walk_list (K := K) (a := la) (xs := zl.map V.str)) (fun j H' => ∃ sh : List Str, H' = upd H9 D (.lst (sh.map V.str)) ∧ sh.Sublist (zl.take j)) ⟨[], rfl, List.nil_sublist _⟩ (fun j H' _ ⟨sh, e, _⟩ => SqL.of (by rw [e]; exact Same.upd_new hD _ _ (s19 _ _ hla6))) ?_ ?_⟩
      · rintro j y H10 H11 hj ⟨sh, rfl, hsub⟩ ⟨rfl, hy⟩
        obtain ⟨l, hl, _, rfl⟩ := st_atP hy
        have s10 : Same H9 (upd H9 D (.lst (sh.map V.str))) := Same.upd_new hD
        have hshl : sh.length ≤ 24 := Nat.le_trans hsub.length_le (by rw [List.length_take]; omega)
        refine ⟨rfl, _, rfl, _, rfl, gh, _, rfl, .inr (Same.tup s10 hgh), rfl, flat_strs ys, _, rfl, ?_⟩
        refine ite2 (fun _ => ?_) (fun _ => ?_)
        · refine ⟨_, rfl, _, upd_same, by rw [List.length_map]; exact small1000 (by omega), sh ++ [l], by rw [upd_upd, List.map_append]; rfl, ?_⟩
          rw [take_next hl]
          exact hsub.append (List.Sublist.refl _)
        · refine ⟨sh, rfl, ?_⟩
          rw [take_next hl]
          exact hsub.trans (List.sublist_append_left _ _)
      · rintro H10 ⟨sh, rfl, hsub⟩
        have hsub' : sh.Sublist zl := hsub.trans (List.take_sublist _ _)
        have s10 : Same H9 (upd H9 D (.lst (sh.map V.str))) := Same.upd_new hD
        have nRD : R ≠ D := ne_of_none hR9 hD
        have nDb : D ≠ b := fun e => by rw [e, s19 _ _ hb6] at hD; cases hD
        refine ⟨by show 2 ≤ sizeLine; decide, fun t ht => ?_⟩
        have s11 : Same (upd H9 D (.lst (sh.map V.str))) (upd (upd H9 D (.lst (sh.map V.str))) t (.tup [.str z, .ref D])) := Same.upd_new ht
        have ntR : R ≠ t := ne_of_none (s10 _ _ hR9) ht
        have hrl : rows.length ≤ 24 := by
          have q := congrArg List.length hlkm
          rw [List.length_map, List.length_map, List.length_take] at q
          omega
        refine ⟨R, _, _, rfl, rfl, s11 _ _ (s10 _ _ hR9), ?_, ?_⟩
        · unfold refsOf
          rw [List.length_map]
          exact small1000 (by omega)
        · have keepR : ∀ {d : Addr} {o : HO}, d ≠ R → upd (upd H9 D (.lst (sh.map V.str))) t (.tup [.str z, .ref D]) d = some o → upd (upd (upd H9 D (.lst (sh.map V.str))) t (.tup [.str z, .ref D])) R (.lst (refsOf rows ++ [.ref t])) d = some o := fun n h => by
            rw [upd_ne n]; exact h
          refine ⟨_, _, rows ++ [⟨t, .str z, D, sh.map V.str⟩], rfl, fun d o h => ?_, ?_, fun r hr => ?_, ?_⟩
          · exact keepR (ne_of_none h hR) (s11 _ _ (s10 _ _ (s19 _ _ h)))
          · rw [upd_same]
            unfold refsOf
            rw [List.map_append]
            rfl
          · rcases List.mem_append.mp hr with h | h
            · obtain ⟨Dr, nsR⟩ := hrs r h
              have s67 := s9.trans (s10.trans s11)
              exact ⟨⟨Dr.look, keepR (ne_tup_lst Dr.pair hR8) (s67 _ _ Dr.pair), Dr.ns, keepR nsR (s67 _ _ Dr.lst), Dr.sub⟩, nsR⟩
            · obtain rfl := List.mem_singleton.mp h
              exact ⟨⟨⟨z, rfl⟩, keepR ntR.symm upd_same, nDb, keepR nRD.symm (s11 _ _ upd_same), ⟨sh, rfl, hsub'⟩⟩, nRD.symm⟩
          · rw [List.map_append, hlkm, take_next hz, List.map_append]
            rfl
    rintro σ H7 ⟨x7, x8, rows, rfl, s8, hR8, hrs, hlkm⟩
    rw [List.length_map, List.take_length] at hlkm
    have h7 : S46 K b la lk st sp R zl zk ss ts rows H7 := ⟨⟨L6, s8 _ _ hb6, ok6⟩, s8 _ _ hla6, s8 _ _ hlk6, s8 _ _ hst6, hsp.of s8, ⟨nRb, hR8, fun r hr => (hrs r hr).1, hlkm⟩⟩
    clear hb6 ok6 hla6 hlk6 hst6 hsp s7 hR s8 hR8 hrs hlkm L6 H6 nRb
    -- flipped
    refine ⟨fun σ H' => ∃ (R : Addr) (rows : List RowIn), σ = [some (.ref a0), some (.ref b), some (.ref la), some (.ref lk), some (.ref st), some (.ref sp), some (.ref R), x7, x8, none, none, none, none, none, none, none, none, none, none] ∧ S46 K b la lk st sp R zl zk ss ts rows H', ?_, ?_⟩
    · obtain ⟨L7, hb7, ok7⟩ := h7.bag
      refine ⟨_, rfl, b, L7, 4, rfl, hb7, ok7, by decide, by decide, fun L8 q ok8 q0 q1 => ⟨rfl, _, rfl, ?_⟩⟩
      have h8 := h7.of nlb nkb nsb npb (draw_same (L := L8)) (.upd ok8)
      generalize upd H7 b (.lst (L8.map V.int)) = H8 at *
      refine ite2 (fun _ => ?_) (fun _ => ⟨R, rows, rfl, h8⟩)
      exact ⟨_, rfl, _, rfl, _, rfl, b, la, R, zl, zk, rows, rfl, h8.bag, nlb, h8.lamps, h8.rows, okl.bag, okk.bag, by omega, by omega, fun H9 R' rows' s9 hb9 hR9 => ⟨R', rows', rfl, hb9, s9 _ _ nlb h8.lamps, s9 _ _ nkb h8.looks, s9 _ _ nsb h8.sets, h8.spans.ofB npb s9 h8.bag.lst, hR9⟩⟩
    clear h7 H7 R rows
    rintro σ H7 ⟨R, rows, rfl, h7⟩
    obtain ⟨rs, hdat, hks, hsub⟩ := rows_rs' h7.rows.all h7.rows.looks
    have ok : TabOk zl rs := tabok_of okl okk hks hsub
    -- pairs
    obtain ⟨L8, hb8, ok8⟩ := h7.bag
    refine ⟨_, rfl, _, rfl, _, rfl, b, L8, 4, rfl, hb8, ok8, by decide, by decide, fun L9 n ok9 n0 n1 => ?_⟩
    have h8 := h7.of nlb nkb nsb npb (draw_same (L := L9)) (.upd ok9)
    have hb9 := upd_same (H := H7) (a := b) (o := .lst (L9.map V.int))
    generalize upd H7 b (.lst (L9.map V.int)) = H8 at *
    refine ⟨b, lk, L9, zk, n, rfl, hb9, ok9, h8.looks, nkb, okk, n0, by omega, fun H9 p L10 M9 s9 np npb' hb10 ok10 hM inM few fewn => ?_⟩
    clear h7 hb8 ok8 L8 hb9 ok9 H7
    have h9 : H8 p = none := np
    refine ⟨fun σ H' => ∃ (p : Addr) (M : Keyed), σ = [some (.ref a0), some (.ref b), some (.ref la), some (.ref lk), some (.ref st), some (.ref sp), some (.ref R), x7, x8, some (.ref p), none, none, none, none, none, none, none, none, none] ∧ SameB b H8 H' ∧ BagIn H' b ∧ H8 p = none ∧ p ≠ b ∧ PairsAt H' p M ∧ M.length ≤ 3 ∧ (∀ k ∈ M.map (·.2), k0 k ∈ zk ∧ k1 k ∈ zk), ?_, ?_⟩
    · refine ⟨_, rfl, b, L10, 2, rfl, hb10, ok10, by decide, by decide, fun L11 q ok11 q0 q1 => ⟨rfl, _, rfl, ?_⟩⟩
      have s10 := s9.trans (draw_same (L := L11))
      have hM10 := hM.ofB (draw_same (L := L11)) npb' ⟨_, hb10⟩
      have hb11 : BagIn (upd H9 b (.lst (L11.map V.int))) b := .upd ok11
      generalize upd H9 b (.lst (L11.map V.int)) = H10 at *
      refine ite2 (fun _ => ?_) (fun _ => ?_)
      · refine ⟨_, rfl, p, rfl, ⟨_, SqL.of hM10.lst⟩, fun D hD => lc_it (walk_list (K := K) (a := p) (xs := M9.map fun q => V.ref q.1)) (fun i H' => ∃ M : Keyed, Same H10 H' ∧ H' D = some (.lst (M.map fun q => V.ref q.1)) ∧ M.Sublist (M9.take i)) ⟨[], Same.upd_new hD, upd_same, List.nil_sublist _⟩ (fun i H' _ ⟨_, s, _⟩ => SqL.of (s _ _ hM10.lst)) ?_ ?_⟩
        · rintro i v H11 H12 hi ⟨M, s11, hD11, sub⟩ ⟨rfl, hv⟩
          obtain ⟨z, hz, hzm, rfl⟩ := kf_at hv
          have gz : GoodP z.2 := hM10.good _ (List.mem_map_of_mem hzm)
          have hzt := s11 _ _ (hM10.tup z hzm)
          rw [gz.eq.1] at hzt
          have hst : SetR _ st ss := .inl (s11 _ _ (s10 _ _ nsb h8.sets))
          obtain ⟨m0, m1⟩ := inM z.2 (List.mem_map_of_mem hzm)
          rw [← ks] at m0 m1
          have ml : M.length ≤ 4 := Nat.le_trans sub.length_le (by rw [List.length_take]; omega)
          refine ⟨rfl, _, rfl, _, rfl, z.1, _, 0, _, rfl, rfl, SqT.of hzt, rfl, st, _, rfl, hst.at_ m0, _, rfl, _, rfl, z.1, _, 1, _, rfl, rfl, SqT.of hzt, rfl, st, _, rfl, hst.at_ m1, ?_⟩
          refine ⟨_, _, rfl, rfl, _, rfl, ?_⟩
          rw [take_next hz]
          refine ite2 (fun _ => ?_) (fun _ => ?_)
          · refine ⟨_, rfl, _, hD11, by rw [List.length_map]; exact small1000 (by omega), M ++ [z], fun d o e => ?_, by rw [upd_same, List.map_append]; rfl, sub.append (List.Sublist.refl _)⟩
            rw [upd_ne (ne_of_none e hD)]
            exact s11 _ _ e
          · exact ⟨M, s11, hD11, sub.trans (List.sublist_append_left _ _)⟩
        · rintro H11 ⟨M, s11, hD11, sub⟩
          rw [List.length_map, List.take_length] at sub
          have nDb : D ≠ b := fun e => by obtain ⟨x, hx⟩ := hb11.lst; rw [e, hx] at hD; cases hD
          have hD8 : H8 D = none := by
            cases e : H8 D with
            | none => rfl
            | some o => rw [s10 _ _ nDb e] at hD; cases hD
          have inD : ∀ k ∈ M.map (·.2), k ∈ M9.map (·.2) := fun k hk => (sub.map _).subset hk
          exact ⟨D, M, rfl, s10.trans (SameB.of s11), hb11.of s11, hD8, nDb, ⟨hD11, fun q hq => s11 _ _ (hM10.tup q (sub.subset hq)), fun k hk => hM10.good k (inD k hk)⟩, Nat.le_trans sub.length_le (by omega), fun k hk => inM k (inD k hk)⟩
      · exact ⟨p, M9, rfl, s10, hb11, h9, npb', hM10, by omega, inM⟩
    clear s9 np npb' hb10 ok10 hM inM few fewn h9 p M9 H9 L10 n n0 n1
    rintro σ H9 ⟨p, M, rfl, s9, hb9, hp8, npb', hM, few, inM⟩
    -- a note with an unknown look
    refine ⟨fun σ H' => ∃ M : Keyed, σ = [some (.ref a0), some (.ref b), some (.ref la), some (.ref lk), some (.ref st), some (.ref sp), some (.ref R), x7, x8, some (.ref p), none, none, none, none, none, none, none, none, none] ∧ SameB b H8 H' ∧ BagIn H' b ∧ PairsAt H' p M ∧ M.length ≤ 4, ?_, ?_⟩
    · refine ⟨_, rfl, Nat.zero_le _, fun q hq => ?_⟩
      have t13 := Same.upd_new hq (o := .lst ([] : List V))
      have q13 := upd_same (H := H9) (a := q) (o := .lst ([] : List V))
      have M13 := hM.of t13
      have s13 := s9.trans (SameB.of t13)
      have b13 := hb9.of t13
      have h13 := h8.of nlb nkb nsb npb s13 b13
      generalize upd H9 q (.lst ([] : List V)) = H13 at *
      refine ⟨.list (zk.map PyData.str), .list (([] : List Str).map PyData.str), .lst (SqL.of h13.looks) (dpAll_strs _), .lst (SqL.of q13) (dpAll_strs []), shaped_strs okk.bag, shaped_strs (by simp), _, rfl, ?_⟩
      by_cases hz0 : zk = []
      · exact iteZ (by rw [eqv_lists, decide_eq_true hz0]; rfl) ⟨M, rfl, s13, b13, M13, by omega⟩
      · refine iteY (by rw [eqv_lists, decide_eq_false hz0]; rfl) ?_
        obtain ⟨L13, hb13, ok13⟩ := b13
        refine ⟨_, rfl, b, L13, 8, rfl, hb13, ok13, by decide, by decide, fun L14 w ok14 w0' w1' => ⟨rfl, _, rfl, ?_⟩⟩
        have s14 := s13.trans (draw_same (L := L14))
        have M14 := M13.ofB (draw_same (L := L14)) npb' ⟨_, hb13⟩
        have b14 := upd_same (H := H13) (a := b) (o := .lst (L14.map V.int))
        generalize upd H13 b (.lst (L14.map V.int)) = H14 at *
        refine ite2 (fun _ => ?_) (fun _ => ⟨M, rfl, s14, ⟨L14, b14, ok14⟩, M14, by omega⟩)
        obtain ⟨z, zs, ez⟩ : ∃ z zs, zk = z :: zs := by
          cases zk with
          | nil => exact absurd rfl hz0
          | cons z zs => exact ⟨z, zs, rfl⟩
        have ho14 := s14 _ _ nkb h8.looks
        have zin : z ∈ zk := by rw [ez]; exact List.mem_cons_self ..
        have zne : z ≠ "absent9999" := fun e => short46 okk (w := "absent9999") (by rw [absent46.1]; decide) (e ▸ zin)
        have at0 : atI (zk.map V.str) 0 = some (.str z) := by rw [ez]; exact atI_nat (j := 0) rfl
        refine ⟨_, rfl, .inl ⟨rfl, _, SqL.of M14.lst⟩, _, rfl, lk, _, 0, _, rfl, rfl, SqL.of ho14, at0, by show 2 ≤ sizeLine; decide, fun t1 ht1 => ?_⟩
        have v1 := Same.upd_new ht1 (o := .tup [.str "absent9999", .str z])
        have y1 := upd_same (H := H14) (a := t1) (o := .tup [.str "absent9999", .str z])
        have w1 := v1 _ _ ho14
        refine ⟨_, rfl, lk, _, 0, _, rfl, rfl, SqL.of w1, at0, by show 2 ≤ sizeLine; decide, fun t2 ht2 => ?_⟩
        have v2 := Same.upd_new ht2 (o := .tup [.str z, .str "absent9999"])
        have y2 := upd_same (H := upd H14 t1 (.tup [.str "absent9999", .str z])) (a := t2) (o := .tup [.str z, .str "absent9999"])
        refine ⟨by show 2 ≤ sizeLine; decide, fun g hg => ?_⟩
        have v3 := Same.upd_new hg (o := .lst [.ref t1, .ref t2])
        have y3 := upd_same (H := upd (upd H14 t1 (.tup [.str "absent9999", .str z])) t2 (.tup [.str z, .str "absent9999"])) (a := g) (o := .lst [.ref t1, .ref t2])
        have v := v1.trans (v2.trans v3)
        have y1 := v3 _ _ (v2 _ _ y1)
        have y2 := v3 _ _ y2
        have ngb : g ≠ b := (ne_of_none (v2 _ _ (v1 _ _ b14)) hg).symm
        have b15 := v _ _ b14
        have M15 := M14.of v
        have s15 := s14.trans (SameB.of v)
        generalize upd (upd (upd H14 t1 (.tup [.str "absent9999", .str z])) t2 (.tup [.str z, .str "absent9999"])) g (.lst [.ref t1, .ref t2]) = H15 at *
        refine ⟨_, rfl, b, L14, 2, rfl, b15, ok14, by decide, by decide, fun L16 d ok16 d0 d1 => ?_⟩
        have s16 := s15.trans (draw_same (L := L16))
        have M16 := M15.ofB (draw_same (L := L16)) npb' ⟨_, b15⟩
        have b16 := upd_same (H := H15) (a := b) (o := .lst (L16.map V.int))
        have y3 := draw_same (L := L16) _ _ ngb y3
        have y1 := draw_same (L := L16) _ _ (ne_tup_lst y1 b15) y1
        have y2 := draw_same (L := L16) _ _ (ne_tup_lst y2 b15) y2
        generalize upd H15 b (.lst (L16.map V.int)) = H16 at *
        have fin2 : ∀ (t : Addr) (kk : List Str), H16 t = some (.tup (kk.map V.str)) → GoodP kk → ∃ M' : Keyed, ([some (V.ref a0), some (.ref b), some (.ref la), some (.ref lk), some (.ref st), some (.ref sp), some (.ref R), x7, x8, some (.ref p), none, none, none, none, none, none, none, none, none] : List (Option V)) = [some (V.ref a0), some (.ref b), some (.ref la), some (.ref lk), some (.ref st), some (.ref sp), some (.ref R), x7, x8, some (.ref p), none, none, none, none, none, none, none, none, none] ∧ SameB b H8 (upd H16 p (.lst ((M.map fun q => V.ref q.1) ++ [.ref t]))) ∧ BagIn (upd H16 p (.lst ((M.map fun q => V.ref q.1) ++ [.ref t]))) b ∧ PairsAt (upd H16 p (.lst ((M.map fun q => V.ref q.1) ++ [.ref t]))) p M' ∧ M'.length ≤ 4 := fun t kk ht gk => by
          have keep : ∀ {d : Addr} {o : HO}, d ≠ p → H16 d = some o → upd H16 p (.lst ((M.map fun q => V.ref q.1) ++ [.ref t])) d = some o := fun n h => by rw [upd_ne n]; exact h
          refine ⟨M ++ [(t, kk)], rfl, fun d o n h => keep (ne_of_none h hp8) (s16 _ _ n h), ⟨L16, keep npb'.symm b16, ok16⟩, ⟨by rw [upd_same, List.map_append]; rfl, fun q hq => ?_, fun q hq => ?_⟩, by rw [List.length_append, List.length_singleton]; omega⟩
          · rcases List.mem_append.mp hq with h | h
            · have x := M16.tup q h
              exact keep (ne_tup_lst x M16.lst) x
            · obtain rfl := List.mem_singleton.mp h
              exact keep (ne_tup_lst ht M16.lst) ht
          · rw [List.map_append] at hq
            rcases List.mem_append.mp hq with h | h
            · exact M16.good q h
            · obtain rfl := List.mem_singleton.mp h
              exact gk
        have gA : GoodP ["absent9999", z] := ⟨_, _, rfl, absent46.2.1, okk.valid zin, fun e => zne e.symm⟩
        have gB : GoodP [z, "absent9999"] := ⟨_, _, rfl, okk.valid zin, absent46.2.1, zne⟩
        have d01 : d = 0 ∨ d = 1 := by omega
        rcases d01 with rfl | rfl
        · exact ⟨g, _, 0, _, rfl, rfl, SqL.of y3, rfl, p, _, _, rfl, rfl, M16.lst, by rw [List.length_map]; exact small1000 (by omega), fin2 t1 ["absent9999", z] y1 gA⟩
        · exact ⟨g, _, 1, _, rfl, rfl, SqL.of y3, rfl, p, _, _, rfl, rfl, M16.lst, by rw [List.length_map]; exact small1000 (by omega), fin2 t2 [z, "absent9999"] y2 gB⟩
    clear few inM hM s9 hb9 M H9
    rintro σ H9 ⟨M, rfl, s9, hb9, hM, few⟩
    have h9 := h8.of nlb nkb nsb npb s9 hb9
    clear h8 s9 hb9 hp8 H8
    -- bent
    have snd : (ss.map (·.1)).Nodup := by rw [ks]; exact okk.nd
    have tnd : (ts.map (·.1)).Nodup := by rw [kt]; exact okl.nd
    have a9k : ("absent9999" : Str) ∉ zk := short46 okk (by rw [absent46.1]; decide)
    have a9l : ("absent9999" : Str) ∉ zl := short46 okl (by rw [absent46.1]; decide)
    refine ⟨_, rfl, _, rfl, _, rfl, b, st, sp, ss, ts, rfl, h9.bag, h9.sets, h9.spans, nsb, npb, nsp, snd, tnd, fun q hq => ?_, fun q hq => ?_, by rw [ks]; exact a9k, by rw [kt]; exact a9l, by omega, by omega, fun H10 ss' ts' B bs bt => ?_⟩
    · exact okk.bag _ (by rw [← ks]; exact List.mem_map_of_mem hq)
    · exact okl.bag _ (by rw [← kt]; exact List.mem_map_of_mem hq)
    rw [ks] at bs
    rw [kt] at bt
    obtain ⟨Lb, hbb, _⟩ := h9.bag
    obtain ⟨Mx, _, hspx, _⟩ := h9.spans
    have hstx : H9 st = some (.dK (kvI ss)) := h9.sets
    have keepL : ∀ {d : Addr} {xs : List V}, d ≠ b → H9 d = some (.lst xs) → H10 d = some (.lst xs) := fun n h => B.keep _ _ n (dk_lst h hstx) (dk_lst h hspx) h
    have keepT : ∀ {d : Addr} {xs : List V}, H9 d = some (.tup xs) → H10 d = some (.tup xs) := fun h => B.keep _ _ (ne_tup_lst h hbb) (dk_tup h hstx) (dk_tup h hspx) h
    have lam := keepL nlb h9.lamps
    have lok := keepL nkb h9.looks
    have prs : PairsAt H10 p M := ⟨keepL npb' hM.lst, fun q hq => keepT (hM.tup q hq), hM.good⟩
    have rwg : ∀ r ∈ rows, RowG H10 r := fun r hr => ⟨keepT (h9.rows.all r hr).pair, keepL (h9.rows.all r hr).ns (h9.rows.all r hr).lst⟩
    have rwl := keepL h9.rows.nR h9.rows.lst
    have rwS : RowsS H10 R rs := ⟨rows, rwl, rwg, hdat⟩
    have sts := B.sets
    have sps := B.spans
    clear keepL keepT h9 hM B hbb hspx hstx
    have sl' : ss'.length ≤ 6 := by have := bs.len; rw [List.length_map] at this; omega
    have tl' : ts'.length ≤ 5 := by have := bt.len; rw [List.length_map] at this; omega
    have scan : ∀ q ∈ ss', canS q.1 := fun q hq => by
      rcases bs.inn q.1 (List.mem_map_of_mem hq) with h | h
      · exact okk.bag _ h
      · rw [h]; exact valid_can absent46.2.1
    have tcan : ∀ q ∈ ts', canS q.1 := fun q hq => by
      rcases bt.inn q.1 (List.mem_map_of_mem hq) with h | h
      · exact okl.bag _ h
      · rw [h]; exact valid_can absent46.2.1
    clear snd tnd a9k a9l
    have a8k : ("absent8888" : Str) ∉ zk := short46 okk (by rw [absent46.2.2.1]; decide)
    have a8l : ("absent8888" : Str) ∉ zl := short46 okl (by rw [absent46.2.2.1]; decide)
    -- the table
    refine ⟨_, rfl, la, _, rfl, .inl (SqL.of lam), fun l hl0 => ?_⟩
    have s14 := Same.upd_new hl0 (o := .lst (zl.map V.str))
    have hrl : rows.length = rs.length := by
      have e := congrArg List.length hdat
      rw [List.length_map, List.length_map] at e
      exact e
    have kfew := ok.kfew
    refine ⟨_, rfl, R, 0, rows, rfl, .inl rfl, s14 _ _ rwl, fun r hr => (rwg r hr).of s14, by omega, fun H15 R' rows' s15 _ hR' hrw' hdat' => ?_⟩
    refine fun x dx nx ndx nex => make_ok (ts := rs.map (turnOf 0)) nx ndx nex (s15 _ _ upd_same) hR' (fun r hr => (hrw' r hr).1) (by rw [hdat', turned_map hdat]) (turn_mem ok 0) (init_turn ok 0) (fun z h => okl.valid h) (by omega) (by rw [List.length_map]; omega) fun H16 s16 hT => ?_
    have s := s14.trans (s15.trans s16)
    replace lam := s _ _ lam
    replace lok := s _ _ lok
    replace prs := prs.of s
    replace rwS := rwS.of s
    replace sts := sts.of s
    replace sps := sps.of s
    clear s s14 s15 s16 hrw' hdat' hR' hl0 nx ndx nex rwg rwl
    have kl : (normK (M.map (·.2))).length ≤ 4 := by
      have := norm_len (M.map (·.2))
      rw [List.length_map] at this
      omega
    have gM := prs.good
    have el : rs.map (·.1) = zk := hks
    -- the arrangement
    refine ⟨_, rfl, _, rfl, arr_mk2 (.inl sts) sps.r fun H17 m s17 _ ar => ?_⟩
    replace lam := s17 _ _ lam
    replace prs := prs.of s17
    replace rwS := rwS.of s17
    replace sts := sts.of s17
    replace sps := sps.of s17
    replace hT := hT.of s17
    clear s17 lok
    have none_ : ∀ {k : List Str}, k ∈ ([] : List (List Str)) → GoodP k := fun h => absurd h (by simp)
    -- due
    refine ⟨_, rfl, _, rfl, _, rfl, _, rfl, _, rfl, la, R, p, st, sp, zl, rs, M, ss', ts', rfl, lam, rwS, ok, prs, sts, sps, by omega, by omega, scan, tcan, bt.nd, bt.alt, fun H18 s18 => ?_⟩
    -- with notes
    refine ⟨_, rfl, _, rfl, p, M, rfl, prs.of s18, by omega, fun H19 n s19 nn hn => ⟨_, rfl, ?_⟩⟩
    have t19 := s18.trans s19
    refine ⟨x, .ref n, m, zl, rs, normK (M.map (·.2)), ss', ts', rfl, hT.of t19, ok, .inr ⟨n, rfl, hn⟩, good_norm gM, by omega, ar.of t19, by omega, by omega, scan, tcan, bt.nd, fun H20 s20 => ⟨_, rfl, _, _, rfl, holdsA_norm .., ⟨_, rfl, iteF ?_⟩⟩⟩
    have t20 := t19.trans s20
    replace lam := t20 _ _ lam
    replace rwS := rwS.of t20
    replace sts := sts.of t20
    replace sps := sps.of t20
    replace hT := hT.of t20
    replace ar := ar.of t20
    clear t20 s20 hn nn s19 t19 s18 prs
    -- free
    refine ⟨_, rfl, _, rfl, Nat.zero_le _, fun e he => ⟨_, rfl, _, rfl, la, R, e, st, sp, zl, rs, [], ss', ts', rfl, ?_⟩⟩
    have t21 := Same.upd_new he (o := .lst ([] : List V))
    refine ⟨t21 _ _ lam, rwS.of t21, ok, ⟨upd_same, fun q hq => absurd hq (by simp), fun q hq => absurd hq (by simp)⟩, sts.of t21, sps.of t21, by omega, by omega, scan, tcan, bt.nd, bt.alt, fun H22 s22 => ?_⟩
    have t22 := t21.trans s22
    replace lam := t22 _ _ lam
    replace rwS := rwS.of t22
    replace sts := sts.of t22
    replace sps := sps.of t22
    replace hT := hT.of t22
    replace ar := ar.of t22
    clear t22 s22 t21 he
    refine ⟨_, rfl, _, rfl, x, .non, m, zl, rs, [], ss', ts', rfl, hT, ok, .inl ⟨rfl, rfl⟩, fun k hk => none_ hk, by simp, ar, by omega, by omega, scan, tcan, bt.nd, fun H23 s23 => ⟨_, rfl, _, _, rfl, rfl, ⟨_, rfl, iteF ?_⟩⟩⟩
    replace lam := s23 _ _ lam
    replace rwS := rwS.of s23
    replace sts := sts.of s23
    replace sps := sps.of s23
    replace hT := hT.of s23
    replace ar := ar.of s23
    clear s23
    obtain ⟨dm, am, bm, hm, hsetm, hspm⟩ := ar.ex
    refine ⟨_, rfl, m, CA, dm, _, _, rfl, hm, TT.cl, TT.nS, af2_set _ _, _, rfl, am, st, _, _, rfl, rfl, set_dd hsetm.r, set_dd (.inl sts), ?_⟩
    rw [deq_selfI bs.nd]
    refine ⟨_, rfl, iteF ?_⟩
    -- wider
    have nin8 : ("absent8888" : Str) ∉ ss'.map (·.1) := fun h => by
      rcases bs.inn _ h with h | h
      · exact a8k h
      · exact absent46.2.2.2.2 h
    have nin8t : ("absent8888" : Str) ∉ ts'.map (·.1) := fun h => by
      rcases bt.inn _ h with h | h
      · exact a8l h
      · exact absent46.2.2.2.2 h
    refine ⟨_, rfl, st, kvI ss', rfl, .inl sts, fun wd hwd => ?_⟩
    have w1 := Same.upd_new hwd (o := .dK (kvI ss'))
    have w2 := upd_same (H := H23) (a := wd) (o := .dK (kvI ss'))
    refine ⟨_, rfl, wd, _, rfl, DPut.k (k := .inr "absent8888") w2 (by unfold kvI; rw [List.length_map]; exact small1000 (by omega)), ?_⟩
    have ew : putK (kvI ss') (.inr "absent8888") (.int 0) = kvI (ss' ++ [(("absent8888" : Str), (0 : Int))]) := put_out (g := V.int) nin8 0
    rw [ew, upd_upd]
    have w3 := Same.upd_new hwd (o := .dK (kvI (ss' ++ [(("absent8888" : Str), (0 : Int))])))
    have hW : SetU (upd H23 wd (.dK (kvI (ss' ++ [(("absent8888" : Str), (0 : Int))])))) wd (ss' ++ [(("absent8888" : Str), (0 : Int))]) := upd_same
    generalize upd H23 wd (.dK (kvI (ss' ++ [(("absent8888" : Str), (0 : Int))]))) = H24 at *
    replace lam := w3 _ _ lam
    replace rwS := rwS.of w3
    replace sts := sts.of w3
    replace sps := sps.of w3
    replace hT := hT.of w3
    replace ar := ar.of w3
    clear w1 w2 w3 ew hwd hm hsetm hspm dm am bm
    -- longer
    obtain ⟨Mt, eMt, hspt, hMt⟩ := sps
    have mtl : Mt.length = ts'.length := by rw [← eMt]; unfold tsOf; rw [List.length_map]
    have nin8m : ("absent8888" : Str) ∉ Mt.map (·.1) := by rw [tsOf_keysD, eMt]; exact nin8t
    refine ⟨_, rfl, sp, kvS Mt, rfl, .inl hspt, fun lg hlg => ?_⟩
    have w2 := upd_same (H := H24) (a := lg) (o := .dK (kvS Mt))
    refine ⟨10, 26, rfl, rfl, ⟨by decide, by decide, by decide +kernel⟩, 10, 26, rfl, rfl, ⟨by decide, by decide, by decide +kernel⟩, by show 2 ≤ sizeLine; decide, fun tt htt => ?_⟩
    have nlt : lg ≠ tt := ne_of_none w2 htt
    have htt0 : H24 tt = none := (upd_none htt).1
    have ew : putK (kvS Mt) (.inr "absent8888") (.ref tt) = kvS (Mt ++ [(("absent8888" : Str), (V.ref tt, (some (big46, big46) : Span)))]) := put_out (g := fun q : V × Span => q.1) nin8m (V.ref tt, (some (big46, big46) : Span))
    have hput : DPut (upd (upd H24 lg (.dK (kvS Mt))) tt (.tup [.int big46, .int big46])) lg (.str "absent8888") (.ref tt) (upd (upd (upd H24 lg (.dK (kvS Mt))) tt (.tup [.int big46, .int big46])) lg (.dK (kvS (Mt ++ [(("absent8888" : Str), (V.ref tt, (some (big46, big46) : Span)))])))) := by
      rw [← ew]
      exact DPut.k (k := .inr "absent8888") (by rw [upd_ne nlt]; exact w2) (by unfold kvS; rw [List.length_map]; exact small1000 (by omega))
    refine ⟨_, rfl, lg, upd (upd (upd H24 lg (.dK (kvS Mt))) tt (.tup [.int big46, .int big46])) lg (.dK (kvS (Mt ++ [(("absent8888" : Str), (V.ref tt, (some (big46, big46) : Span)))]))), rfl, hput, ?_⟩
    clear hput
    have w3 : Same H24 (upd (upd (upd H24 lg (.dK (kvS Mt))) tt (.tup [.int big46, .int big46])) lg (.dK (kvS (Mt ++ [(("absent8888" : Str), (V.ref tt, (some (big46, big46) : Span)))])))) := fun c o e => by
      rw [upd_ne (ne_of_none e hlg), upd_ne (ne_of_none e htt0), upd_ne (ne_of_none e hlg)]
      exact e
    have hLG : SpanU K (upd (upd (upd H24 lg (.dK (kvS Mt))) tt (.tup [.int big46, .int big46])) lg (.dK (kvS (Mt ++ [(("absent8888" : Str), (V.ref tt, (some (big46, big46) : Span)))])))) lg (ts' ++ [(("absent8888" : Str), (some (big46, big46) : Span))]) := by
      refine ⟨_, ?_, upd_same, fun q hq => ?_⟩
      · unfold tsOf
        rw [List.map_append]
        show tsOf Mt ++ _ = _
        rw [eMt]
        rfl
      · rcases List.mem_append.mp hq with h | h
        · exact (hMt q h).of w3
        · rw [List.mem_singleton.mp h]
          exact ⟨tt, rfl, SqT.of (by rw [upd_ne nlt.symm, upd_same])⟩
    generalize upd (upd (upd H24 lg (.dK (kvS Mt))) tt (.tup [.int big46, .int big46])) lg (.dK (kvS (Mt ++ [(("absent8888" : Str), (V.ref tt, (some (big46, big46) : Span)))]))) = H25 at *
    replace lam := w3 _ _ lam
    replace rwS := rwS.of w3
    replace sts := sts.of w3
    have sps : SpanU K H25 sp ts' := ⟨Mt, eMt, w3 _ _ hspt, hMt.of w3⟩
    replace hT := hT.of w3
    replace ar := ar.of w3
    replace hW := hW.of w3
    clear w2 w3 ew hlg htt htt0 nlt hspt hMt mtl nin8m eMt Mt
    -- dark
    refine fun dk hdk => ?_
    have w1 := Same.upd_new hdk (o := .dK (kvS (darkH [])))
    have e1 := upd_same (H := H25) (a := dk) (o := .dK (kvS (darkH [])))
    refine ⟨_, rfl, la, rfl, ⟨_, SqL.of (w1 _ _ lam)⟩, for_it (walk_list (K := K) (a := la) (xs := zl.map V.str)) (fun i σ H' => ∃ (x17 : Option V), σ = [some (.ref a0), some (.ref b), some (.ref la), some (.ref lk), some (.ref st), some (.ref sp), some (.ref R), x7, x8, some (.ref p), some (.ref x), some (.ref m), some (.bl (holdsA ss' ts' zl rs (M.map (·.2)))), some (.bl (holdsA ss' ts' zl rs [])), some (.ref wd), some (.ref lg), some (.ref dk), x17, none] ∧ Same H25 H' ∧ H' dk = some (.dK (kvS (darkH (zl.take i)))))
      ⟨none, rfl, w1, e1⟩ (fun i σ H' _ ⟨_, _, s, _⟩ => SqL.of (s _ _ lam)) ?_ ?_⟩
    · rintro i v σ H26 H27 hi ⟨x17, rfl, s26, hd26⟩ ⟨rfl, hv⟩
      obtain ⟨z, hz, hzm, rfl⟩ := st_atP hv
      have nin : z ∉ (darkH (zl.take i)).map (·.1) := by rw [dark_keys]; exact take_new okl.nd hz
      refine ⟨_, rfl, _, rfl, dk, _, rfl, DPut.k (k := .inr z) hd26 (by unfold kvS darkH; rw [List.length_map, List.length_map, List.length_take]; exact small1000 (by omega)), ?_⟩
      have ew : putK (kvS (darkH (zl.take i))) (.inr z) .non = kvS (darkH (zl.take i) ++ [(z, (V.non, (none : Span)))]) := put_out (g := fun q : V × Span => q.1) nin (V.non, (none : Span))
      rw [ew]
      refine ⟨_, rfl, fun c o e => by rw [upd_ne (ne_of_none e hdk)]; exact s26 _ _ e, ?_⟩
      rw [upd_same, take_next hz]
      unfold darkH
      rw [List.map_append]
      rfl
    rintro σ H26 ⟨x17, rfl, s26, hd26⟩
    rw [List.length_map, List.take_length] at hd26
    have hDK : SpanU K H26 dk (tsOf (darkH zl)) := ⟨_, rfl, hd26, dark_V K H26 zl⟩
    have dkk : (tsOf (darkH zl)).map (·.1) = zl := by rw [← tsOf_keysD, dark_keys]
    have dkl : (tsOf (darkH zl)).length ≤ 4 := by
      have := congrArg List.length dkk
      rw [List.length_map] at this
      omega
    generalize tsOf (darkH zl) = ds at *
    replace lam := s26 _ _ lam
    replace rwS := rwS.of s26
    replace sts := sts.of s26
    replace sps := sps.of s26
    replace hT := hT.of s26
    replace ar := ar.of s26
    replace hW := hW.of s26
    replace hLG := hLG.of s26
    clear s26 w1 e1 hdk hd26
    -- a look too many
    have c8 : canS "absent8888" := valid_can absent46.2.2.2.1
    refine ⟨_, rfl, _, rfl, _, rfl, arr_mk2 hW.r sps.r fun H27 r s27 _ ar2 => ?_⟩
    refine ⟨x, .non, r, zl, rs, [], _, _, rfl, hT.of s27, ok, .inl ⟨rfl, rfl⟩, fun k hk => none_ hk, by simp, ar2, by rw [List.length_append, List.length_singleton]; omega, by omega, fun q hq => ?_, tcan, bt.nd, fun H28 s28 => ⟨_, _, rfl, ?_, ⟨_, rfl, iteF ?_⟩⟩⟩
    · rcases List.mem_append.mp hq with h | h
      · exact scan q h
      · rw [List.mem_singleton.mp h]; exact c8
    · unfold holdsA keysB
      rw [decide_eq_false (by rw [List.map_append, el]; exact not_perm8 a8k), Bool.false_and, Bool.false_and]
    have s := s27.trans s28
    replace lam := s _ _ lam
    replace rwS := rwS.of s
    replace sts := sts.of s
    replace sps := sps.of s
    replace hT := hT.of s
    replace ar := ar.of s
    replace hLG := hLG.of s
    replace hDK := hDK.of s
    clear s s27 s28 ar2 hW
    -- a lamp too many
    refine ⟨_, rfl, _, rfl, _, rfl, arr_mk2 (.inl sts) hLG.r fun H29 r s27 _ ar2 => ?_⟩
    refine ⟨x, .non, r, zl, rs, [], _, _, rfl, hT.of s27, ok, .inl ⟨rfl, rfl⟩, fun k hk => none_ hk, by simp, ar2, by omega, by rw [List.length_append, List.length_singleton]; omega, scan, fun q hq => ?_, ?_, fun H30 s28 => ⟨_, _, rfl, ?_, ⟨_, rfl, iteF ?_⟩⟩⟩
    · rcases List.mem_append.mp hq with h | h
      · exact tcan q h
      · rw [List.mem_singleton.mp h]; exact c8
    · rw [List.map_append, List.nodup_append]
      exact ⟨bt.nd, by simp, fun a ha b hb e => nin8t (by have q : b = "absent8888" := List.mem_singleton.mp hb; rw [← q, ← e]; exact ha)⟩
    · unfold holdsA keysB
      rw [decide_eq_false (p := ((ts' ++ [(("absent8888" : Str), (some (big46, big46) : Span))]).map (·.1)).Perm zl) (by rw [List.map_append]; exact not_perm8 a8l), Bool.and_false, Bool.false_and]
    have s := s27.trans s28
    replace lam := s _ _ lam
    replace rwS := rwS.of s
    replace sts := sts.of s
    replace sps := sps.of s
    replace hT := hT.of s
    replace ar := ar.of s
    replace hDK := hDK.of s
    clear s s27 s28 ar2 hLG
    -- all lamps dark
    refine ⟨_, rfl, _, rfl, Nat.zero_le _, fun e he => ⟨_, rfl, _, rfl, la, R, e, st, dk, zl, rs, [], ss', ds, rfl, ?_⟩⟩
    have t21 := Same.upd_new he (o := .lst ([] : List V))
    refine ⟨t21 _ _ lam, rwS.of t21, ok, ⟨upd_same, fun q hq => absurd hq (by simp), fun q hq => absurd hq (by simp)⟩, sts.of t21, hDK.of t21, by omega, by omega, scan, fun q hq => okl.bag _ (by rw [← dkk]; exact List.mem_map_of_mem hq), by rw [dkk]; exact okl.nd, .inl dkk, fun H31 s22 => ?_⟩
    have t22 := t21.trans s22
    replace lam := t22 _ _ lam
    replace rwS := rwS.of t22
    replace sts := sts.of t22
    replace sps := sps.of t22
    replace hT := hT.of t22
    replace ar := ar.of t22
    replace hDK := hDK.of t22
    clear t22 s22 t21 he
    refine ⟨_, rfl, _, rfl, _, rfl, arr_mk2 (.inl sts) hDK.r fun H32 r s27 _ ar2 => ?_⟩
    refine ⟨x, .non, r, zl, rs, [], ss', ds, rfl, hT.of s27, ok, .inl ⟨rfl, rfl⟩, fun k hk => none_ hk, by simp, ar2, by omega, by omega, scan, fun q hq => okl.bag _ (by rw [← dkk]; exact List.mem_map_of_mem hq), by rw [dkk]; exact okl.nd, fun H33 s28 => ⟨_, rfl, _, _, rfl, rfl, ⟨_, rfl, iteF ?_⟩⟩⟩
    have s := s27.trans s28
    replace sps := sps.of s
    replace hT := hT.of s
    replace ar := ar.of s
    clear s s27 s28 ar2 hDK
    -- once more
    refine ⟨_, rfl, _, rfl, x, .non, m, zl, rs, [], ss', ts', rfl, hT, ok, .inl ⟨rfl, rfl⟩, fun k hk => none_ hk, by simp, ar, by omega, by omega, scan, tcan, bt.nd, fun H34 s23 => ⟨_, rfl, _, _, rfl, rfl, ?_⟩⟩
    obtain ⟨dm, am, bm, hm, hsetm, hspm⟩ := (ar.of s23).ex
    refine ⟨_, rfl, iteT ⟨_, rfl, m, CA, dm, _, _, rfl, hm, TT.cl, TT.nT, af2_str _ _, _, rfl, bm, sp, _, _, rfl, rfl, span_dd hspm.r, span_dd (sps.of s23).r, ?_⟩⟩
    rw [deq_selfO bt.nd]
    exact k H34
end
end Dl

namespace Dl
open PySem PySem.Spec PyProof.Rows L2
theorem all_mk {l : PySem.W.OpenLaw} {w : World} {K : PySem.W.Frag} {h : Heap} {mg : Str → Option Value} {fa f_is_name f_check_name f_check_new f_check_known f_distinct_names f_pairs_in f_arrangement_holds f_ascend f_contains f_check_shown f_chosen_of f_law_bag f_law_take f_law_is f_law_name f_law_names f_law_flipped f_law_given f_law_pairs f_law_notes f_law_glowing f_law_drawn_settings f_law_drawn_stretches f_law_due_holds f_law_bend f_law C_InvalidName f_InvalidName C_DuplicateName f_DuplicateName C_UnknownName f_UnknownName C_TooMany f_TooMany C_InvalidNote f_InvalidNote C_Table f_Table_init f_Table_rows C_Notes f_Notes_init f_Notes_add f_Notes_eq C_Arrangement f_Arrangement_init f_Arrangement_call : Addr} (X : K.In h) (G : h.Ns mainGlobals mg) (hfa : mg "law" = some (.ref fa))
    {od_is_name an_is_name od_check_name an_check_name od_check_new an_check_new od_check_known an_check_known od_distinct_names an_distinct_names od_pairs_in an_pairs_in od_arrangement_holds an_arrangement_holds od_ascend an_ascend od_contains an_contains od_check_shown an_check_shown od_chosen_of an_chosen_of od_law_bag an_law_bag od_law_take an_law_take od_law_is an_law_is od_law_name an_law_name od_law_names an_law_names od_law_flipped an_law_flipped od_law_given an_law_given od_law_pairs an_law_pairs od_law_notes an_law_notes od_law_glowing an_law_glowing od_law_drawn_settings an_law_drawn_settings od_law_drawn_stretches an_law_drawn_stretches od_law_due_holds an_law_due_holds od_law_bend an_law_bend od_law an_law od_InvalidName an_InvalidName od_DuplicateName an_DuplicateName od_UnknownName an_UnknownName od_TooMany an_TooMany od_InvalidNote an_InvalidNote od_Table_init an_Table_init od_Table_rows an_Table_rows od_Notes_init an_Notes_init od_Notes_add an_Notes_add od_Notes_eq an_Notes_eq od_Arrangement_init an_Arrangement_init od_Arrangement_call an_Arrangement_call : Option Addr} {sl_is_name sl_check_name sl_check_new sl_check_known sl_distinct_names sl_pairs_in sl_arrangement_holds sl_ascend sl_contains sl_check_shown sl_chosen_of sl_law_bag sl_law_take sl_law_is sl_law_name sl_law_names sl_law_flipped sl_law_given sl_law_pairs sl_law_notes sl_law_glowing sl_law_drawn_settings sl_law_drawn_stretches sl_law_due_holds sl_law_bend sl_law sl_InvalidName sl_DuplicateName sl_UnknownName sl_TooMany sl_InvalidNote sl_Table_init sl_Table_rows sl_Notes_init sl_Notes_add sl_Notes_eq sl_Arrangement_init sl_Arrangement_call : Array (Option Value)} {oc_is_name kV_is_name dc_is_name pm_is_name cd_is_name ct_is_name oc_check_name kV_check_name dc_check_name pm_check_name cd_check_name ct_check_name oc_check_new kV_check_new dc_check_new pm_check_new cd_check_new ct_check_new oc_check_known kV_check_known dc_check_known pm_check_known cd_check_known ct_check_known oc_distinct_names kV_distinct_names dc_distinct_names pm_distinct_names cd_distinct_names ct_distinct_names oc_pairs_in kV_pairs_in dc_pairs_in pm_pairs_in cd_pairs_in ct_pairs_in oc_arrangement_holds kV_arrangement_holds dc_arrangement_holds pm_arrangement_holds cd_arrangement_holds ct_arrangement_holds oc_ascend kV_ascend dc_ascend pm_ascend cd_ascend ct_ascend oc_contains kV_contains dc_contains pm_contains cd_contains ct_contains oc_check_shown kV_check_shown dc_check_shown pm_check_shown cd_check_shown ct_check_shown oc_chosen_of kV_chosen_of dc_chosen_of pm_chosen_of cd_chosen_of ct_chosen_of oc_law_bag kV_law_bag dc_law_bag pm_law_bag cd_law_bag ct_law_bag oc_law_take kV_law_take dc_law_take pm_law_take cd_law_take ct_law_take oc_law_is kV_law_is dc_law_is pm_law_is cd_law_is ct_law_is oc_law_name kV_law_name dc_law_name pm_law_name cd_law_name ct_law_name oc_law_names kV_law_names dc_law_names pm_law_names cd_law_names ct_law_names oc_law_flipped kV_law_flipped dc_law_flipped pm_law_flipped cd_law_flipped ct_law_flipped oc_law_given kV_law_given dc_law_given pm_law_given cd_law_given ct_law_given oc_law_pairs kV_law_pairs dc_law_pairs pm_law_pairs cd_law_pairs ct_law_pairs oc_law_notes kV_law_notes dc_law_notes pm_law_notes cd_law_notes ct_law_notes oc_law_glowing kV_law_glowing dc_law_glowing pm_law_glowing cd_law_glowing ct_law_glowing oc_law_drawn_settings kV_law_drawn_settings dc_law_drawn_settings pm_law_drawn_settings cd_law_drawn_settings ct_law_drawn_settings oc_law_drawn_stretches kV_law_drawn_stretches dc_law_drawn_stretches pm_law_drawn_stretches cd_law_drawn_stretches ct_law_drawn_stretches oc_law_due_holds kV_law_due_holds dc_law_due_holds pm_law_due_holds cd_law_due_holds ct_law_due_holds oc_law_bend kV_law_bend dc_law_bend pm_law_bend cd_law_bend ct_law_bend oc_law kV_law dc_law pm_law cd_law ct_law oc_InvalidName kV_InvalidName dc_InvalidName pm_InvalidName cd_InvalidName ct_InvalidName oc_DuplicateName kV_DuplicateName dc_DuplicateName pm_DuplicateName cd_DuplicateName ct_DuplicateName oc_UnknownName kV_UnknownName dc_UnknownName pm_UnknownName cd_UnknownName ct_UnknownName oc_TooMany kV_TooMany dc_TooMany pm_TooMany cd_TooMany ct_TooMany oc_InvalidNote kV_InvalidNote dc_InvalidNote pm_InvalidNote cd_InvalidNote ct_InvalidNote oc_Table_init kV_Table_init dc_Table_init pm_Table_init cd_Table_init ct_Table_init oc_Table_rows kV_Table_rows dc_Table_rows pm_Table_rows cd_Table_rows ct_Table_rows oc_Notes_init kV_Notes_init dc_Notes_init pm_Notes_init cd_Notes_init ct_Notes_init oc_Notes_add kV_Notes_add dc_Notes_add pm_Notes_add cd_Notes_add ct_Notes_add oc_Notes_eq kV_Notes_eq dc_Notes_eq pm_Notes_eq cd_Notes_eq ct_Notes_eq oc_Arrangement_init kV_Arrangement_init dc_Arrangement_init pm_Arrangement_init cd_Arrangement_init ct_Arrangement_init oc_Arrangement_call kV_Arrangement_call dc_Arrangement_call pm_Arrangement_call cd_Arrangement_call ct_Arrangement_call : Value} {t_LONGEST t_SIGNS t_LIMIT : Tok}
    {nm_InvalidName q_InvalidName : Str} {N_InvalidName : Addr} {bs_InvalidName bm_InvalidName : List Value} {sn_InvalidName : List Str} {sub_InvalidName : List Value} {ab_InvalidName : Bool} {col_InvalidName : Option Bool} {dd_InvalidName : Option Addr} {m0_InvalidName m1_InvalidName m2_InvalidName m3_InvalidName m5_InvalidName : Option Value}
    {nm_DuplicateName q_DuplicateName : Str} {N_DuplicateName : Addr} {bs_DuplicateName bm_DuplicateName : List Value} {sn_DuplicateName : List Str} {sub_DuplicateName : List Value} {ab_DuplicateName : Bool} {col_DuplicateName : Option Bool} {dd_DuplicateName : Option Addr} {m0_DuplicateName m1_DuplicateName m2_DuplicateName m3_DuplicateName m5_DuplicateName : Option Value}
    {nm_UnknownName q_UnknownName : Str} {N_UnknownName : Addr} {bs_UnknownName bm_UnknownName : List Value} {sn_UnknownName : List Str} {sub_UnknownName : List Value} {ab_UnknownName : Bool} {col_UnknownName : Option Bool} {dd_UnknownName : Option Addr} {m0_UnknownName m1_UnknownName m2_UnknownName m3_UnknownName m5_UnknownName : Option Value}
    {nm_TooMany q_TooMany : Str} {N_TooMany : Addr} {bs_TooMany bm_TooMany : List Value} {sn_TooMany : List Str} {sub_TooMany : List Value} {ab_TooMany : Bool} {col_TooMany : Option Bool} {dd_TooMany : Option Addr} {m0_TooMany m1_TooMany m2_TooMany m3_TooMany m5_TooMany : Option Value}
    {nm_InvalidNote q_InvalidNote : Str} {N_InvalidNote : Addr} {bs_InvalidNote bm_InvalidNote : List Value} {sn_InvalidNote : List Str} {sub_InvalidNote : List Value} {ab_InvalidNote : Bool} {col_InvalidNote : Option Bool} {dd_InvalidNote : Option Addr} {m0_InvalidNote m1_InvalidNote m2_InvalidNote m3_InvalidNote m5_InvalidNote : Option Value}
    (a_is_name : PySem.W.nsIn K mainGlobals "is_name" = some (some (.ref f_is_name)))
    (l_is_name : K.lookup f_is_name = some ⟨oc_is_name, od_is_name, .func (PySem.W.fnOf "is_name" "is_name" (defArgs sIsName) (defBody sIsName) (defScope sIsName) .none kV_is_name dc_is_name pm_is_name an_is_name cd_is_name ct_is_name), sl_is_name⟩)
    (c_is_name : PySem.W.codeIn K cd_is_name "is_name" = true)
    (k_is_name : PySem.W.keepIn K (.ref f_is_name) = true)
    (a_check_name : PySem.W.nsIn K mainGlobals "check_name" = some (some (.ref f_check_name)))
    (l_check_name : K.lookup f_check_name = some ⟨oc_check_name, od_check_name, .func (PySem.W.fnOf "check_name" "check_name" (defArgs sCheckName) (defBody sCheckName) (defScope sCheckName) .none kV_check_name dc_check_name pm_check_name an_check_name cd_check_name ct_check_name), sl_check_name⟩)
    (c_check_name : PySem.W.codeIn K cd_check_name "check_name" = true)
    (k_check_name : PySem.W.keepIn K (.ref f_check_name) = true)
    (a_check_new : PySem.W.nsIn K mainGlobals "check_new" = some (some (.ref f_check_new)))
    (l_check_new : K.lookup f_check_new = some ⟨oc_check_new, od_check_new, .func (PySem.W.fnOf "check_new" "check_new" (defArgs sCheckNew) (defBody sCheckNew) (defScope sCheckNew) .none kV_check_new dc_check_new pm_check_new an_check_new cd_check_new ct_check_new), sl_check_new⟩)
    (c_check_new : PySem.W.codeIn K cd_check_new "check_new" = true)
    (k_check_new : PySem.W.keepIn K (.ref f_check_new) = true)
    (a_check_known : PySem.W.nsIn K mainGlobals "check_known" = some (some (.ref f_check_known)))
    (l_check_known : K.lookup f_check_known = some ⟨oc_check_known, od_check_known, .func (PySem.W.fnOf "check_known" "check_known" (defArgs sCheckKnown) (defBody sCheckKnown) (defScope sCheckKnown) .none kV_check_known dc_check_known pm_check_known an_check_known cd_check_known ct_check_known), sl_check_known⟩)
    (c_check_known : PySem.W.codeIn K cd_check_known "check_known" = true)
    (k_check_known : PySem.W.keepIn K (.ref f_check_known) = true)
    (a_distinct_names : PySem.W.nsIn K mainGlobals "distinct_names" = some (some (.ref f_distinct_names)))
    (l_distinct_names : K.lookup f_distinct_names = some ⟨oc_distinct_names, od_distinct_names, .func (PySem.W.fnOf "distinct_names" "distinct_names" (defArgs sDistinct) (defBody sDistinct) (defScope sDistinct) .none kV_distinct_names dc_distinct_names pm_distinct_names an_distinct_names cd_distinct_names ct_distinct_names), sl_distinct_names⟩)
    (c_distinct_names : PySem.W.codeIn K cd_distinct_names "distinct_names" = true)
    (k_distinct_names : PySem.W.keepIn K (.ref f_distinct_names) = true)
    (a_pairs_in : PySem.W.nsIn K mainGlobals "pairs_in" = some (some (.ref f_pairs_in)))
    (l_pairs_in : K.lookup f_pairs_in = some ⟨oc_pairs_in, od_pairs_in, .func (PySem.W.fnOf "pairs_in" "pairs_in" (defArgs sPairsIn) (defBody sPairsIn) (defScope sPairsIn) .none kV_pairs_in dc_pairs_in pm_pairs_in an_pairs_in cd_pairs_in ct_pairs_in), sl_pairs_in⟩)
    (c_pairs_in : PySem.W.codeIn K cd_pairs_in "pairs_in" = true)
    (k_pairs_in : PySem.W.keepIn K (.ref f_pairs_in) = true)
    (a_arrangement_holds : PySem.W.nsIn K mainGlobals "arrangement_holds" = some (some (.ref f_arrangement_holds)))
    (l_arrangement_holds : K.lookup f_arrangement_holds = some ⟨oc_arrangement_holds, od_arrangement_holds, .func (PySem.W.fnOf "arrangement_holds" "arrangement_holds" (defArgs sArrangementHolds) (defBody sArrangementHolds) (defScope sArrangementHolds) .none kV_arrangement_holds dc_arrangement_holds pm_arrangement_holds an_arrangement_holds cd_arrangement_holds ct_arrangement_holds), sl_arrangement_holds⟩)
    (c_arrangement_holds : PySem.W.codeIn K cd_arrangement_holds "arrangement_holds" = true)
    (k_arrangement_holds : PySem.W.keepIn K (.ref f_arrangement_holds) = true)
    (a_ascend : PySem.W.nsIn K mainGlobals "_ascend" = some (some (.ref f_ascend)))
    (l_ascend : K.lookup f_ascend = some ⟨oc_ascend, od_ascend, .func (PySem.W.fnOf "_ascend" "_ascend" (defArgs sAscend) (defBody sAscend) (defScope sAscend) .none kV_ascend dc_ascend pm_ascend an_ascend cd_ascend ct_ascend), sl_ascend⟩)
    (c_ascend : PySem.W.codeIn K cd_ascend "_ascend" = true)
    (k_ascend : PySem.W.keepIn K (.ref f_ascend) = true)
    (a_contains : PySem.W.nsIn K mainGlobals "_contains" = some (some (.ref f_contains)))
    (l_contains : K.lookup f_contains = some ⟨oc_contains, od_contains, .func (PySem.W.fnOf "_contains" "_contains" (defArgs sContains) (defBody sContains) (defScope sContains) .none kV_contains dc_contains pm_contains an_contains cd_contains ct_contains), sl_contains⟩)
    (c_contains : PySem.W.codeIn K cd_contains "_contains" = true)
    (k_contains : PySem.W.keepIn K (.ref f_contains) = true)
    (a_check_shown : PySem.W.nsIn K mainGlobals "_check_shown" = some (some (.ref f_check_shown)))
    (l_check_shown : K.lookup f_check_shown = some ⟨oc_check_shown, od_check_shown, .func (PySem.W.fnOf "_check_shown" "_check_shown" (defArgs sCheckShown) (defBody sCheckShown) (defScope sCheckShown) .none kV_check_shown dc_check_shown pm_check_shown an_check_shown cd_check_shown ct_check_shown), sl_check_shown⟩)
    (c_check_shown : PySem.W.codeIn K cd_check_shown "_check_shown" = true)
    (k_check_shown : PySem.W.keepIn K (.ref f_check_shown) = true)
    (a_chosen_of : PySem.W.nsIn K mainGlobals "_chosen_of" = some (some (.ref f_chosen_of)))
    (l_chosen_of : K.lookup f_chosen_of = some ⟨oc_chosen_of, od_chosen_of, .func (PySem.W.fnOf "_chosen_of" "_chosen_of" (defArgs sChosen) (defBody sChosen) (defScope sChosen) .none kV_chosen_of dc_chosen_of pm_chosen_of an_chosen_of cd_chosen_of ct_chosen_of), sl_chosen_of⟩)
    (c_chosen_of : PySem.W.codeIn K cd_chosen_of "_chosen_of" = true)
    (k_chosen_of : PySem.W.keepIn K (.ref f_chosen_of) = true)
    (a_law_bag : PySem.W.nsIn K mainGlobals "_law_bag" = some (some (.ref f_law_bag)))
    (l_law_bag : K.lookup f_law_bag = some ⟨oc_law_bag, od_law_bag, .func (PySem.W.fnOf "_law_bag" "_law_bag" (defArgs sBag) (defBody sBag) (defScope sBag) .none kV_law_bag dc_law_bag pm_law_bag an_law_bag cd_law_bag ct_law_bag), sl_law_bag⟩)
    (c_law_bag : PySem.W.codeIn K cd_law_bag "_law_bag" = true)
    (k_law_bag : PySem.W.keepIn K (.ref f_law_bag) = true)
    (a_law_take : PySem.W.nsIn K mainGlobals "_law_take" = some (some (.ref f_law_take)))
    (l_law_take : K.lookup f_law_take = some ⟨oc_law_take, od_law_take, .func (PySem.W.fnOf "_law_take" "_law_take" (defArgs sTake) (defBody sTake) (defScope sTake) .none kV_law_take dc_law_take pm_law_take an_law_take cd_law_take ct_law_take), sl_law_take⟩)
    (c_law_take : PySem.W.codeIn K cd_law_take "_law_take" = true)
    (k_law_take : PySem.W.keepIn K (.ref f_law_take) = true)
    (a_law_is : PySem.W.nsIn K mainGlobals "_law_is" = some (some (.ref f_law_is)))
    (l_law_is : K.lookup f_law_is = some ⟨oc_law_is, od_law_is, .func (PySem.W.fnOf "_law_is" "_law_is" (defArgs sLawIs) (defBody sLawIs) (defScope sLawIs) .none kV_law_is dc_law_is pm_law_is an_law_is cd_law_is ct_law_is), sl_law_is⟩)
    (c_law_is : PySem.W.codeIn K cd_law_is "_law_is" = true)
    (k_law_is : PySem.W.keepIn K (.ref f_law_is) = true)
    (a_law_name : PySem.W.nsIn K mainGlobals "_law_name" = some (some (.ref f_law_name)))
    (l_law_name : K.lookup f_law_name = some ⟨oc_law_name, od_law_name, .func (PySem.W.fnOf "_law_name" "_law_name" (defArgs sLawName) (defBody sLawName) (defScope sLawName) .none kV_law_name dc_law_name pm_law_name an_law_name cd_law_name ct_law_name), sl_law_name⟩)
    (c_law_name : PySem.W.codeIn K cd_law_name "_law_name" = true)
    (k_law_name : PySem.W.keepIn K (.ref f_law_name) = true)
    (a_law_names : PySem.W.nsIn K mainGlobals "_law_names" = some (some (.ref f_law_names)))
    (l_law_names : K.lookup f_law_names = some ⟨oc_law_names, od_law_names, .func (PySem.W.fnOf "_law_names" "_law_names" (defArgs sLawNames) (defBody sLawNames) (defScope sLawNames) .none kV_law_names dc_law_names pm_law_names an_law_names cd_law_names ct_law_names), sl_law_names⟩)
    (c_law_names : PySem.W.codeIn K cd_law_names "_law_names" = true)
    (k_law_names : PySem.W.keepIn K (.ref f_law_names) = true)
    (a_law_flipped : PySem.W.nsIn K mainGlobals "_law_flipped" = some (some (.ref f_law_flipped)))
    (l_law_flipped : K.lookup f_law_flipped = some ⟨oc_law_flipped, od_law_flipped, .func (PySem.W.fnOf "_law_flipped" "_law_flipped" (defArgs sLawFlipped) (defBody sLawFlipped) (defScope sLawFlipped) .none kV_law_flipped dc_law_flipped pm_law_flipped an_law_flipped cd_law_flipped ct_law_flipped), sl_law_flipped⟩)
    (c_law_flipped : PySem.W.codeIn K cd_law_flipped "_law_flipped" = true)
    (k_law_flipped : PySem.W.keepIn K (.ref f_law_flipped) = true)
    (a_law_given : PySem.W.nsIn K mainGlobals "_law_given" = some (some (.ref f_law_given)))
    (l_law_given : K.lookup f_law_given = some ⟨oc_law_given, od_law_given, .func (PySem.W.fnOf "_law_given" "_law_given" (defArgs sLawGiven) (defBody sLawGiven) (defScope sLawGiven) .none kV_law_given dc_law_given pm_law_given an_law_given cd_law_given ct_law_given), sl_law_given⟩)
    (c_law_given : PySem.W.codeIn K cd_law_given "_law_given" = true)
    (k_law_given : PySem.W.keepIn K (.ref f_law_given) = true)
    (a_law_pairs : PySem.W.nsIn K mainGlobals "_law_pairs" = some (some (.ref f_law_pairs)))
    (l_law_pairs : K.lookup f_law_pairs = some ⟨oc_law_pairs, od_law_pairs, .func (PySem.W.fnOf "_law_pairs" "_law_pairs" (defArgs sLawPairs) (defBody sLawPairs) (defScope sLawPairs) .none kV_law_pairs dc_law_pairs pm_law_pairs an_law_pairs cd_law_pairs ct_law_pairs), sl_law_pairs⟩)
    (c_law_pairs : PySem.W.codeIn K cd_law_pairs "_law_pairs" = true)
    (k_law_pairs : PySem.W.keepIn K (.ref f_law_pairs) = true)
    (a_law_notes : PySem.W.nsIn K mainGlobals "_law_notes" = some (some (.ref f_law_notes)))
    (l_law_notes : K.lookup f_law_notes = some ⟨oc_law_notes, od_law_notes, .func (PySem.W.fnOf "_law_notes" "_law_notes" (defArgs sLawNotes) (defBody sLawNotes) (defScope sLawNotes) .none kV_law_notes dc_law_notes pm_law_notes an_law_notes cd_law_notes ct_law_notes), sl_law_notes⟩)
    (c_law_notes : PySem.W.codeIn K cd_law_notes "_law_notes" = true)
    (k_law_notes : PySem.W.keepIn K (.ref f_law_notes) = true)
    (a_law_glowing : PySem.W.nsIn K mainGlobals "_law_glowing" = some (some (.ref f_law_glowing)))
    (l_law_glowing : K.lookup f_law_glowing = some ⟨oc_law_glowing, od_law_glowing, .func (PySem.W.fnOf "_law_glowing" "_law_glowing" (defArgs sLawGlowing) (defBody sLawGlowing) (defScope sLawGlowing) .none kV_law_glowing dc_law_glowing pm_law_glowing an_law_glowing cd_law_glowing ct_law_glowing), sl_law_glowing⟩)
    (c_law_glowing : PySem.W.codeIn K cd_law_glowing "_law_glowing" = true)
    (k_law_glowing : PySem.W.keepIn K (.ref f_law_glowing) = true)
    (a_law_drawn_settings : PySem.W.nsIn K mainGlobals "_law_drawn_settings" = some (some (.ref f_law_drawn_settings)))
    (l_law_drawn_settings : K.lookup f_law_drawn_settings = some ⟨oc_law_drawn_settings, od_law_drawn_settings, .func (PySem.W.fnOf "_law_drawn_settings" "_law_drawn_settings" (defArgs sLawDrawnSettings) (defBody sLawDrawnSettings) (defScope sLawDrawnSettings) .none kV_law_drawn_settings dc_law_drawn_settings pm_law_drawn_settings an_law_drawn_settings cd_law_drawn_settings ct_law_drawn_settings), sl_law_drawn_settings⟩)
    (c_law_drawn_settings : PySem.W.codeIn K cd_law_drawn_settings "_law_drawn_settings" = true)
    (k_law_drawn_settings : PySem.W.keepIn K (.ref f_law_drawn_settings) = true)
    (a_law_drawn_stretches : PySem.W.nsIn K mainGlobals "_law_drawn_stretches" = some (some (.ref f_law_drawn_stretches)))
    (l_law_drawn_stretches : K.lookup f_law_drawn_stretches = some ⟨oc_law_drawn_stretches, od_law_drawn_stretches, .func (PySem.W.fnOf "_law_drawn_stretches" "_law_drawn_stretches" (defArgs sLawDrawnStretches) (defBody sLawDrawnStretches) (defScope sLawDrawnStretches) .none kV_law_drawn_stretches dc_law_drawn_stretches pm_law_drawn_stretches an_law_drawn_stretches cd_law_drawn_stretches ct_law_drawn_stretches), sl_law_drawn_stretches⟩)
    (c_law_drawn_stretches : PySem.W.codeIn K cd_law_drawn_stretches "_law_drawn_stretches" = true)
    (k_law_drawn_stretches : PySem.W.keepIn K (.ref f_law_drawn_stretches) = true)
    (a_law_due_holds : PySem.W.nsIn K mainGlobals "_law_due_holds" = some (some (.ref f_law_due_holds)))
    (l_law_due_holds : K.lookup f_law_due_holds = some ⟨oc_law_due_holds, od_law_due_holds, .func (PySem.W.fnOf "_law_due_holds" "_law_due_holds" (defArgs sLawDueHolds) (defBody sLawDueHolds) (defScope sLawDueHolds) .none kV_law_due_holds dc_law_due_holds pm_law_due_holds an_law_due_holds cd_law_due_holds ct_law_due_holds), sl_law_due_holds⟩)
    (c_law_due_holds : PySem.W.codeIn K cd_law_due_holds "_law_due_holds" = true)
    (k_law_due_holds : PySem.W.keepIn K (.ref f_law_due_holds) = true)
    (a_law_bend : PySem.W.nsIn K mainGlobals "_law_bend" = some (some (.ref f_law_bend)))
    (l_law_bend : K.lookup f_law_bend = some ⟨oc_law_bend, od_law_bend, .func (PySem.W.fnOf "_law_bend" "_law_bend" (defArgs sLawBend) (defBody sLawBend) (defScope sLawBend) .none kV_law_bend dc_law_bend pm_law_bend an_law_bend cd_law_bend ct_law_bend), sl_law_bend⟩)
    (c_law_bend : PySem.W.codeIn K cd_law_bend "_law_bend" = true)
    (k_law_bend : PySem.W.keepIn K (.ref f_law_bend) = true)
    (a_law : PySem.W.nsIn K mainGlobals "law" = some (some (.ref f_law)))
    (l_law : K.lookup f_law = some ⟨oc_law, od_law, .func (PySem.W.fnOf "law" "law" (defArgs sLaw) (defBody sLaw) (defScope sLaw) .none kV_law dc_law pm_law an_law cd_law ct_law), sl_law⟩)
    (c_law : PySem.W.codeIn K cd_law "law" = true)
    (k_law : PySem.W.keepIn K (.ref f_law) = true)
    (a_InvalidName : PySem.W.nsIn K mainGlobals "InvalidName" = some (some (.ref C_InvalidName)))
    (x_InvalidName : K.lookup C_InvalidName = some (excClassObj nm_InvalidName q_InvalidName C_InvalidName N_InvalidName bs_InvalidName bm_InvalidName true sn_InvalidName sub_InvalidName ab_InvalidName col_InvalidName dd_InvalidName m0_InvalidName m1_InvalidName m2_InvalidName m3_InvalidName m5_InvalidName "ValueError.__new__"))
    (hb_InvalidName : PySem.HandSPX.refsVE bm_InvalidName = true)
    (sa_InvalidName : PySem.W.findIn K (.ref C_InvalidName) "__setattr__" = some (some (.builtin "object.__setattr__")))
    (e_InvalidName : PySem.W.subIn K (.ref C_InvalidName) (.type "BaseException") = some true)
    (tc_InvalidName : PySem.W.typeIn K (.ref C_InvalidName) = some (.type "type"))
    (kc_InvalidName : PySem.W.keepIn K (.ref C_InvalidName) = true)
    (no_InvalidName : PySem.W.findIn K (.ref C_InvalidName) "name" = some none)
    (i_InvalidName : PySem.W.findIn K (.ref C_InvalidName) "__init__" = some (some (.ref f_InvalidName)))
    (ti_InvalidName : PySem.W.typeIn K (.ref f_InvalidName) = some (.type "function"))
    (l_InvalidName : K.lookup f_InvalidName = some ⟨oc_InvalidName, od_InvalidName, .func (PySem.W.fnOf "__init__" "InvalidName.__init__" (defArgs sInv) (defBody sInv) (defScope sInv) .none kV_InvalidName dc_InvalidName pm_InvalidName an_InvalidName cd_InvalidName ct_InvalidName), sl_InvalidName⟩)
    (c_InvalidName : PySem.W.codeIn K cd_InvalidName "InvalidName.__init__" = true)
    (k_InvalidName : PySem.W.keepIn K (.ref f_InvalidName) = true)
    (a_DuplicateName : PySem.W.nsIn K mainGlobals "DuplicateName" = some (some (.ref C_DuplicateName)))
    (x_DuplicateName : K.lookup C_DuplicateName = some (excClassObj nm_DuplicateName q_DuplicateName C_DuplicateName N_DuplicateName bs_DuplicateName bm_DuplicateName true sn_DuplicateName sub_DuplicateName ab_DuplicateName col_DuplicateName dd_DuplicateName m0_DuplicateName m1_DuplicateName m2_DuplicateName m3_DuplicateName m5_DuplicateName "ValueError.__new__"))
    (hb_DuplicateName : PySem.HandSPX.refsVE bm_DuplicateName = true)
    (sa_DuplicateName : PySem.W.findIn K (.ref C_DuplicateName) "__setattr__" = some (some (.builtin "object.__setattr__")))
    (e_DuplicateName : PySem.W.subIn K (.ref C_DuplicateName) (.type "BaseException") = some true)
    (tc_DuplicateName : PySem.W.typeIn K (.ref C_DuplicateName) = some (.type "type"))
    (kc_DuplicateName : PySem.W.keepIn K (.ref C_DuplicateName) = true)
    (no_DuplicateName : PySem.W.findIn K (.ref C_DuplicateName) "name" = some none)
    (i_DuplicateName : PySem.W.findIn K (.ref C_DuplicateName) "__init__" = some (some (.ref f_DuplicateName)))
    (ti_DuplicateName : PySem.W.typeIn K (.ref f_DuplicateName) = some (.type "function"))
    (l_DuplicateName : K.lookup f_DuplicateName = some ⟨oc_DuplicateName, od_DuplicateName, .func (PySem.W.fnOf "__init__" "DuplicateName.__init__" (defArgs sDup) (defBody sDup) (defScope sDup) .none kV_DuplicateName dc_DuplicateName pm_DuplicateName an_DuplicateName cd_DuplicateName ct_DuplicateName), sl_DuplicateName⟩)
    (c_DuplicateName : PySem.W.codeIn K cd_DuplicateName "DuplicateName.__init__" = true)
    (k_DuplicateName : PySem.W.keepIn K (.ref f_DuplicateName) = true)
    (a_UnknownName : PySem.W.nsIn K mainGlobals "UnknownName" = some (some (.ref C_UnknownName)))
    (x_UnknownName : K.lookup C_UnknownName = some (excClassObj nm_UnknownName q_UnknownName C_UnknownName N_UnknownName bs_UnknownName bm_UnknownName true sn_UnknownName sub_UnknownName ab_UnknownName col_UnknownName dd_UnknownName m0_UnknownName m1_UnknownName m2_UnknownName m3_UnknownName m5_UnknownName "ValueError.__new__"))
    (hb_UnknownName : PySem.HandSPX.refsVE bm_UnknownName = true)
    (sa_UnknownName : PySem.W.findIn K (.ref C_UnknownName) "__setattr__" = some (some (.builtin "object.__setattr__")))
    (e_UnknownName : PySem.W.subIn K (.ref C_UnknownName) (.type "BaseException") = some true)
    (tc_UnknownName : PySem.W.typeIn K (.ref C_UnknownName) = some (.type "type"))
    (kc_UnknownName : PySem.W.keepIn K (.ref C_UnknownName) = true)
    (no_UnknownName : PySem.W.findIn K (.ref C_UnknownName) "name" = some none)
    (i_UnknownName : PySem.W.findIn K (.ref C_UnknownName) "__init__" = some (some (.ref f_UnknownName)))
    (ti_UnknownName : PySem.W.typeIn K (.ref f_UnknownName) = some (.type "function"))
    (l_UnknownName : K.lookup f_UnknownName = some ⟨oc_UnknownName, od_UnknownName, .func (PySem.W.fnOf "__init__" "UnknownName.__init__" (defArgs sUnk) (defBody sUnk) (defScope sUnk) .none kV_UnknownName dc_UnknownName pm_UnknownName an_UnknownName cd_UnknownName ct_UnknownName), sl_UnknownName⟩)
    (c_UnknownName : PySem.W.codeIn K cd_UnknownName "UnknownName.__init__" = true)
    (k_UnknownName : PySem.W.keepIn K (.ref f_UnknownName) = true)
    (a_TooMany : PySem.W.nsIn K mainGlobals "TooMany" = some (some (.ref C_TooMany)))
    (x_TooMany : K.lookup C_TooMany = some (excClassObj nm_TooMany q_TooMany C_TooMany N_TooMany bs_TooMany bm_TooMany true sn_TooMany sub_TooMany ab_TooMany col_TooMany dd_TooMany m0_TooMany m1_TooMany m2_TooMany m3_TooMany m5_TooMany "ValueError.__new__"))
    (hb_TooMany : PySem.HandSPX.refsVE bm_TooMany = true)
    (sa_TooMany : PySem.W.findIn K (.ref C_TooMany) "__setattr__" = some (some (.builtin "object.__setattr__")))
    (e_TooMany : PySem.W.subIn K (.ref C_TooMany) (.type "BaseException") = some true)
    (tc_TooMany : PySem.W.typeIn K (.ref C_TooMany) = some (.type "type"))
    (kc_TooMany : PySem.W.keepIn K (.ref C_TooMany) = true)
    (no_TooMany : PySem.W.findIn K (.ref C_TooMany) "limit" = some none)
    (i_TooMany : PySem.W.findIn K (.ref C_TooMany) "__init__" = some (some (.ref f_TooMany)))
    (ti_TooMany : PySem.W.typeIn K (.ref f_TooMany) = some (.type "function"))
    (l_TooMany : K.lookup f_TooMany = some ⟨oc_TooMany, od_TooMany, .func (PySem.W.fnOf "__init__" "TooMany.__init__" (defArgs sMany) (defBody sMany) (defScope sMany) .none kV_TooMany dc_TooMany pm_TooMany an_TooMany cd_TooMany ct_TooMany), sl_TooMany⟩)
    (c_TooMany : PySem.W.codeIn K cd_TooMany "TooMany.__init__" = true)
    (k_TooMany : PySem.W.keepIn K (.ref f_TooMany) = true)
    (a_InvalidNote : PySem.W.nsIn K mainGlobals "InvalidNote" = some (some (.ref C_InvalidNote)))
    (x_InvalidNote : K.lookup C_InvalidNote = some (excClassObj nm_InvalidNote q_InvalidNote C_InvalidNote N_InvalidNote bs_InvalidNote bm_InvalidNote true sn_InvalidNote sub_InvalidNote ab_InvalidNote col_InvalidNote dd_InvalidNote m0_InvalidNote m1_InvalidNote m2_InvalidNote m3_InvalidNote m5_InvalidNote "ValueError.__new__"))
    (hb_InvalidNote : PySem.HandSPX.refsVE bm_InvalidNote = true)
    (sa_InvalidNote : PySem.W.findIn K (.ref C_InvalidNote) "__setattr__" = some (some (.builtin "object.__setattr__")))
    (e_InvalidNote : PySem.W.subIn K (.ref C_InvalidNote) (.type "BaseException") = some true)
    (tc_InvalidNote : PySem.W.typeIn K (.ref C_InvalidNote) = some (.type "type"))
    (kc_InvalidNote : PySem.W.keepIn K (.ref C_InvalidNote) = true)
    (no_InvalidNote : PySem.W.findIn K (.ref C_InvalidNote) "before" = some none)
    (i_InvalidNote : PySem.W.findIn K (.ref C_InvalidNote) "__init__" = some (some (.ref f_InvalidNote)))
    (ti_InvalidNote : PySem.W.typeIn K (.ref f_InvalidNote) = some (.type "function"))
    (l_InvalidNote : K.lookup f_InvalidNote = some ⟨oc_InvalidNote, od_InvalidNote, .func (PySem.W.fnOf "__init__" "InvalidNote.__init__" (defArgs sInvalidNoteInit) (defBody sInvalidNoteInit) (defScope sInvalidNoteInit) .none kV_InvalidNote dc_InvalidNote pm_InvalidNote an_InvalidNote cd_InvalidNote ct_InvalidNote), sl_InvalidNote⟩)
    (c_InvalidNote : PySem.W.codeIn K cd_InvalidNote "InvalidNote.__init__" = true)
    (k_InvalidNote : PySem.W.keepIn K (.ref f_InvalidNote) = true)
    (a_Table : PySem.W.nsIn K mainGlobals "Table" = some (some (.ref C_Table)))
    (pg_Table : PySem.W.plainGet K C_Table Str.empty = true)
    (hd_Table : PySem.W.hasDictIn K C_Table = true)
    (po_Table : PySem.W.plainOver K C_Table = true)
    (sa_Table : PySem.W.findIn K (.ref C_Table) "__setattr__" = some (some (.builtin "object.__setattr__")))
    (mk_Table : PySem.W.makesIn K C_Table = true)
    (kc_Table : PySem.W.keepIn K (.ref C_Table) = true)
    (n_Table_lamps : PySem.W.findIn K (.ref C_Table) "lamps" = some none)
    (n_Table_looks : PySem.W.findIn K (.ref C_Table) "looks" = some none)
    (n_Table__shown : PySem.W.findIn K (.ref C_Table) "_shown" = some none)
    (i_Table_init : PySem.W.findIn K (.ref C_Table) "__init__" = some (some (.ref f_Table_init)))
    (fn_Table_init : PySem.W.isFn K (.ref f_Table_init) = true)
    (l_Table_init : K.lookup f_Table_init = some ⟨oc_Table_init, od_Table_init, .func (PySem.W.fnOf "__init__" "Table.__init__" (defArgs sTabInit) (defBody sTabInit) (defScope sTabInit) .none kV_Table_init dc_Table_init pm_Table_init an_Table_init cd_Table_init ct_Table_init), sl_Table_init⟩)
    (c_Table_init : PySem.W.codeIn K cd_Table_init "Table.__init__" = true)
    (k_Table_init : PySem.W.keepIn K (.ref f_Table_init) = true)
    (i_Table_rows : PySem.W.findIn K (.ref C_Table) "rows" = some (some (.ref f_Table_rows)))
    (fn_Table_rows : PySem.W.isFn K (.ref f_Table_rows) = true)
    (l_Table_rows : K.lookup f_Table_rows = some ⟨oc_Table_rows, od_Table_rows, .func (PySem.W.fnOf "rows" "Table.rows" (defArgs sTableRows) (defBody sTableRows) (defScope sTableRows) .none kV_Table_rows dc_Table_rows pm_Table_rows an_Table_rows cd_Table_rows ct_Table_rows), sl_Table_rows⟩)
    (c_Table_rows : PySem.W.codeIn K cd_Table_rows "Table.rows" = true)
    (k_Table_rows : PySem.W.keepIn K (.ref f_Table_rows) = true)
    (a_Notes : PySem.W.nsIn K mainGlobals "Notes" = some (some (.ref C_Notes)))
    (pg_Notes : PySem.W.plainGet K C_Notes Str.empty = true)
    (hd_Notes : PySem.W.hasDictIn K C_Notes = true)
    (po_Notes : PySem.W.plainOver K C_Notes = true)
    (sa_Notes : PySem.W.findIn K (.ref C_Notes) "__setattr__" = some (some (.builtin "object.__setattr__")))
    (mk_Notes : PySem.W.makesIn K C_Notes = true)
    (kc_Notes : PySem.W.keepIn K (.ref C_Notes) = true)
    (n_Notes_pairs : PySem.W.findIn K (.ref C_Notes) "pairs" = some none)
    (i_Notes_init : PySem.W.findIn K (.ref C_Notes) "__init__" = some (some (.ref f_Notes_init)))
    (fn_Notes_init : PySem.W.isFn K (.ref f_Notes_init) = true)
    (l_Notes_init : K.lookup f_Notes_init = some ⟨oc_Notes_init, od_Notes_init, .func (PySem.W.fnOf "__init__" "Notes.__init__" (defArgs sNotesInit) (defBody sNotesInit) (defScope sNotesInit) .none kV_Notes_init dc_Notes_init pm_Notes_init an_Notes_init cd_Notes_init ct_Notes_init), sl_Notes_init⟩)
    (c_Notes_init : PySem.W.codeIn K cd_Notes_init "Notes.__init__" = true)
    (k_Notes_init : PySem.W.keepIn K (.ref f_Notes_init) = true)
    (i_Notes_add : PySem.W.findIn K (.ref C_Notes) "__add__" = some (some (.ref f_Notes_add)))
    (fn_Notes_add : PySem.W.isFn K (.ref f_Notes_add) = true)
    (l_Notes_add : K.lookup f_Notes_add = some ⟨oc_Notes_add, od_Notes_add, .func (PySem.W.fnOf "__add__" "Notes.__add__" (defArgs sNotesAdd) (defBody sNotesAdd) (defScope sNotesAdd) .none kV_Notes_add dc_Notes_add pm_Notes_add an_Notes_add cd_Notes_add ct_Notes_add), sl_Notes_add⟩)
    (c_Notes_add : PySem.W.codeIn K cd_Notes_add "Notes.__add__" = true)
    (k_Notes_add : PySem.W.keepIn K (.ref f_Notes_add) = true)
    (i_Notes_eq : PySem.W.findIn K (.ref C_Notes) "__eq__" = some (some (.ref f_Notes_eq)))
    (fn_Notes_eq : PySem.W.isFn K (.ref f_Notes_eq) = true)
    (l_Notes_eq : K.lookup f_Notes_eq = some ⟨oc_Notes_eq, od_Notes_eq, .func (PySem.W.fnOf "__eq__" "Notes.__eq__" (defArgs sNotesEq) (defBody sNotesEq) (defScope sNotesEq) .none kV_Notes_eq dc_Notes_eq pm_Notes_eq an_Notes_eq cd_Notes_eq ct_Notes_eq), sl_Notes_eq⟩)
    (c_Notes_eq : PySem.W.codeIn K cd_Notes_eq "Notes.__eq__" = true)
    (k_Notes_eq : PySem.W.keepIn K (.ref f_Notes_eq) = true)
    (a_Arrangement : PySem.W.nsIn K mainGlobals "Arrangement" = some (some (.ref C_Arrangement)))
    (pg_Arrangement : PySem.W.plainGet K C_Arrangement Str.empty = true)
    (hd_Arrangement : PySem.W.hasDictIn K C_Arrangement = true)
    (po_Arrangement : PySem.W.plainOver K C_Arrangement = true)
    (sa_Arrangement : PySem.W.findIn K (.ref C_Arrangement) "__setattr__" = some (some (.builtin "object.__setattr__")))
    (mk_Arrangement : PySem.W.makesIn K C_Arrangement = true)
    (kc_Arrangement : PySem.W.keepIn K (.ref C_Arrangement) = true)
    (n_Arrangement_settings : PySem.W.findIn K (.ref C_Arrangement) "settings" = some none)
    (n_Arrangement_stretches : PySem.W.findIn K (.ref C_Arrangement) "stretches" = some none)
    (i_Arrangement_init : PySem.W.findIn K (.ref C_Arrangement) "__init__" = some (some (.ref f_Arrangement_init)))
    (fn_Arrangement_init : PySem.W.isFn K (.ref f_Arrangement_init) = true)
    (l_Arrangement_init : K.lookup f_Arrangement_init = some ⟨oc_Arrangement_init, od_Arrangement_init, .func (PySem.W.fnOf "__init__" "Arrangement.__init__" (defArgs sArrangementInit) (defBody sArrangementInit) (defScope sArrangementInit) .none kV_Arrangement_init dc_Arrangement_init pm_Arrangement_init an_Arrangement_init cd_Arrangement_init ct_Arrangement_init), sl_Arrangement_init⟩)
    (c_Arrangement_init : PySem.W.codeIn K cd_Arrangement_init "Arrangement.__init__" = true)
    (k_Arrangement_init : PySem.W.keepIn K (.ref f_Arrangement_init) = true)
    (i_Arrangement_call : PySem.W.findIn K (.ref C_Arrangement) "__call__" = some (some (.ref f_Arrangement_call)))
    (fn_Arrangement_call : PySem.W.isFn K (.ref f_Arrangement_call) = true)
    (l_Arrangement_call : K.lookup f_Arrangement_call = some ⟨oc_Arrangement_call, od_Arrangement_call, .func (PySem.W.fnOf "__call__" "Arrangement.__call__" (defArgs sArrangementCall) (defBody sArrangementCall) (defScope sArrangementCall) .none kV_Arrangement_call dc_Arrangement_call pm_Arrangement_call an_Arrangement_call cd_Arrangement_call ct_Arrangement_call), sl_Arrangement_call⟩)
    (c_Arrangement_call : PySem.W.codeIn K cd_Arrangement_call "Arrangement.__call__" = true)
    (k_Arrangement_call : PySem.W.keepIn K (.ref f_Arrangement_call) = true)
    (q_after : PySem.W.findIn K (.ref C_InvalidNote) "after" = some none)
    (q_get : PySem.W.specialIn K (.builtin "object.__class__") "__get__" = some (some (.builtin "getset_descriptor.__get__")))
    (q_takes : PySem.W.takesIn K (.builtin "object.__class__") = some true)
    (q_cls : PySem.W.findIn K (.ref C_Notes) "__class__" = some (some (.builtin "object.__class__")))
    (q_mro : PySem.W.mroIn K C_Notes (.type "object") = some true)
    (q_me : PySem.W.kitOne K (.ref C_Notes) (.ref C_Notes) = some true)
    (q_self : PySem.W.selfFirst K C_Notes = true)
    (q_fi : PySem.W.fnIn K f_Arrangement_call = true)
    (z_len : PySem.W.nsIn K mainGlobals "len" = some none)
    (z_int : PySem.W.nsIn K mainGlobals "int" = some none)
    (z_tuple : PySem.W.nsIn K mainGlobals "tuple" = some none)
    (z_abs : PySem.W.nsIn K mainGlobals "abs" = some none)
    (z_isinstance : PySem.W.nsIn K mainGlobals "isinstance" = some none)
    (z_str : PySem.W.nsIn K mainGlobals "str" = some none)
    (z_all : PySem.W.nsIn K mainGlobals "all" = some none)
    (z_list : PySem.W.nsIn K mainGlobals "list" = some none)
    (z_range : PySem.W.nsIn K mainGlobals "range" = some none)
    (z_enumerate : PySem.W.nsIn K mainGlobals "enumerate" = some none)
    (z_sorted : PySem.W.nsIn K mainGlobals "sorted" = some none)
    (z_set : PySem.W.nsIn K mainGlobals "set" = some none)
    (z_bool : PySem.W.nsIn K mainGlobals "bool" = some none)
    (z_dict : PySem.W.nsIn K mainGlobals "dict" = some none)
    (v_LONGEST : PySem.W.nsIn K mainGlobals "LONGEST" = some (some (.int 12 t_LONGEST)))
    (v_SIGNS : PySem.W.nsIn K mainGlobals "SIGNS" = some (some (.str SG t_SIGNS)))
    (v_LIMIT : PySem.W.nsIn K mainGlobals "LIMIT" = some (some (.int 24 t_LIMIT))) :
    ∃ fd : FuncData, (∀ (s : Shared) (v : Value), BindsTo s fd ⟨[v], []⟩ [("_law_script", v)]) ∧ ∀ base : Heap, K.In base → base.Ns mainGlobals mg → FnOk l.prog w K mg base CX0 10 fa fd ["_law_script"] (spLaw46 K) := by
  have e := hfa.symm.trans (PySem.W.mg_of X G a_law)
  cases e
  have n_len := PySem.W.mg_none_of X G z_len
  have n_int := PySem.W.mg_none_of X G z_int
  have n_tuple := PySem.W.mg_none_of X G z_tuple
  have n_abs := PySem.W.mg_none_of X G z_abs
  have n_isinstance := PySem.W.mg_none_of X G z_isinstance
  have n_str := PySem.W.mg_none_of X G z_str
  have n_all := PySem.W.mg_none_of X G z_all
  have n_list := PySem.W.mg_none_of X G z_list
  have n_range := PySem.W.mg_none_of X G z_range
  have n_enumerate := PySem.W.mg_none_of X G z_enumerate
  have n_sorted := PySem.W.mg_none_of X G z_sorted
  have n_set := PySem.W.mg_none_of X G z_set
  have n_bool := PySem.W.mg_none_of X G z_bool
  have n_dict := PySem.W.mg_none_of X G z_dict
  have TB : TxtB mg := ⟨n_len, n_int, n_abs⟩
  have TN : TxtN mg := ⟨n_isinstance, n_str, n_len, n_all, ⟨_, PySem.W.mg_of X G v_LONGEST⟩, ⟨_, PySem.W.mg_of X G v_SIGNS⟩⟩
  have TM : TxtM mg := ⟨n_range, n_len, n_str⟩
  have TR : TxtR mg := ⟨n_range, n_len, n_list⟩
  have TS : TxtS mg := ⟨n_isinstance, n_bool, n_int, n_tuple, n_list, n_len⟩
  have TL28 : TxtL28 mg := ⟨n_isinstance, n_bool, n_int, n_tuple, n_list, n_len, n_range, n_set, n_sorted, n_str⟩
  have TL : TxtL46 mg := ⟨n_list, n_dict⟩
  have cl : Cls K C_Table := ⟨pg_Table, hd_Table, po_Table, sa_Table⟩
  have clA : Cls K C_Arrangement := ⟨pg_Arrangement, hd_Arrangement, po_Arrangement, sa_Arrangement⟩
  have TAr : TxtA K mg C_Arrangement := ⟨clA, n_Arrangement_settings, n_Arrangement_stretches, PySem.W.mg_of X G a_Arrangement, n_dict, n_tuple, n_sorted, n_isinstance⟩
  have clN : Cls K C_Notes := ⟨pg_Notes, hd_Notes, po_Notes, sa_Notes⟩
  have ic : C8.InsC K C_Notes := ⟨clN, q_cls, q_get, q_takes, q_mro, q_me⟩
  have TT : TxtT K mg C_Table := ⟨cl, n_Table_lamps, n_Table_looks, n_Table__shown, n_len, n_tuple, ⟨_, PySem.W.mg_of X G v_LIMIT⟩⟩
  have TNo : TxtNotes K mg C_Notes := ⟨clN, n_Notes_pairs, n_tuple, n_sorted, n_set⟩
  have E_N : ErrN K mg C_InvalidNote f_InvalidNote := ⟨⟨⟨_, _, _, _, _, _, _, _, _, _, _, _, _, _, _, x_InvalidNote, hb_InvalidNote⟩, sa_InvalidNote, e_InvalidNote, tc_InvalidNote, kc_InvalidNote⟩, PySem.W.mg_of X G a_InvalidNote, i_InvalidNote, ti_InvalidNote, no_InvalidNote, q_after⟩
  have E_InvalidName : ErrC K mg "InvalidName" "name" C_InvalidName f_InvalidName := ⟨⟨⟨_, _, _, _, _, _, _, _, _, _, _, _, _, _, _, x_InvalidName, hb_InvalidName⟩, sa_InvalidName, e_InvalidName, tc_InvalidName, kc_InvalidName⟩, PySem.W.mg_of X G a_InvalidName, i_InvalidName, ti_InvalidName, no_InvalidName⟩
  have E_DuplicateName : ErrC K mg "DuplicateName" "name" C_DuplicateName f_DuplicateName := ⟨⟨⟨_, _, _, _, _, _, _, _, _, _, _, _, _, _, _, x_DuplicateName, hb_DuplicateName⟩, sa_DuplicateName, e_DuplicateName, tc_DuplicateName, kc_DuplicateName⟩, PySem.W.mg_of X G a_DuplicateName, i_DuplicateName, ti_DuplicateName, no_DuplicateName⟩
  have E_UnknownName : ErrC K mg "UnknownName" "name" C_UnknownName f_UnknownName := ⟨⟨⟨_, _, _, _, _, _, _, _, _, _, _, _, _, _, _, x_UnknownName, hb_UnknownName⟩, sa_UnknownName, e_UnknownName, tc_UnknownName, kc_UnknownName⟩, PySem.W.mg_of X G a_UnknownName, i_UnknownName, ti_UnknownName, no_UnknownName⟩
  have E_TooMany : ErrC K mg "TooMany" "limit" C_TooMany f_TooMany := ⟨⟨⟨_, _, _, _, _, _, _, _, _, _, _, _, _, _, _, x_TooMany, hb_TooMany⟩, sa_TooMany, e_TooMany, tc_TooMany, kc_TooMany⟩, PySem.W.mg_of X G a_TooMany, i_TooMany, ti_TooMany, no_TooMany⟩
  let cs : Cs := ⟨C_InvalidName, C_DuplicateName, C_UnknownName, C_TooMany⟩
  have F_InvalidName := fun_mk (st := sInv) l_InvalidName c_InvalidName k_InvalidName
  have b_InvalidName := F_InvalidName.binds (ps := ["self", "name"]) fun _ _ _ _ _ _ us hl => match us, hl with | [_, _], _ => rfl
  have F_DuplicateName := fun_mk (st := sDup) l_DuplicateName c_DuplicateName k_DuplicateName
  have b_DuplicateName := F_DuplicateName.binds (ps := ["self", "name"]) fun _ _ _ _ _ _ us hl => match us, hl with | [_, _], _ => rfl
  have F_UnknownName := fun_mk (st := sUnk) l_UnknownName c_UnknownName k_UnknownName
  have b_UnknownName := F_UnknownName.binds (ps := ["self", "name"]) fun _ _ _ _ _ _ us hl => match us, hl with | [_, _], _ => rfl
  have F_TooMany := fun_mk (st := sMany) l_TooMany c_TooMany k_TooMany
  have b_TooMany := F_TooMany.binds (ps := ["self", "limit"]) fun _ _ _ _ _ _ us hl => match us, hl with | [_, _], _ => rfl
  have F_InvalidNote := fun_mk (st := sInvalidNoteInit) l_InvalidNote c_InvalidNote k_InvalidNote
  have b_InvalidNote := F_InvalidNote.binds (ps := ["self", "before", "after"]) fun _ _ _ _ _ _ us hl => match us, hl with | [_, _, _], _ => rfl
  have F_is_name := fun_mk (st := sIsName) l_is_name c_is_name k_is_name
  have b_is_name := F_is_name.binds (ps := ["value"]) fun _ _ _ _ _ _ us hl => match us, hl with | [_], _ => rfl
  have F_check_name := fun_mk (st := sCheckName) l_check_name c_check_name k_check_name
  have b_check_name := F_check_name.binds (ps := ["name"]) fun _ _ _ _ _ _ us hl => match us, hl with | [_], _ => rfl
  have F_check_new := fun_mk (st := sCheckNew) l_check_new c_check_new k_check_new
  have b_check_new := F_check_new.binds (ps := ["name", "earlier"]) fun _ _ _ _ _ _ us hl => match us, hl with | [_, _], _ => rfl
  have F_check_known := fun_mk (st := sCheckKnown) l_check_known c_check_known k_check_known
  have b_check_known := F_check_known.binds (ps := ["name", "names"]) fun _ _ _ _ _ _ us hl => match us, hl with | [_, _], _ => rfl
  have F_distinct_names := fun_mk (st := sDistinct) l_distinct_names c_distinct_names k_distinct_names
  have b_distinct_names := F_distinct_names.binds (ps := ["names"]) fun _ _ _ _ _ _ us hl => match us, hl with | [_], _ => rfl
  have F_pairs_in := fun_mk (st := sPairsIn) l_pairs_in c_pairs_in k_pairs_in
  have b_pairs_in := F_pairs_in.binds (ps := ["notes"]) fun _ _ _ _ _ _ us hl => match us, hl with | [_], _ => rfl
  have F_arrangement_holds := fun_mk (st := sArrangementHolds) l_arrangement_holds c_arrangement_holds k_arrangement_holds
  have b_arrangement_holds := F_arrangement_holds.binds (ps := ["table", "notes", "arrangement"]) fun _ _ _ _ _ _ us hl => match us, hl with | [_, _, _], _ => rfl
  have F_ascend := fun_mk (st := sAscend) l_ascend c_ascend k_ascend
  have b_ascend := F_ascend.binds (ps := ["place", "notes"]) fun _ _ _ _ _ _ us hl => match us, hl with | [_, _], _ => rfl
  have F_contains := fun_mk (st := sContains) l_contains c_contains k_contains
  have b_contains := F_contains.binds (ps := ["stretch", "setting"]) fun _ _ _ _ _ _ us hl => match us, hl with | [_, _], _ => rfl
  have F_check_shown := fun_mk (st := sCheckShown) l_check_shown c_check_shown k_check_shown
  have b_check_shown := F_check_shown.binds (ps := ["shown", "lamps"]) fun _ _ _ _ _ _ us hl => match us, hl with | [_, _], _ => rfl
  have F_chosen_of := fun_mk (st := sChosen) l_chosen_of c_chosen_of k_chosen_of
  have b_chosen_of := F_chosen_of.binds (ps := ["names", "chosen"]) fun _ _ _ _ _ _ us hl => match us, hl with | [_, _], _ => rfl
  have F_law_bag := fun_mk (st := sBag) l_law_bag c_law_bag k_law_bag
  have b_law_bag := F_law_bag.binds (ps := ["_law_script"]) fun _ _ _ _ _ _ us hl => match us, hl with | [_], _ => rfl
  have F_law_take := fun_mk (st := sTake) l_law_take c_law_take k_law_take
  have b_law_take := F_law_take.binds (ps := ["_law_bag_here", "_law_size"]) fun _ _ _ _ _ _ us hl => match us, hl with | [_, _], _ => rfl
  have F_law_is := fun_mk (st := sLawIs) l_law_is c_law_is k_law_is
  have b_law_is := F_law_is.binds (ps := ["_law_value", "_law_due"]) fun _ _ _ _ _ _ us hl => match us, hl with | [_, _], _ => rfl
  have F_law_name := fun_mk (st := sLawName) l_law_name c_law_name k_law_name
  have b_law_name := F_law_name.binds (ps := ["_law_bag_here", "_law_used"]) fun _ _ _ _ _ _ us hl => match us, hl with | [_, _], _ => rfl
  have F_law_names := fun_mk (st := sLawNames) l_law_names c_law_names k_law_names
  have b_law_names := F_law_names.binds (ps := ["_law_bag_here", "_law_count"]) fun _ _ _ _ _ _ us hl => match us, hl with | [_, _], _ => rfl
  have F_law_flipped := fun_mk (st := sLawFlipped) l_law_flipped c_law_flipped k_law_flipped
  have b_law_flipped := F_law_flipped.binds (ps := ["_law_bag_here", "_law_lamps", "_law_rows"]) fun _ _ _ _ _ _ us hl => match us, hl with | [_, _, _], _ => rfl
  have F_law_given := fun_mk (st := sLawGiven) l_law_given c_law_given k_law_given
  have b_law_given := F_law_given.binds (ps := ["_law_rows", "_law_way"]) fun _ _ _ _ _ _ us hl => match us, hl with | [_, _], _ => rfl
  have F_law_pairs := fun_mk (st := sLawPairs) l_law_pairs c_law_pairs k_law_pairs
  have b_law_pairs := F_law_pairs.binds (ps := ["_law_bag_here", "_law_looks", "_law_count"]) fun _ _ _ _ _ _ us hl => match us, hl with | [_, _, _], _ => rfl
  have F_law_notes := fun_mk (st := sLawNotes) l_law_notes c_law_notes k_law_notes
  have b_law_notes := F_law_notes.binds (ps := ["_law_pairs_here"]) fun _ _ _ _ _ _ us hl => match us, hl with | [_], _ => rfl
  have F_law_glowing := fun_mk (st := sLawGlowing) l_law_glowing c_law_glowing k_law_glowing
  have b_law_glowing := F_law_glowing.binds (ps := ["_law_lamps", "_law_stretches", "_law_setting"]) fun _ _ _ _ _ _ us hl => match us, hl with | [_, _, _], _ => rfl
  have F_law_drawn_settings := fun_mk (st := sLawDrawnSettings) l_law_drawn_settings c_law_drawn_settings k_law_drawn_settings
  have b_law_drawn_settings := F_law_drawn_settings.binds (ps := ["_law_bag_here", "_law_looks"]) fun _ _ _ _ _ _ us hl => match us, hl with | [_, _], _ => rfl
  have F_law_drawn_stretches := fun_mk (st := sLawDrawnStretches) l_law_drawn_stretches c_law_drawn_stretches k_law_drawn_stretches
  have b_law_drawn_stretches := F_law_drawn_stretches.binds (ps := ["_law_bag_here", "_law_lamps"]) fun _ _ _ _ _ _ us hl => match us, hl with | [_, _], _ => rfl
  have F_law_due_holds := fun_mk (st := sLawDueHolds) l_law_due_holds c_law_due_holds k_law_due_holds
  have b_law_due_holds := F_law_due_holds.binds (ps := ["_law_lamps", "_law_rows", "_law_pairs_here", "_law_settings", "_law_stretches"]) fun _ _ _ _ _ _ us hl => match us, hl with | [_, _, _, _, _], _ => rfl
  have F_law_bend := fun_mk (st := sLawBend) l_law_bend c_law_bend k_law_bend
  have b_law_bend := F_law_bend.binds (ps := ["_law_bag_here", "_law_settings", "_law_stretches"]) fun _ _ _ _ _ _ us hl => match us, hl with | [_, _, _], _ => rfl
  have F_Table_init := fun_mk (st := sTabInit) l_Table_init c_Table_init k_Table_init
  have b_Table_init := F_Table_init.binds (ps := ["self", "lamps", "looks"]) fun _ _ _ _ _ _ us hl => match us, hl with | [_, _, _], _ => rfl
  have F_Table_rows := fun_mk (st := sTableRows) l_Table_rows c_Table_rows k_Table_rows
  have b_Table_rows := F_Table_rows.binds (ps := ["self"]) fun _ _ _ _ _ _ us hl => match us, hl with | [_], _ => rfl
  have F_Notes_init := fun_mk (st := sNotesInit) l_Notes_init c_Notes_init k_Notes_init
  have F_Notes_add := fun_mk (st := sNotesAdd) l_Notes_add c_Notes_add k_Notes_add
  have b_Notes_add := F_Notes_add.binds (ps := ["self", "other"]) fun _ _ _ _ _ _ us hl => match us, hl with | [_, _], _ => rfl
  have F_Notes_eq := fun_mk (st := sNotesEq) l_Notes_eq c_Notes_eq k_Notes_eq
  have b_Notes_eq := F_Notes_eq.binds (ps := ["self", "other"]) fun _ _ _ _ _ _ us hl => match us, hl with | [_, _], _ => rfl
  have F_Arrangement_init := fun_mk (st := sArrangementInit) l_Arrangement_init c_Arrangement_init k_Arrangement_init
  have b_Arrangement_init := F_Arrangement_init.binds (ps := ["self", "settings", "stretches"]) fun _ _ _ _ _ _ us hl => match us, hl with | [_, _, _], _ => rfl
  have F_Arrangement_call := fun_mk (st := sArrangementCall) l_Arrangement_call c_Arrangement_call k_Arrangement_call
  have b_Arrangement_call := F_Arrangement_call.binds (ps := ["self", "setting"]) fun _ _ _ _ _ _ us hl => match us, hl with | [_, _], _ => rfl
  have mT := PySem.W.mg_of X G a_Table
  have mN := PySem.W.mg_of X G a_Notes
  have main : ∀ base : Heap, NoteOps l.prog w K mg base C_Notes C_InvalidName C_InvalidNote := fun base => by
    have xI : Ex l.prog w K mg base "InvalidName" "name" cs.inv := ⟨_, _, E_InvalidName, b_InvalidName, ok_einv F_InvalidName E_InvalidName⟩
    have xD : Ex l.prog w K mg base "DuplicateName" "name" cs.dup := ⟨_, _, E_DuplicateName, b_DuplicateName, ok_edup F_DuplicateName E_DuplicateName⟩
    have xU : Ex l.prog w K mg base "UnknownName" "name" cs.unk := ⟨_, _, E_UnknownName, b_UnknownName, ok_eunk F_UnknownName E_UnknownName⟩
    have xM : Ex l.prog w K mg base "TooMany" "limit" cs.many := ⟨_, _, E_TooMany, b_TooMany, ok_emany F_TooMany E_TooMany⟩
    have gN : Dfn l.prog w K mg base CX0 1 "is_name" ["value"] (spIsName K) := ⟨_, _, PySem.W.mg_of X G a_is_name, F_is_name.kp, b_is_name, ok_isname F_is_name TN⟩
    have gCN : Dfn l.prog w K mg base (L2.CX l.prog w) 3 "check_name" ["name"] (spCheckName cs) := ⟨_, _, PySem.W.mg_of X G a_check_name, F_check_name.kp, b_check_name, ok_checkname F_check_name gN xI⟩
    have xN : NoteX l.prog w K mg base C_InvalidNote := ⟨_, _, E_N, b_InvalidNote, ok_enote F_InvalidNote E_N⟩
    have gCN1 : Dfn l.prog w K mg base (L2.CX l.prog w) 3 "check_name" ["name"] (spCheckName1 C_InvalidName) := ⟨_, _, PySem.W.mg_of X G a_check_name, F_check_name.kp, b_check_name, check1 (C := cs) (ok_checkname F_check_name gN xI)⟩
    have TM0 : NoteM l.prog w K mg base C_Notes C_InvalidName C_InvalidNote := ⟨clN, n_Notes_pairs, mN, _, ⟨mk_Notes, i_Notes_init, fn_Notes_init, kc_Notes⟩, ok_notes F_Notes_init TNo gCN1 xN⟩
    exact ⟨TM0, q_self, ⟨_, _, i_Notes_add, fn_Notes_add, b_Notes_add, ok_nadd F_Notes_add TM0⟩, ⟨_, _, i_Notes_eq, fn_Notes_eq, b_Notes_eq, ok_neq F_Notes_eq TM0 n_isinstance ic⟩⟩
  have mainA : ∀ base : Heap, ArrM l.prog w K mg base C_Arrangement := fun base => ⟨TAr, _, _, ⟨mk_Arrangement, i_Arrangement_init, fn_Arrangement_init, kc_Arrangement⟩, ok_arrinit F_Arrangement_init TAr, b_Arrangement_init⟩
  refine ⟨_, fun s v => .of_eq rfl, fun base _ _ => ok_law46 (C := cs) (CT := C_Table) (CI := C_InvalidName) (CE := C_InvalidNote) (CA := C_Arrangement) (fun_mk (st := sLaw) l_law c_law k_law) TL mT (main base) (mainA base) ?_ ?_ ?_ ?_ ?_ ?_ ?_ ?_ ?_ ?_ ?_ ?_ ?_ ?_ ?_⟩
  · have xI : Ex l.prog w K mg base "InvalidName" "name" cs.inv := ⟨_, _, E_InvalidName, b_InvalidName, ok_einv F_InvalidName E_InvalidName⟩
    have xD : Ex l.prog w K mg base "DuplicateName" "name" cs.dup := ⟨_, _, E_DuplicateName, b_DuplicateName, ok_edup F_DuplicateName E_DuplicateName⟩
    have xU : Ex l.prog w K mg base "UnknownName" "name" cs.unk := ⟨_, _, E_UnknownName, b_UnknownName, ok_eunk F_UnknownName E_UnknownName⟩
    have xM : Ex l.prog w K mg base "TooMany" "limit" cs.many := ⟨_, _, E_TooMany, b_TooMany, ok_emany F_TooMany E_TooMany⟩
    have gN : Dfn l.prog w K mg base CX0 1 "is_name" ["value"] (spIsName K) := ⟨_, _, PySem.W.mg_of X G a_is_name, F_is_name.kp, b_is_name, ok_isname F_is_name TN⟩
    have gCN : Dfn l.prog w K mg base (L2.CX l.prog w) 3 "check_name" ["name"] (spCheckName cs) := ⟨_, _, PySem.W.mg_of X G a_check_name, F_check_name.kp, b_check_name, ok_checkname F_check_name gN xI⟩
    have gNL : Dfn l.prog w K mg base (L2.CX l.prog w) 4 "check_new" ["name", "earlier"] (spNewL K cs) := ⟨_, _, PySem.W.mg_of X G a_check_new, F_check_new.kp, b_check_new, ok_newL F_check_new gCN xD⟩
    have gND : Dfn l.prog w K mg base (L2.CX l.prog w) 4 "check_new" ["name", "earlier"] (spNewD K cs) := ⟨_, _, PySem.W.mg_of X G a_check_new, F_check_new.kp, b_check_new, ok_newD F_check_new gCN xD⟩
    have gK : Dfn l.prog w K mg base (L2.CX l.prog w) 4 "check_known" ["name", "names"] (spKnown K cs) := ⟨_, _, PySem.W.mg_of X G a_check_known, F_check_known.kp, b_check_known, ok_known F_check_known TN xU⟩
    have gD : Dfn l.prog w K mg base (L2.CX l.prog w) 6 "distinct_names" ["names"] (spDistinct K cs) := ⟨_, _, PySem.W.mg_of X G a_distinct_names, F_distinct_names.kp, b_distinct_names, ok_distinct F_distinct_names n_tuple gNL⟩
    have gS : Dfn l.prog w K mg base (L2.CX l.prog w) 6 "_check_shown" ["shown", "lamps"] (spShown2 K cs) := ⟨_, _, PySem.W.mg_of X G a_check_shown, F_check_shown.kp, b_check_shown, ok_shown2 F_check_shown n_enumerate gK xD⟩
    have gC : Dfn l.prog w K mg base CX0 1 "_chosen_of" ["names", "chosen"] (spChosen K) := ⟨_, _, PySem.W.mg_of X G a_chosen_of, F_chosen_of.kp, b_chosen_of, ok_chosen F_chosen_of n_tuple⟩
    have ini : ∃ fT fdT, Mk K C_Table fT ∧ Binds K fdT ["self", "lamps", "looks"] [] ∧ FnOk l.prog w K mg base (L2.CX l.prog w) 8 fT fdT ["self", "lamps", "looks"] (spTabInit2 K C_Table cs) := ⟨_, _, ⟨mk_Table, i_Table_init, fn_Table_init, kc_Table⟩, b_Table_init, ok_tabinit2 F_Table_init TT xM gD gND gS gC⟩
    exact ini
  · exact ⟨_, _, PySem.W.mg_of X G a_law_bag, F_law_bag.kp, b_law_bag, ok_bag F_law_bag TB⟩
  · exact ⟨_, _, PySem.W.mg_of X G a_law_take, F_law_take.kp, b_law_take, ok_take F_law_take TB⟩
  · have gT : Dfn l.prog w K mg base CX0 1 "_law_take" ["_law_bag_here", "_law_size"] spTake := ⟨_, _, PySem.W.mg_of X G a_law_take, F_law_take.kp, b_law_take, ok_take F_law_take TB⟩
    have g1 : Dfn l.prog w K mg base CX0 2 "_law_name" ["_law_bag_here", "_law_used"] spName := ⟨_, _, PySem.W.mg_of X G a_law_name, F_law_name.kp, b_law_name, ok_name F_law_name TM gT⟩
    exact ⟨_, _, PySem.W.mg_of X G a_law_names, F_law_names.kp, b_law_names, ok_names F_law_names TM g1⟩
  · have gT : Dfn l.prog w K mg base CX0 1 "_law_take" ["_law_bag_here", "_law_size"] spTake := ⟨_, _, PySem.W.mg_of X G a_law_take, F_law_take.kp, b_law_take, ok_take F_law_take TB⟩
    exact ⟨_, _, PySem.W.mg_of X G a_law_flipped, F_law_flipped.kp, b_law_flipped, ok_flip F_law_flipped TR gT⟩
  · exact ⟨_, _, PySem.W.mg_of X G a_law_given, F_law_given.kp, b_law_given, ok_given F_law_given TR⟩
  · have gT : Dfn l.prog w K mg base CX0 1 "_law_take" ["_law_bag_here", "_law_size"] spTake := ⟨_, _, PySem.W.mg_of X G a_law_take, F_law_take.kp, b_law_take, ok_take F_law_take TB⟩
    exact ⟨_, _, PySem.W.mg_of X G a_law_pairs, F_law_pairs.kp, b_law_pairs, ok_pairsA F_law_pairs TL28 gT⟩
  · have gT : Dfn l.prog w K mg base CX0 1 "_law_take" ["_law_bag_here", "_law_size"] spTake := ⟨_, _, PySem.W.mg_of X G a_law_take, F_law_take.kp, b_law_take, ok_take F_law_take TB⟩
    exact ⟨_, _, PySem.W.mg_of X G a_law_drawn_settings, F_law_drawn_settings.kp, b_law_drawn_settings, ok_dsets F_law_drawn_settings gT⟩
  · have gT : Dfn l.prog w K mg base CX0 1 "_law_take" ["_law_bag_here", "_law_size"] spTake := ⟨_, _, PySem.W.mg_of X G a_law_take, F_law_take.kp, b_law_take, ok_take F_law_take TB⟩
    exact ⟨_, _, PySem.W.mg_of X G a_law_drawn_stretches, F_law_drawn_stretches.kp, b_law_drawn_stretches, ok_dstrs F_law_drawn_stretches gT⟩
  · exact ⟨_, _, PySem.W.mg_of X G a_law_glowing, F_law_glowing.kp, b_law_glowing, ok_glowing F_law_glowing TAr⟩
  · have gT : Dfn l.prog w K mg base CX0 1 "_law_take" ["_law_bag_here", "_law_size"] spTake := ⟨_, _, PySem.W.mg_of X G a_law_take, F_law_take.kp, b_law_take, ok_take F_law_take TB⟩
    exact ⟨_, _, PySem.W.mg_of X G a_law_bend, F_law_bend.kp, b_law_bend, ok_bend F_law_bend ⟨n_list, n_len⟩ gT⟩
  · have gGl : Dfn l.prog w K mg base CX0 1 "_law_glowing" ["_law_lamps", "_law_stretches", "_law_setting"] (spGlowing K) := ⟨_, _, PySem.W.mg_of X G a_law_glowing, F_law_glowing.kp, b_law_glowing, ok_glowing F_law_glowing TAr⟩
    exact ⟨_, _, PySem.W.mg_of X G a_law_due_holds, F_law_due_holds.kp, b_law_due_holds, ok_dueA F_law_due_holds ⟨n_list, n_sorted, n_tuple⟩ gGl⟩
  · exact ⟨_, _, PySem.W.mg_of X G a_law_notes, F_law_notes.kp, b_law_notes, ok_lnotes F_law_notes (main base)⟩
  · exact ⟨_, _, PySem.W.mg_of X G a_law_is, F_law_is.kp, b_law_is, ok_is F_law_is TS⟩
  · have hRo : ∃ fR dR, Meth K C_Table "rows" fR ∧ Binds K dR ["self"] [] ∧ FnOk l.prog w K mg base CX0 1 fR dR ["self"] (spTRows K C_Table) := ⟨_, _, ⟨i_Table_rows, fn_Table_rows, F_Table_rows.kp⟩, b_Table_rows, ok_trows F_Table_rows cl n_Table_looks n_Table__shown⟩
    have oC : ∃ g dC, StX.CallO K C_Arrangement g ∧ Binds K dC ["self", "setting"] [] ∧ FnOk l.prog w K mg base CX0 2 g dC ["self", "setting"] (spArrCall K C_Arrangement) := ⟨_, _, ⟨i_Arrangement_call, fn_Arrangement_call, q_fi⟩, b_Arrangement_call, ok_arrcall F_Arrangement_call TAr ⟨_, _, PySem.W.mg_of X G a_contains, F_contains.kp, b_contains, ok_contains F_contains⟩⟩
    have gPI : Dfn l.prog w K mg base CX0 1 "pairs_in" ["notes"] (spPairsIn K C_Notes) := ⟨_, _, PySem.W.mg_of X G a_pairs_in, F_pairs_in.kp, b_pairs_in, ok_pairsin F_pairs_in (main base).toNoteM⟩
    have gAs : Dfn l.prog w K mg base CX0 2 "_ascend" ["place", "notes"] (spAscendA K C_Notes) := ⟨_, _, PySem.W.mg_of X G a_ascend, F_ascend.kp, b_ascend, ok_ascendA F_ascend n_all gPI⟩
    exact ⟨_, _, PySem.W.mg_of X G a_arrangement_holds, F_arrangement_holds.kp, b_arrangement_holds, ok_arrholds F_arrangement_holds ⟨n_all, n_sorted, n_tuple⟩ TAr cl n_Table_looks n_Table_lamps hRo oC gAs⟩
theorem walk {l : PySem.W.OpenLaw} {q : Program} {loose : List Str} {XP : (Str → Option Value) → Heap → Prop} {YP : World → Heap → Prop} {d : DefRec} {K : Params → PySem.W.Frag} (hn : l.most = some 63) (hdf : d.params.defaults = [])
    (hY : ∀ (w : World) (h : Heap), YP w h → (K w.params).In h)
    (F : ∀ (w : World) (mg : Str → Option Value) (fa : Addr) (h : Heap), (K w.params).In h → h.Ns mainGlobals mg → mg d.name = some (.ref fa) →
      ∃ fd : FuncData, (∀ (s : Shared) (u : Value), BindsTo s fd ⟨[u], []⟩ [("_law_script", u)]) ∧ ∀ base : Heap, (K w.params).In base → base.Ns mainGlobals mg → FnOk l.prog w (K w.params) mg base CX0 10 fa fd ["_law_script"] (spLaw46 (K w.params))) :
    PySem.W.WalkO q loose XP YP l.row.toRowW d [] (fun f vs => PySem.call f vs) :=
  walk_of (n := 63) (k := 10) (x := "_law_script") (CX := fun _ => CX0) (sp := fun w => spLaw46 (K w.params)) hn (by decide) hdf ⟨rfl, by decide, by decide⟩ hY F
    (fun _ _ a ns hl _ hS => ⟨a, ns, rfl, hS, hl, fun _ => rfl⟩) fun _ _ _ _ _ z => z
end Dl

open PySem PySem.W PyProof.Rows in
set_option maxRecDepth 100000 in
set_option maxHeartbeats 0 in
theorem PySem.Challenge.cw_dimmerlog_k46_checked_arrangements_holds : PySem.Challenge.rw_dimmerlog_k46_checked_arrangements.Holds := by
  w_on; o_law; k_head; (case hw => w_witness2)
  k_fill
  refine Dl.walk (l := PySem.Challenge.rw_dimmerlog_k46_checked_arrangements) rfl rfl (fun w h Y => PySem.W.kIn_of Y) ?F
  case F =>
    intro w mg fa h KX G hmg
    refine' Dl.all_mk KX G hmg ?a_is_name ?l_is_name ?c_is_name ?k_is_name ?a_check_name ?l_check_name ?c_check_name ?k_check_name ?a_check_new ?l_check_new ?c_check_new ?k_check_new ?a_check_known ?l_check_known ?c_check_known ?k_check_known ?a_distinct_names ?l_distinct_names ?c_distinct_names ?k_distinct_names ?a_pairs_in ?l_pairs_in ?c_pairs_in ?k_pairs_in ?a_arrangement_holds ?l_arrangement_holds ?c_arrangement_holds ?k_arrangement_holds ?a_ascend ?l_ascend ?c_ascend ?k_ascend ?a_contains ?l_contains ?c_contains ?k_contains ?a_check_shown ?l_check_shown ?c_check_shown ?k_check_shown ?a_chosen_of ?l_chosen_of ?c_chosen_of ?k_chosen_of ?a_law_bag ?l_law_bag ?c_law_bag ?k_law_bag ?a_law_take ?l_law_take ?c_law_take ?k_law_take ?a_law_is ?l_law_is ?c_law_is ?k_law_is ?a_law_name ?l_law_name ?c_law_name ?k_law_name ?a_law_names ?l_law_names ?c_law_names ?k_law_names ?a_law_flipped ?l_law_flipped ?c_law_flipped ?k_law_flipped ?a_law_given ?l_law_given ?c_law_given ?k_law_given ?a_law_pairs ?l_law_pairs ?c_law_pairs ?k_law_pairs ?a_law_notes ?l_law_notes ?c_law_notes ?k_law_notes ?a_law_glowing ?l_law_glowing ?c_law_glowing ?k_law_glowing ?a_law_drawn_settings ?l_law_drawn_settings ?c_law_drawn_settings ?k_law_drawn_settings ?a_law_drawn_stretches ?l_law_drawn_stretches ?c_law_drawn_stretches ?k_law_drawn_stretches ?a_law_due_holds ?l_law_due_holds ?c_law_due_holds ?k_law_due_holds ?a_law_bend ?l_law_bend ?c_law_bend ?k_law_bend ?a_law ?l_law ?c_law ?k_law ?a_InvalidName ?x_InvalidName ?hb_InvalidName ?sa_InvalidName ?e_InvalidName ?tc_InvalidName ?kc_InvalidName ?no_InvalidName ?i_InvalidName ?ti_InvalidName ?l_InvalidName ?c_InvalidName ?k_InvalidName ?a_DuplicateName ?x_DuplicateName ?hb_DuplicateName ?sa_DuplicateName ?e_DuplicateName ?tc_DuplicateName ?kc_DuplicateName ?no_DuplicateName ?i_DuplicateName ?ti_DuplicateName ?l_DuplicateName ?c_DuplicateName ?k_DuplicateName ?a_UnknownName ?x_UnknownName ?hb_UnknownName ?sa_UnknownName ?e_UnknownName ?tc_UnknownName ?kc_UnknownName ?no_UnknownName ?i_UnknownName ?ti_UnknownName ?l_UnknownName ?c_UnknownName ?k_UnknownName ?a_TooMany ?x_TooMany ?hb_TooMany ?sa_TooMany ?e_TooMany ?tc_TooMany ?kc_TooMany ?no_TooMany ?i_TooMany ?ti_TooMany ?l_TooMany ?c_TooMany ?k_TooMany ?a_InvalidNote ?x_InvalidNote ?hb_InvalidNote ?sa_InvalidNote ?e_InvalidNote ?tc_InvalidNote ?kc_InvalidNote ?no_InvalidNote ?i_InvalidNote ?ti_InvalidNote ?l_InvalidNote ?c_InvalidNote ?k_InvalidNote ?a_Table ?pg_Table ?hd_Table ?po_Table ?sa_Table ?mk_Table ?kc_Table ?n_Table_lamps ?n_Table_looks ?n_Table__shown ?i_Table_init ?fn_Table_init ?l_Table_init ?c_Table_init ?k_Table_init ?i_Table_rows ?fn_Table_rows ?l_Table_rows ?c_Table_rows ?k_Table_rows ?a_Notes ?pg_Notes ?hd_Notes ?po_Notes ?sa_Notes ?mk_Notes ?kc_Notes ?n_Notes_pairs ?i_Notes_init ?fn_Notes_init ?l_Notes_init ?c_Notes_init ?k_Notes_init ?i_Notes_add ?fn_Notes_add ?l_Notes_add ?c_Notes_add ?k_Notes_add ?i_Notes_eq ?fn_Notes_eq ?l_Notes_eq ?c_Notes_eq ?k_Notes_eq ?a_Arrangement ?pg_Arrangement ?hd_Arrangement ?po_Arrangement ?sa_Arrangement ?mk_Arrangement ?kc_Arrangement ?n_Arrangement_settings ?n_Arrangement_stretches ?i_Arrangement_init ?fn_Arrangement_init ?l_Arrangement_init ?c_Arrangement_init ?k_Arrangement_init ?i_Arrangement_call ?fn_Arrangement_call ?l_Arrangement_call ?c_Arrangement_call ?k_Arrangement_call ?q_after ?q_get ?q_takes ?q_cls ?q_mro ?q_me ?q_self ?q_fi ?z_len ?z_int ?z_tuple ?z_abs ?z_isinstance ?z_str ?z_all ?z_list ?z_range ?z_enumerate ?z_sorted ?z_set ?z_bool ?z_dict ?v_LONGEST ?v_SIGNS ?v_LIMIT
    (case a_is_name => k_is)
    (case l_is_name => k_is)
    (case c_is_name => k_is)
    (case k_is_name => k_is)
    (case a_check_name => k_is)
    (case l_check_name => k_is)
    (case c_check_name => k_is)
    (case k_check_name => k_is)
    (case a_check_new => k_is)
    (case l_check_new => k_is)
    (case c_check_new => k_is)
    (case k_check_new => k_is)
    (case a_check_known => k_is)
    (case l_check_known => k_is)
    (case c_check_known => k_is)
    (case k_check_known => k_is)
    (case a_distinct_names => k_is)
    (case l_distinct_names => k_is)
    (case c_distinct_names => k_is)
    (case k_distinct_names => k_is)
    (case a_pairs_in => k_is)
    (case l_pairs_in => k_is)
    (case c_pairs_in => k_is)
    (case k_pairs_in => k_is)
    (case a_arrangement_holds => k_is)
    (case l_arrangement_holds => k_is)
    (case c_arrangement_holds => k_is)
    (case k_arrangement_holds => k_is)
    (case a_ascend => k_is)
    (case l_ascend => k_is)
    (case c_ascend => k_is)
    (case k_ascend => k_is)
    (case a_contains => k_is)
    (case l_contains => k_is)
    (case c_contains => k_is)
    (case k_contains => k_is)
    (case a_check_shown => k_is)
    (case l_check_shown => k_is)
    (case c_check_shown => k_is)
    (case k_check_shown => k_is)
    (case a_chosen_of => k_is)
    (case l_chosen_of => k_is)
    (case c_chosen_of => k_is)
    (case k_chosen_of => k_is)
    (case a_law_bag => k_is)
    (case l_law_bag => k_is)
    (case c_law_bag => k_is)
    (case k_law_bag => k_is)
    (case a_law_take => k_is)
    (case l_law_take => k_is)
    (case c_law_take => k_is)
    (case k_law_take => k_is)
    (case a_law_is => k_is)
    (case l_law_is => k_is)
    (case c_law_is => k_is)
    (case k_law_is => k_is)
    (case a_law_name => k_is)
    (case l_law_name => k_is)
    (case c_law_name => k_is)
    (case k_law_name => k_is)
    (case a_law_names => k_is)
    (case l_law_names => k_is)
    (case c_law_names => k_is)
    (case k_law_names => k_is)
    (case a_law_flipped => k_is)
    (case l_law_flipped => k_is)
    (case c_law_flipped => k_is)
    (case k_law_flipped => k_is)
    (case a_law_given => k_is)
    (case l_law_given => k_is)
    (case c_law_given => k_is)
    (case k_law_given => k_is)
    (case a_law_pairs => k_is)
    (case l_law_pairs => k_is)
    (case c_law_pairs => k_is)
    (case k_law_pairs => k_is)
    (case a_law_notes => k_is)
    (case l_law_notes => k_is)
    (case c_law_notes => k_is)
    (case k_law_notes => k_is)
    (case a_law_glowing => k_is)
    (case l_law_glowing => k_is)
    (case c_law_glowing => k_is)
    (case k_law_glowing => k_is)
    (case a_law_drawn_settings => k_is)
    (case l_law_drawn_settings => k_is)
    (case c_law_drawn_settings => k_is)
    (case k_law_drawn_settings => k_is)
    (case a_law_drawn_stretches => k_is)
    (case l_law_drawn_stretches => k_is)
    (case c_law_drawn_stretches => k_is)
    (case k_law_drawn_stretches => k_is)
    (case a_law_due_holds => k_is)
    (case l_law_due_holds => k_is)
    (case c_law_due_holds => k_is)
    (case k_law_due_holds => k_is)
    (case a_law_bend => k_is)
    (case l_law_bend => k_is)
    (case c_law_bend => k_is)
    (case k_law_bend => k_is)
    (case a_law => k_is)
    (case l_law => k_is)
    (case c_law => k_is)
    (case k_law => k_is)
    (case a_InvalidName => k_is)
    (case x_InvalidName => k_is)
    (case hb_InvalidName => (first | rfl | decide +kernel))
    (case sa_InvalidName => k_is)
    (case e_InvalidName => k_is)
    (case tc_InvalidName => k_is)
    (case kc_InvalidName => k_is)
    (case no_InvalidName => k_is)
    (case i_InvalidName => k_is)
    (case ti_InvalidName => k_is)
    (case l_InvalidName => k_is)
    (case c_InvalidName => k_is)
    (case k_InvalidName => k_is)
    (case a_DuplicateName => k_is)
    (case x_DuplicateName => k_is)
    (case hb_DuplicateName => (first | rfl | decide +kernel))
    (case sa_DuplicateName => k_is)
    (case e_DuplicateName => k_is)
    (case tc_DuplicateName => k_is)
    (case kc_DuplicateName => k_is)
    (case no_DuplicateName => k_is)
    (case i_DuplicateName => k_is)
    (case ti_DuplicateName => k_is)
    (case l_DuplicateName => k_is)
    (case c_DuplicateName => k_is)
    (case k_DuplicateName => k_is)
    (case a_UnknownName => k_is)
    (case x_UnknownName => k_is)
    (case hb_UnknownName => (first | rfl | decide +kernel))
    (case sa_UnknownName => k_is)
    (case e_UnknownName => k_is)
    (case tc_UnknownName => k_is)
    (case kc_UnknownName => k_is)
    (case no_UnknownName => k_is)
    (case i_UnknownName => k_is)
    (case ti_UnknownName => k_is)
    (case l_UnknownName => k_is)
    (case c_UnknownName => k_is)
    (case k_UnknownName => k_is)
    (case a_TooMany => k_is)
    (case x_TooMany => k_is)
    (case hb_TooMany => (first | rfl | decide +kernel))
    (case sa_TooMany => k_is)
    (case e_TooMany => k_is)
    (case tc_TooMany => k_is)
    (case kc_TooMany => k_is)
    (case no_TooMany => k_is)
    (case i_TooMany => k_is)
    (case ti_TooMany => k_is)
    (case l_TooMany => k_is)
    (case c_TooMany => k_is)
    (case k_TooMany => k_is)
    (case a_InvalidNote => k_is)
    (case x_InvalidNote => k_is)
    (case hb_InvalidNote => (first | rfl | decide +kernel))
    (case sa_InvalidNote => k_is)
    (case e_InvalidNote => k_is)
    (case tc_InvalidNote => k_is)
    (case kc_InvalidNote => k_is)
    (case no_InvalidNote => k_is)
    (case i_InvalidNote => k_is)
    (case ti_InvalidNote => k_is)
    (case l_InvalidNote => k_is)
    (case c_InvalidNote => k_is)
    (case k_InvalidNote => k_is)
    (case a_Table => k_is)
    (case pg_Table => k_is)
    (case hd_Table => k_is)
    (case po_Table => k_is)
    (case sa_Table => k_is)
    (case mk_Table => k_is)
    (case kc_Table => k_is)
    (case n_Table_lamps => k_is)
    (case n_Table_looks => k_is)
    (case n_Table__shown => k_is)
    (case i_Table_init => k_is)
    (case fn_Table_init => k_is)
    (case l_Table_init => k_is)
    (case c_Table_init => k_is)
    (case k_Table_init => k_is)
    (case i_Table_rows => k_is)
    (case fn_Table_rows => k_is)
    (case l_Table_rows => k_is)
    (case c_Table_rows => k_is)
    (case k_Table_rows => k_is)
    (case a_Notes => k_is)
    (case pg_Notes => k_is)
    (case hd_Notes => k_is)
    (case po_Notes => k_is)
    (case sa_Notes => k_is)
    (case mk_Notes => k_is)
    (case kc_Notes => k_is)
    (case n_Notes_pairs => k_is)
    (case i_Notes_init => k_is)
    (case fn_Notes_init => k_is)
    (case l_Notes_init => k_is)
    (case c_Notes_init => k_is)
    (case k_Notes_init => k_is)
    (case i_Notes_add => k_is)
    (case fn_Notes_add => k_is)
    (case l_Notes_add => k_is)
    (case c_Notes_add => k_is)
    (case k_Notes_add => k_is)
    (case i_Notes_eq => k_is)
    (case fn_Notes_eq => k_is)
    (case l_Notes_eq => k_is)
    (case c_Notes_eq => k_is)
    (case k_Notes_eq => k_is)
    (case a_Arrangement => k_is)
    (case pg_Arrangement => k_is)
    (case hd_Arrangement => k_is)
    (case po_Arrangement => k_is)
    (case sa_Arrangement => k_is)
    (case mk_Arrangement => k_is)
    (case kc_Arrangement => k_is)
    (case n_Arrangement_settings => k_is)
    (case n_Arrangement_stretches => k_is)
    (case i_Arrangement_init => k_is)
    (case fn_Arrangement_init => k_is)
    (case l_Arrangement_init => k_is)
    (case c_Arrangement_init => k_is)
    (case k_Arrangement_init => k_is)
    (case i_Arrangement_call => k_is)
    (case fn_Arrangement_call => k_is)
    (case l_Arrangement_call => k_is)
    (case c_Arrangement_call => k_is)
    (case k_Arrangement_call => k_is)
    (case q_after => k_is)
    (case q_get => (first | k_is | rfl))
    (case q_takes => (first | k_is | rfl))
    (case q_cls => k_is)
    (case q_mro => (first | k_is | rfl))
    (case q_me => (first | k_is | rfl))
    (case q_self => (first | k_is | rfl))
    (case q_fi => (first | k_is | rfl))
    (case z_len => k_is)
    (case z_int => k_is)
    (case z_tuple => k_is)
    (case z_abs => k_is)
    (case z_isinstance => k_is)
    (case z_str => k_is)
    (case z_all => k_is)
    (case z_list => k_is)
    (case z_range => k_is)
    (case z_enumerate => k_is)
    (case z_sorted => k_is)
    (case z_set => k_is)
    (case z_bool => k_is)
    (case z_dict => k_is)
    (case v_LONGEST => k_is)
    (case v_SIGNS => k_is)
    (case v_LIMIT => k_is)
