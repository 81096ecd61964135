import PyProof.Rows.All
import Wide.All
import OpenK.AllK
import Wide.FinOn
import HandS.ForMost
import HandS.Exc
import HandS.TryOnly
import HandS.ExcOwn
import HandS.WordsExc
import HandS.ExcInit
import HandS.ExcField
import HandS.IsInst
import HandS.Walk
import HandS.Conv
import HandS.Wide
import HandS.TryMany
import HandS.CallSlots
import HandS.Flow
import HandS.Deep
import HandS.Star
import HandS.MethStar
import HandS.ExcIs
import HandS.Rev
import HandS.More
import KE.GoesEnum
import KE.GoesMore
import HandS.ListEq
import HandS.DictEq
import HandS.DeepEq
import HandS.OwnEq
import HandS.Codes
import KE.KExcIs
import HandS.DictComp
import HandS.Dict
import HandS.NoneIn
import HandS.Text
import HandS.TupAny
import PyProof.P3In
import KE.KOpsOwn
import HandS.RevTup
import HandS.Finally
import KE.KDictList
import PySem.Challenge.RW_dimmerlog_k45_arrangements
set_option Elab.async false
set_option linter.all false
set_option maxRecDepth 100000
set_option maxHeartbeats 4000000
namespace Dl
open PySem L2
def top (i : Nat) : Stmt := PySem.Challenge.pw_dimmerlog_k45_arrangements.main.body.getD i (.Pass ⟨0, 0, 0, 0⟩)
abbrev sArrangementInit : Stmt := inClass (top 1) 0
abbrev sArrangementCall : Stmt := inClass (top 1) 1
abbrev sArrangementAdd : Stmt := inClass (top 1) 2
abbrev sArrangementRadd : Stmt := inClass (top 1) 3
abbrev sArrangementNeg : Stmt := inClass (top 1) 4
abbrev sArrangementEq : Stmt := inClass (top 1) 5
abbrev sContains : Stmt := top 2
abbrev sMoved : Stmt := top 3
abbrev sTurned : Stmt := top 4
abbrev sBag : Stmt := top 6
abbrev sTake : Stmt := top 7
abbrev sLawIs : Stmt := top 8
abbrev sLawName : Stmt := top 9
abbrev sLawNames : Stmt := top 10
abbrev sLawGlowing : Stmt := top 11
abbrev sLawDrawnSettings : Stmt := top 12
abbrev sLawDrawnStretches : Stmt := top 13
abbrev sLawMoved : Stmt := top 14
abbrev sLawTurned : Stmt := top 15
abbrev sLawShifted : Stmt := top 16
abbrev sLawIsMade : Stmt := top 17
abbrev sLaw : Stmt := top 18
end Dl

/-! The bag of draws: _law_bag, _law_take. -/
namespace Dl
open PySem L2

/-! ### the mathematics of the bag -/
structure BagOk (L : List Int) : Prop where
  ex : ∃ (s d : Int) (r : List Int), L = s :: d :: r ∧ 0 ≤ s ∧ s < 2147483647 ∧ 0 ≤ d ∧ ∀ x ∈ r, 0 ≤ x
theorem BagOk.put0 {d : Int} {r : List Int} (x : Int) (hd : 0 ≤ d) (hr : ∀ x ∈ r, 0 ≤ x) : BagOk (x % 2147483647 :: d :: r) :=
  ⟨_, _, _, rfl, Int.emod_nonneg _ (by decide), Int.emod_lt_of_pos _ (by decide), hd, hr⟩

/-- the names that the two defs read -/
structure TxtB (mg : Str → Option Value) : Prop where
  len : mg "len" = none
  int : mg "int" = none
  abs : mg "abs" = none

def spTake : Sp := fun vs H Q _ => ∃ (b : Addr) (L : List Int) (n : Int), vs = [.ref b, .int n] ∧ H b = some (.lst (L.map V.int)) ∧ BagOk L ∧ 1 ≤ n ∧ n < 19342813113834066795298816 ∧
  ∀ (L' : List Int) (r : Int), BagOk L' → 0 ≤ r → r < n → Q (.int r) (upd H b (.lst (L'.map V.int)))
section
variable {P : Program} {w : World} {K : PySem.W.Frag} {mg : Str → Option Value} {base : Heap}
theorem scTake : FnScope ["_law_bag_here", "_law_size", "_law_cell", "_law_digit"] ["_law_bag_here", "_law_size"] (defScope sTake) := ⟨rfl, rfl, rfl, by decide +kernel, rfl, by decide +kernel, by decide +kernel⟩
theorem upd_upd {H : Hp} {a : Addr} {o u : HO} : upd (upd H a o) a u = upd H a u := by
  funext b
  by_cases h : b = a
  · subst h; rw [upd_same, upd_same]
  · rw [upd_ne h, upd_ne h, upd_ne h]
theorem upd_id {H : Hp} {a : Addr} {o : HO} (h : H a = some o) : upd H a o = H := by
  funext b
  by_cases e : b = a
  · subst e; rw [upd_same, h]
  · rw [upd_ne e]
theorem ix_at {n j : Nat} (h : j < n) : ixN n (j : Int) = some j := by
  unfold ixN
  rw [if_pos (by omega), if_pos (by omega)]; simp
theorem ok_take {f : Addr} {fd : FuncData} (F : Fun K "_law_take" "_law_take" sTake f fd) (T : TxtB mg) : FnOk P w K mg base CX0 1 f fd ["_law_bag_here", "_law_size"] spTake := by
  refine F.ok scTake (fun vs H Q E h => ?_) (fun cdv A outer s H vs Q E hr h => ?_)
  · obtain ⟨b, L, n, rfl, _⟩ := h
    rfl
  · obtain ⟨b, L, n, rfl, hb, ⟨z, d, r, rfl, hz0, hz1, hd0, hr0⟩, hn1, hn2, k⟩ := h
    refine ⟨_, pss_cons (ps_if (PW.pt (pw_and (pt_cmpR op_eq (pe_ix ix_list (pv 0) pe_int (fun _ _ => rfl)) pe_int (nomark _)) (pw_and1 (pt_cmpR op_gt (pe_callB call_len_seq (by rfl) T.len PySem.boot_len (pa_cons (pv 0) pa_nil)) pe_int (nomark _)))))
        (pss_cons (ps_set (i := 2) scTake.nd rfl (Or.inl rfl) (pe_bm PySem.F.plainAttrs_list PySem.F.slot_list_pop PySem.F.type_list_pop mt_popAt (pv 0) (pa_cons pe_int pa_nil)))
        (pss_one (ps_if (pt_cmpR op_ge (pv 2) (pe_op op_pow pe_int pe_int) (nomark _))
          (pss_one (ps_asg (pv 2) (pg_sub (pv 0) pe_int set_list)))
          (pss_cons (ps_asg (pe_op op_mod (pe_callTy call_int1 (by rfl) T.int (by decide +kernel) (pa_cons (pe_op op_add (pe_op op_add (pe_op op_mul (pe_ix ix_list (pv 0) pe_int (fun _ _ => rfl)) pe_int) (pe_op op_mul (pv 2) pe_int)) pe_int) pa_nil)) pe_int) (pg_sub (pv 0) pe_int set_list))
          (pss_one (ps_ret (pe_op op_mod (pe_callTy call_int1 (by rfl) T.int (by decide +kernel) (pa_cons (pe_op op_fdiv (pe_op op_add (pe_op op_mul (pe_ix ix_list (pv 0) pe_int (fun _ _ => rfl)) pe_int) pe_int) pe_int) pa_nil)) (pv 1))))))))
        pss_nil)
      (pss_cons (ps_if (pt_cmpR op_gt (pe_ix ix_list (pv 0) pe_int (fun _ _ => rfl)) pe_int (nomark _))
        (pss_cons (ps_set (i := 3) scTake.nd rfl (Or.inl rfl) (pe_op op_mod (pe_callTy call_int1 (by rfl) T.int (by decide +kernel) (pa_cons (pe_ix ix_list (pv 0) pe_int (fun _ _ => rfl)) pa_nil)) (pv 1)))
        (pss_cons (ps_asg (pe_op op_fdivW (pe_ix ix_list (pv 0) pe_int (fun _ _ => rfl)) (pv 1)) (pg_sub (pv 0) pe_int set_list))
        (pss_one (ps_ret (pv 3)))))
        pss_nil)
      (pss_cons (ps_asg (pe_op op_mod (pe_callTy call_int1 (by rfl) T.int (by decide +kernel) (pa_cons (pe_op op_mul (pe_ix ix_list (pv 0) pe_int (fun _ _ => rfl)) pe_int) pa_nil)) pe_int) (pg_sub (pv 0) pe_int set_list))
      (pss_one (ps_ret (pe_op op_mod (pe_callTy call_int1 (by rfl) T.int (by decide +kernel) (pa_cons (pe_op op_fdiv (pe_ix ix_list (pv 0) pe_int (fun _ _ => rfl)) pe_int) pa_nil)) (pv 1)))))), ?_⟩
    -- bag[1] == 0 and len(bag) > 2
    refine ⟨_, rfl, b, _, _, _, rfl, rfl, SqL.of hb, (atI_nat (j := 1) rfl), rfl, _, rfl, ?_⟩
    refine ite2 (fun e => ?_) (fun e => ?_)
    · refine ⟨_, rfl, b, _, rfl, .inl (SqL.of hb), _, _, rfl, rfl, _, rfl, ?_⟩
      refine ite2 (fun e2 => ?_) (fun e2 => ?_)
      · -- cell = bag.pop(2)
        have hl : 2 < (z :: d :: r).length := by
          have q := of_decide_eq_true e2
          have q2 : ((2 : Int) < (((z :: d :: r).map V.int).length : Nat)) := q
          rw [List.length_map] at q2
          omega
        match r, hr0, hb, k, hl with
        | [], _, _, _, hl => exact absurd hl (by simp)
        | c :: r, hr0, hb, k, _ =>
        have hc0 : 0 ≤ c := hr0 c (List.mem_cons_self ..)
        have hr1 : ∀ x ∈ r, 0 ≤ x := fun x hx => hr0 x (List.mem_cons_of_mem _ hx)
        have hsq : seqIndex? (2 : Int) ((z :: d :: c :: r).map V.int).length = some 2 := by
          have q : ((z :: d :: c :: r).map V.int).length = r.length + 3 := by simp
          rw [q]
          unfold seqIndex?
          simp
          omega
        refine ⟨_, rfl, .inl ⟨rfl, _, SqL.of hb⟩, b, _, 2, 2, _, rfl, rfl, hb, by decide, by decide, hsq, rfl, ?_⟩
        refine ⟨_, rfl, _, _, rfl, rfl, ⟨by decide, by decide, by decide⟩, _, _, rfl, rfl, _, rfl, ?_⟩
        refine ite2 (fun e4 => ?_) (fun e4 => ?_)
        · refine ⟨_, rfl, _, rfl, b, _, _, 1, rfl, rfl, upd_same, ix_at (j := 1) (by simp), ?_⟩
          have hd1 : 0 ≤ c := hc0
          have hz1' := hz0
          have hz1'' := hz1
          have k1 : ∀ (L' : List Int) (x : Int), BagOk L' → 0 ≤ x → x < n → Q (.int x) (upd (upd (upd H b (HO.lst ((z :: d :: r).map V.int))) b (HO.lst ((z :: c :: r).map V.int))) b (.lst (L'.map V.int))) := fun L' x h1 h2 h3 => by
            rw [upd_upd, upd_upd]
            exact k L' x h1 h2 h3
          have hb1 : (upd (upd H b (HO.lst ((z :: d :: r).map V.int))) b (HO.lst ((z :: c :: r).map V.int))) b = some (.lst ((z :: c :: r).map V.int)) := upd_same
          refine ⟨_, rfl, b, _, _, _, rfl, rfl, SqL.of hb1, (atI_nat (j := 1) rfl), _, _, rfl, rfl, _, rfl, ?_⟩
          refine ite2 (fun e3 => ?_) (fun e3 => ?_)
          · refine ⟨_, rfl, b, _, _, _, rfl, rfl, SqL.of hb1, (atI_nat (j := 1) rfl), .inl ⟨_, rfl, ?_⟩⟩
            refine ⟨_, rfl, _, _, rfl, rfl, (by show (0 : Int) < n; omega), ?_⟩
            refine ⟨_, rfl, b, _, _, _, rfl, rfl, SqL.of hb1, (atI_nat (j := 1) rfl), _, rfl, _, _, rfl, rfl, wide_div (b := 85) (by show (0 : Int) < n; omega) (by show n.natAbs < 2 ^ 85; omega) (by decide) (by decide), ?_⟩
            refine ⟨_, rfl, b, _, _, 1, rfl, rfl, hb1, ix_at (j := 1) (by simp), ?_⟩
            refine ⟨_, rfl, ?_⟩
            exact k1 (z :: (c / n) :: r) _ ⟨_, _, _, rfl, hz1', hz1'', Int.ediv_nonneg hd1 (by omega), hr1⟩ (Int.emod_nonneg _ (by omega)) (Int.emod_lt_of_pos _ (by omega))
          · refine ⟨_, rfl, b, _, _, _, rfl, rfl, SqL.of hb1, (atI_nat (j := 0) rfl), _, _, rfl, rfl, .inl ⟨by show -(2 ^ 64) < z; omega, by show z < 2 ^ 64; omega⟩, .inl ⟨_, rfl, ?_⟩⟩
            refine ⟨_, _, rfl, rfl, (by show (0 : Int) < 2147483647; decide), ?_⟩
            refine ⟨_, rfl, b, _, _, 0, rfl, rfl, hb1, ix_at (j := 0) (by simp), ?_⟩
            refine ⟨_, rfl, b, _, _, _, rfl, rfl, SqL.of upd_same, (atI_nat (j := 0) rfl), _, _, rfl, rfl, ⟨by decide, by decide⟩, .inl ⟨_, rfl, ?_⟩⟩
            refine ⟨_, rfl, _, _, rfl, rfl, (by show (0 : Int) < n; omega), ?_⟩
            exact k1 (z * 48271 % 2147483647 :: c :: r) _ (BagOk.put0 _ hd1 hr1) (Int.emod_nonneg _ (by omega)) (Int.emod_lt_of_pos _ (by omega))
        · have hc1 : c < 10 ^ 18 := by
            have q := of_decide_eq_false (p := ((10 : Int) ^ (18 : Int).toNat ≤ c)) (by simpa using e4)
            have q2 : (10 : Int) ^ (18 : Int).toNat = 1000000000000000000 := by decide
            omega
          refine ⟨_, rfl, b, _, _, _, rfl, rfl, SqL.of upd_same, (atI_nat (j := 0) rfl), _, _, rfl, rfl, .inl ⟨by show -(2 ^ 64) < z; omega, by show z < 2 ^ 64; omega⟩, ?_⟩
          refine ⟨_, rfl, _, _, rfl, rfl, .inl ⟨by show -(2 ^ 64) < c; omega, by show c < 2 ^ 64; omega⟩, _, _, rfl, rfl, _, _, rfl, rfl, .inl ⟨_, rfl, ?_⟩⟩
          refine ⟨_, _, rfl, rfl, (by show (0 : Int) < 2147483647; decide), ?_⟩
          refine ⟨_, rfl, b, _, _, 0, rfl, rfl, upd_same, ix_at (j := 0) (by simp), ?_⟩
          refine ⟨_, rfl, b, _, _, _, rfl, rfl, SqL.of upd_same, (atI_nat (j := 0) rfl), _, _, rfl, rfl, .inl ⟨?_, ?_⟩, _, _, rfl, rfl, _, _, rfl, rfl, ⟨by decide, by decide⟩, .inl ⟨_, rfl, ?_⟩⟩
          · have q := Int.emod_nonneg (z * 48271 + c * 69621 + 11) (show (2147483647 : Int) ≠ 0 by decide)
            show -(2 ^ 64) < (z * 48271 + c * 69621 + 11) % 2147483647
            omega
          · have q := Int.emod_lt_of_pos (z * 48271 + c * 69621 + 11) (show (0 : Int) < 2147483647 by decide)
            show (z * 48271 + c * 69621 + 11) % 2147483647 < 2 ^ 64
            omega
          refine ⟨_, rfl, _, _, rfl, rfl, (by show (0 : Int) < n; omega), ?_⟩
          have q := k ((z * 48271 + c * 69621 + 11) % 2147483647 :: d :: r) _ (BagOk.put0 _ hd0 hr1) (Int.emod_nonneg (((z * 48271 + c * 69621 + 11) % 2147483647 * 16807 + 7919) / 16) (show n ≠ 0 by omega)) (Int.emod_lt_of_pos _ (by omega))
          rw [← upd_upd] at q
          exact q
      · have hb1 := hb
        have k1 := k
        have hz1' := hz0
        have hz1'' := hz1
        have hd1 := hd0
        have hr1 := hr0
        refine ⟨_, rfl, b, _, _, _, rfl, rfl, SqL.of hb1, (atI_nat (j := 1) rfl), _, _, rfl, rfl, _, rfl, ?_⟩
        refine ite2 (fun e3 => ?_) (fun e3 => ?_)
        · refine ⟨_, rfl, b, _, _, _, rfl, rfl, SqL.of hb1, (atI_nat (j := 1) rfl), .inl ⟨_, rfl, ?_⟩⟩
          refine ⟨_, rfl, _, _, rfl, rfl, (by show (0 : Int) < n; omega), ?_⟩
          refine ⟨_, rfl, b, _, _, _, rfl, rfl, SqL.of hb1, (atI_nat (j := 1) rfl), _, rfl, _, _, rfl, rfl, wide_div (b := 85) (by show (0 : Int) < n; omega) (by show n.natAbs < 2 ^ 85; omega) (by decide) (by decide), ?_⟩
          refine ⟨_, rfl, b, _, _, 1, rfl, rfl, hb1, ix_at (j := 1) (by simp), ?_⟩
          refine ⟨_, rfl, ?_⟩
          exact k1 (z :: (d / n) :: r) _ ⟨_, _, _, rfl, hz1', hz1'', Int.ediv_nonneg hd1 (by omega), hr1⟩ (Int.emod_nonneg _ (by omega)) (Int.emod_lt_of_pos _ (by omega))
        · refine ⟨_, rfl, b, _, _, _, rfl, rfl, SqL.of hb1, (atI_nat (j := 0) rfl), _, _, rfl, rfl, .inl ⟨by show -(2 ^ 64) < z; omega, by show z < 2 ^ 64; omega⟩, .inl ⟨_, rfl, ?_⟩⟩
          refine ⟨_, _, rfl, rfl, (by show (0 : Int) < 2147483647; decide), ?_⟩
          refine ⟨_, rfl, b, _, _, 0, rfl, rfl, hb1, ix_at (j := 0) (by simp), ?_⟩
          refine ⟨_, rfl, b, _, _, _, rfl, rfl, SqL.of upd_same, (atI_nat (j := 0) rfl), _, _, rfl, rfl, ⟨by decide, by decide⟩, .inl ⟨_, rfl, ?_⟩⟩
          refine ⟨_, rfl, _, _, rfl, rfl, (by show (0 : Int) < n; omega), ?_⟩
          exact k1 (z * 48271 % 2147483647 :: d :: r) _ (BagOk.put0 _ hd1 hr1) (Int.emod_nonneg _ (by omega)) (Int.emod_lt_of_pos _ (by omega))
    · have hb1 := hb
      have k1 := k
      have hz1' := hz0
      have hz1'' := hz1
      have hd1 := hd0
      have hr1 := hr0
      refine ⟨_, rfl, b, _, _, _, rfl, rfl, SqL.of hb1, (atI_nat (j := 1) rfl), _, _, rfl, rfl, _, rfl, ?_⟩
      refine ite2 (fun e3 => ?_) (fun e3 => ?_)
      · refine ⟨_, rfl, b, _, _, _, rfl, rfl, SqL.of hb1, (atI_nat (j := 1) rfl), .inl ⟨_, rfl, ?_⟩⟩
        refine ⟨_, rfl, _, _, rfl, rfl, (by show (0 : Int) < n; omega), ?_⟩
        refine ⟨_, rfl, b, _, _, _, rfl, rfl, SqL.of hb1, (atI_nat (j := 1) rfl), _, rfl, _, _, rfl, rfl, wide_div (b := 85) (by show (0 : Int) < n; omega) (by show n.natAbs < 2 ^ 85; omega) (by decide) (by decide), ?_⟩
        refine ⟨_, rfl, b, _, _, 1, rfl, rfl, hb1, ix_at (j := 1) (by simp), ?_⟩
        refine ⟨_, rfl, ?_⟩
        exact k1 (z :: (d / n) :: r) _ ⟨_, _, _, rfl, hz1', hz1'', Int.ediv_nonneg hd1 (by omega), hr1⟩ (Int.emod_nonneg _ (by omega)) (Int.emod_lt_of_pos _ (by omega))
      · refine ⟨_, rfl, b, _, _, _, rfl, rfl, SqL.of hb1, (atI_nat (j := 0) rfl), _, _, rfl, rfl, .inl ⟨by show -(2 ^ 64) < z; omega, by show z < 2 ^ 64; omega⟩, .inl ⟨_, rfl, ?_⟩⟩
        refine ⟨_, _, rfl, rfl, (by show (0 : Int) < 2147483647; decide), ?_⟩
        refine ⟨_, rfl, b, _, _, 0, rfl, rfl, hb1, ix_at (j := 0) (by simp), ?_⟩
        refine ⟨_, rfl, b, _, _, _, rfl, rfl, SqL.of upd_same, (atI_nat (j := 0) rfl), _, _, rfl, rfl, ⟨by decide, by decide⟩, .inl ⟨_, rfl, ?_⟩⟩
        refine ⟨_, rfl, _, _, rfl, rfl, (by show (0 : Int) < n; omega), ?_⟩
        exact k1 (z * 48271 % 2147483647 :: d :: r) _ (BagOk.put0 _ hd1 hr1) (Int.emod_nonneg _ (by omega)) (Int.emod_lt_of_pos _ (by omega))
end
end Dl

namespace Dl
open PySem L2
theorem Same.upd_new {H : Hp} {a : Addr} {o : HO} (h : H a = none) : Same H (upd H a o) := fun b u e => by
  rw [upd_ne (ne_of_none e h)]; exact e
def spBag (K : PySem.W.Frag) : Sp := fun vs H Q _ => ∃ (a : Addr) (ns : List Int), vs = [.ref a] ∧ SqL K H a (ns.map V.int) ∧ ns.length ≤ 63 ∧
  ∀ (H' : Hp) (p : Addr) (L : List Int), Same H H' → H p = none → H' p = some (.lst (L.map V.int)) → BagOk L → Q (.ref p) H'
section
variable {P : Program} {w : World} {K : PySem.W.Frag} {mg : Str → Option Value} {base : Heap}
theorem scBag : FnScope ["_law_script", "_law_cell"] ["_law_script"] (defScope sBag) := ⟨rfl, rfl, rfl, by decide +kernel, rfl, by decide +kernel, by decide +kernel⟩
theorem ok_bag {f : Addr} {fd : FuncData} (F : Fun K "_law_bag" "_law_bag" sBag f fd) (T : TxtB mg) : FnOk P w K mg base CX0 1 f fd ["_law_script"] (spBag K) := by
  refine F.ok scBag (fun vs H Q E h => ?_) (fun cdv A outer s H vs Q E hr h => ?_)
  · obtain ⟨b, L, rfl, _⟩ := h
    rfl
  · obtain ⟨a, ns, rfl, hS, hlen, k⟩ := h
    refine ⟨_, pss_one (ps_ret (pe_op op_cat (pe_lst (pa_cons pe_int (pa_cons pe_int pa_nil)))
      (pe_lc (own := [("_law_cell", 1)]) (g := gName 1) (tt := tYes) rfl scBag.nd (pi_list (pe_slice sl_list (pv 0) po_none (po_some pe_int))) (blkOk_by (N := ["_law_script", "_law_cell"]) (sc := defScope sBag) (by decide +kernel))
        (fun _ _ _ _ _ => pg_name (i := 1) scBag.nd rfl (Or.inl rfl)) (fun _ _ _ _ _ => pts_nil) (fun _ _ _ _ _ => pe_callB call_abs (by rfl) T.abs (by decide +kernel) (pa_cons (pv 1) pa_nil))))), ?_⟩
    refine ⟨by show 2 ≤ sizeLine; decide, fun l hl => ?_⟩
    refine ⟨_, rfl, 63, rfl, a, _, rfl, Same.seq (Same.upd_new hl) hS, fun q hq => ?_⟩
    have hcut : ∃ ms : List Int, cutV (ns.map V.int) none (some 63) = ms.map V.int ∧ ms.length ≤ 63 := by
      refine ⟨(ns.drop (HT.sIx (ns.map V.int).length 0 none)).take (HT.sIx (ns.map V.int).length (ns.map V.int).length (some 63) - HT.sIx (ns.map V.int).length 0 none), ?_, ?_⟩
      · unfold cutV
        rw [← List.map_drop, ← List.map_take]
      · rw [List.length_take, List.length_drop]
        omega
    obtain ⟨ms, em, hm⟩ := hcut
    rw [em]
    refine ⟨q, rfl, ⟨_, SqL.of upd_same⟩, fun D hD => lc_list (xs := ms.map V.int) (fun i H' => ∃ M : List Int, H' = upd (upd (upd H l (.lst [.int 0, .int 0])) q (.lst (ms.map V.int))) D (.lst (M.map V.int)) ∧ M.length = i ∧ ∀ x ∈ M, 0 ≤ x)
      ⟨[], rfl, rfl, fun x hx => absurd hx (by simp)⟩ ?_ ?_ ?_⟩
    · rintro i H' _ ⟨M, rfl, _, _⟩
      have nqD : q ≠ D := ne_of_none (H := upd (upd H l (.lst [.int 0, .int 0])) q (.lst (ms.map V.int))) upd_same hD
      exact SqL.of (by rw [upd_ne nqD]; exact upd_same)
    · rintro i x H' hi ⟨M, rfl, hM, hx⟩
      rw [List.getElem?_map] at hi
      cases e : ms[i]? with
      | none => rw [e] at hi; cases hi
      | some u =>
      rw [e] at hi
      obtain rfl : V.int u = x := Option.some.inj hi
      refine ⟨rfl, _, rfl, u, rfl, _, upd_same, ?_, M ++ [if u < 0 then -u else u], ?_, ?_, ?_⟩
      · rw [List.length_map, hM]
        have := (List.getElem?_eq_some_iff.mp e).1
        exact small1000 (by omega)
      · rw [upd_upd, List.map_append]
        rfl
      · rw [List.length_append, hM]
        rfl
      · intro y hy
        rcases List.mem_append.mp hy with h | h
        · exact hx y h
        · obtain rfl := List.mem_singleton.mp h
          split <;> omega
    · rintro H' ⟨M, rfl, hM, hx⟩
      have nlq : l ≠ q := fun e => by rw [e, upd_same] at hq; cases hq
      have nlD : l ≠ D := fun e => by rw [← e, upd_ne nlq, upd_same] at hD; cases hD
      rw [List.length_map] at hM
      refine ⟨l, D, _, _, rfl, rfl, by rw [upd_ne nlD, upd_ne nlq, upd_same], upd_same, ?_, fun p hp => ?_⟩
      · rw [List.length_map]
        exact Nat.le_of_lt (small1000 (by simp; omega))
      · have hp0 : H p = none := by
          have npD : p ≠ D := fun e => by rw [e, upd_same] at hp; cases hp
          have npq : p ≠ q := fun e => by rw [upd_ne npD, e, upd_same] at hp; cases hp
          have npl : p ≠ l := fun e => by rw [upd_ne npD, upd_ne npq, e, upd_same] at hp; cases hp
          rw [upd_ne npD, upd_ne npq, upd_ne npl] at hp
          exact hp
        have s1 : Same H (upd H l (.lst [.int 0, .int 0])) := Same.upd_new hl
        refine k _ p (0 :: 0 :: M) ((s1.trans (Same.upd_new hq)).trans ((Same.upd_new hD).trans (Same.upd_new hp))) hp0 (by rw [upd_same]; rfl) ⟨0, 0, M, rfl, by decide, by decide, by decide, hx⟩
end
end Dl

namespace Dl
open PySem L2
/-! ### names -/
def SG : Str := "abcdefghijklmnopqrstuvwxyz0123456789"
def validN (z : Str) : Bool := decide (1 ≤ z.length) && (decide (z.length ≤ 12) && z.cps.toList.all fun c => decide (c ∈ SG.cps.toList))
def isNm : V → Bool
  | .str z => validN z
  | _ => false
/-- what may be passed as a name: a text, an int, None, a list -/
def NmOk (H : Hp) : V → Prop
  | .str z => z.length ≤ sizeLine
  | .int _ => True
  | .non => True
  | .ref p => ∃ xs, H p = some (.lst xs)
  | _ => False
structure TxtN (mg : Str → Option Value) : Prop where
  isi : mg "isinstance" = none
  str : mg "str" = none
  len : mg "len" = none
  all : mg "all" = none
  longest : ∃ t, mg "LONGEST" = some (.int 12 t)
  signs : ∃ t, mg "SIGNS" = some (.str SG t)
theorem nm_type (K : PySem.W.Frag) {H : Hp} {v : V} (hv : NmOk H v) : ∃ (ty : String) (b : Bool), TyX K H v (.type ty) ∧ PySem.W.kitOne K (.type ty) (.type "str") = some b ∧ ((b = false ∧ isNm v = false ∧ ∀ z, v ≠ .str z) ∨ (b = true ∧ ∃ z, v = .str z ∧ z.length ≤ sizeLine)) := by
  cases v with
  | int i => exact ⟨"int", false, .base (.int i), kit_ty (by decide +kernel), .inl ⟨rfl, rfl, fun z h => by cases h⟩⟩
  | non => exact ⟨"NoneType", false, .base .non, kit_ty (by decide +kernel), .inl ⟨rfl, rfl, fun z h => by cases h⟩⟩
  | ref p => obtain ⟨xs, hp⟩ := hv; exact ⟨"list", false, .base (.lst hp), kit_ty (by decide +kernel), .inl ⟨rfl, rfl, fun z h => by cases h⟩⟩
  | str z => exact ⟨"str", true, .base (.str z), kit_ty (by decide +kernel), .inr ⟨rfl, z, rfl, hv⟩⟩
  | bl _ => exact hv.elim
  | byt _ => exact hv.elim
  | flt _ => exact hv.elim
  | ty _ => exact hv.elim
def Dfn (P : Program) (w : World) (K : PySem.W.Frag) (mg : Str → Option Value) (base : Heap) (CX : CXT) (k : Nat) (x : Str) (ps : List Str) (sp : Sp) : Prop :=
  ∃ f fd, mg x = some (.ref f) ∧ PySem.W.keepIn K (.ref f) = true ∧ Binds K fd ps [] ∧ FnOk P w K mg base CX k f fd ps sp
open PySem.Spec PyProof.Rows in
theorem Same.tup {K : PySem.W.Frag} {H H' : Hp} {a : Addr} {xs : List V} (e : Same H H') (h : SqT K H a xs) : SqT K H' a xs := by
  rcases h with (h | ⟨o, h⟩) | h
  · exact .inl (.inl (e _ _ h))
  · exact .inl (.inr ⟨o, e _ _ h⟩)
  · exact .inr h
def knows (v : V) (es : List Str) : Bool :=
  match v with
  | .str z => decide (z ∈ es)
  | _ => false
def strOf : V → Str
  | .str z => z
  | _ => ""
open PySem.Spec PyProof.Rows in
theorem Same.either {K : PySem.W.Frag} {H H' : Hp} {a : Addr} {xs : List V} (e : Same H H') (h : SqL K H a xs ∨ SqT K H a xs) : SqL K H' a xs ∨ SqT K H' a xs := h.imp (Same.seq e) (Same.tup e)
open PySem.Spec PyProof.Rows in
theorem inV_str {z : Str} {es : List Str} : inV (.str z) (es.map V.str) = decide (z ∈ es) := by
  unfold inV
  rw [List.any_map]
  induction es with
  | nil => simp
  | cons a r ih =>
    rw [List.any_cons, ih]
    have e : ((fun y => eqV y (V.str z)) ∘ V.str) a = decide (a = z) := by
      show eqV (V.str a) (V.str z) = decide (a = z)
      unfold eqV
      first | rfl | simp
    rw [e]
    by_cases h : a = z
    · subst h; simp
    · have h2 : ¬ z = a := fun q => h q.symm
      simp [h, h2]
open PySem.Spec PyProof.Rows in
theorem flat_strs (es : List Str) : (es.map V.str).all flatV = true := by
  rw [List.all_map]
  induction es with
  | nil => rfl
  | cons a r ih => rw [List.all_cons, ih]; rfl
end Dl

namespace Dl
open PySem PySem.Spec PyProof.Rows L2
/-! ### the drawn names: one to three letters, and the number of the names before where it was there -/
def LT : Str := "abcdefghijklmnopqrstuvwxyz"
def isLet (c : Nat) : Prop := 97 ≤ c ∧ c ≤ 122
def dg (n : Nat) : List Nat := (Str.ofString (toString (n : Int))).cps.toList
theorem lt_facts : ∀ c ∈ LT.cps.toList, 97 ≤ c ∧ c ≤ 122 := by decide +kernel
theorem lt_len : LT.cps.toList.length = 26 := by decide +kernel
theorem dg_facts : ∀ k, k < 25 → dg k ≠ [] ∧ (dg k).length ≤ 2 ∧ ∀ c ∈ dg k, ¬ (97 ≤ c ∧ c ≤ 122) ∧ c ∈ SG.cps.toList ∧ c < 1114112 := by decide +kernel
theorem dg_inj : ∀ j, j < 25 → ∀ k, k < 25 → dg j = dg k → j = k := by decide +kernel
theorem let_sg : ∀ c, c < 123 → 97 ≤ c → c ∈ SG.cps.toList ∧ c < 1114112 := by decide +kernel
theorem sg_small' : ∀ c ∈ SG.cps.toList, c < 1114112 := by decide +kernel
theorem nil_codes : ("" : Str).cps.toList = [] := by decide +kernel
/-- the name that was drawn as number i -/
structure NameAt (i : Nat) (z : Str) : Prop where
  ex : ∃ l : List Nat, l ≠ [] ∧ l.length ≤ 3 ∧ (∀ c ∈ l, isLet c) ∧ (z.cps.toList = l ∨ z.cps.toList = l ++ dg i)
structure NamesOk (zs : List Str) : Prop where
  at_ : ∀ i z, zs[i]? = some z → NameAt i z
  nd : zs.Nodup
  few : zs.length ≤ 24
theorem codes_ext {a b : Str} (h : a.cps.toList = b.cps.toList) : a = b := by
  cases a; cases b
  congr
  exact Array.ext' h
theorem let_dg {l l' : List Nat} {j k : Nat} (hj : j < 25) (hk : k < 25) (hl : ∀ c ∈ l, isLet c) (hl' : ∀ c ∈ l', isLet c) (h : l' ++ dg j = l ++ dg k) : j = k := by
  have tw : ∀ (m d : List Nat), (∀ c ∈ m, isLet c) → (∀ c ∈ d, ¬ isLet c) → (m ++ d).dropWhile (fun c => decide (97 ≤ c ∧ c ≤ 122)) = d := by
    intro m
    induction m with
    | nil =>
      intro d _ hd
      cases d with
      | nil => rfl
      | cons a r =>
        have q : ¬ (97 ≤ a ∧ a ≤ 122) := hd a (List.mem_cons_self ..)
        simp only [List.nil_append, List.dropWhile]
        rw [decide_eq_false q]
    | cons a r ih =>
      intro d hm hd
      have q : 97 ≤ a ∧ a ≤ 122 := hm a (List.mem_cons_self ..)
      rw [List.cons_append, List.dropWhile, decide_eq_true q]
      exact ih d (fun c hc => hm c (List.mem_cons_of_mem _ hc)) hd
  have e := congrArg (List.dropWhile fun c => decide (97 ≤ c ∧ c ≤ 122)) h
  rw [tw l' (dg j) hl' fun c hc => ((dg_facts j hj).2.2 c hc).1, tw l (dg k) hl fun c hc => ((dg_facts k hk).2.2 c hc).1] at e
  exact dg_inj j hj k hk e
theorem fresh_tail {zs : List Str} {l : List Nat} {z : Str} (ok : NamesOk zs) (h23 : zs.length ≤ 23) (hl : ∀ c ∈ l, isLet c) (hz : z.cps.toList = l ++ dg zs.length) : z ∉ zs := by
  intro hm
  obtain ⟨i, hi⟩ := List.getElem?_of_mem hm
  have hlt : i < zs.length := (List.getElem?_eq_some_iff.mp hi).1
  obtain ⟨l', _, _, hl', e⟩ := (ok.at_ i z hi).ex
  rcases e with e | e
  · rw [hz] at e
    have d := dg_facts zs.length (by omega)
    cases hd : dg zs.length with
    | nil => exact d.1 hd
    | cons c r =>
      have m1 : c ∈ l' := by rw [← e, hd]; simp
      have m2 : c ∈ dg zs.length := by rw [hd]; simp
      exact (d.2.2 c m2).1 (hl' c m1)
  · rw [hz] at e
    have := let_dg (by omega) (by omega) hl hl' e.symm
    omega
theorem NameAt.sg {i : Nat} {z : Str} (h : NameAt i z) (hi : i < 25) : (∀ c ∈ z.cps.toList, c ∈ SG.cps.toList) ∧ 1 ≤ z.length ∧ z.length ≤ 5 := by
  obtain ⟨l, h1, h2, h3, h4⟩ := h.ex
  have zl : z.length = z.cps.toList.length := by simp [Str.length]
  have l1 : 1 ≤ l.length := by cases l with | nil => exact absurd rfl h1 | cons _ _ => simp
  have d := dg_facts i hi
  rcases h4 with e | e
  · refine ⟨fun c hc => ?_, by rw [zl, e]; exact l1, by rw [zl, e]; omega⟩
    rw [e] at hc
    exact (let_sg c (by have := (h3 c hc).2; omega) (h3 c hc).1).1
  · refine ⟨fun c hc => ?_, by rw [zl, e, List.length_append]; omega, by rw [zl, e, List.length_append]; omega⟩
    rw [e] at hc
    rcases List.mem_append.mp hc with hc | hc
    · exact (let_sg c (by have := (h3 c hc).2; omega) (h3 c hc).1).1
    · exact (d.2.2 c hc).2.1
theorem NameAt.valid {i : Nat} {z : Str} (h : NameAt i z) (hi : i < 25) : validN z = true := by
  obtain ⟨h1, h2, h3⟩ := h.sg hi
  unfold validN
  rw [decide_eq_true h2, decide_eq_true (show z.length ≤ 12 by omega), List.all_eq_true.mpr fun c hc => decide_eq_true (h1 c hc)]
  rfl
theorem NamesOk.valid {zs : List Str} (ok : NamesOk zs) {z : Str} (hz : z ∈ zs) : validN z = true := by
  obtain ⟨i, hi⟩ := List.getElem?_of_mem hz
  have hlt : i < zs.length := (List.getElem?_eq_some_iff.mp hi).1
  exact (ok.at_ i z hi).valid (by have := ok.few; omega)
theorem valid_small {z : Str} (h : validN z = true) : z.length ≤ 12 ∧ (∀ c ∈ z.cps.toList, c < 1114112) := by
  unfold validN at h
  simp only [Bool.and_eq_true, decide_eq_true_eq] at h
  exact ⟨h.2.1, fun c hc => sg_small' c (of_decide_eq_true (List.all_eq_true.mp h.2.2 c hc))⟩
/-- everything but the bag at b stands -/
def SameB (b : Addr) (H H' : Hp) : Prop := ∀ c o, c ≠ b → H c = some o → H' c = some o
theorem SameB.refl (b : Addr) (H : Hp) : SameB b H H := fun _ _ _ h => h
theorem SameB.trans {b : Addr} {H H1 H2 : Hp} (s : SameB b H H1) (t : SameB b H1 H2) : SameB b H H2 := fun c o n h => t c o n (s c o n h)
theorem SameB.upd {b : Addr} {H : Hp} {o : HO} : SameB b H (upd H b o) := fun c u n h => by rw [upd_ne n]; exact h
theorem SameB.of {b : Addr} {H H' : Hp} (s : Same H H') : SameB b H H' := fun c o _ h => s c o h
theorem SameB.free {b : Addr} {H H' : Hp} (s : SameB b H H') {c : Addr} (n : c ≠ b) (h : H' c = none) : H c = none := by
  cases e : H c with
  | none => rfl
  | some o => rw [s c o n e] at h; cases h
theorem upd_none {H : Hp} {b c : Addr} {o : HO} (h : upd H b o c = none) : H c = none ∧ c ≠ b := by
  by_cases e : c = b
  · subst e; rw [upd_same] at h; cases h
  · rw [upd_ne e] at h; exact ⟨h, e⟩
structure TxtM (mg : Str → Option Value) : Prop where
  range : mg "range" = none
  len : mg "len" = none
  str : mg "str" = none
def spName : Sp := fun vs H Q _ => ∃ (b u : Addr) (L : List Int) (zs : List Str), vs = [.ref b, .ref u] ∧ H b = some (.lst (L.map V.int)) ∧ BagOk L ∧ u ≠ b ∧ H u = some (.lst (zs.map V.str)) ∧ NamesOk zs ∧ zs.length ≤ 23 ∧
  ∀ (L' : List Int) (z : Str), BagOk L' → NameAt zs.length z → z ∉ zs → Q (.str z) (upd H b (.lst (L'.map V.int)))
def spNames : Sp := fun vs H Q _ => ∃ (b : Addr) (L : List Int) (n : Int), vs = [.ref b, .int n] ∧ H b = some (.lst (L.map V.int)) ∧ BagOk L ∧ 0 ≤ n ∧ n ≤ 24 ∧
  ∀ (H' : Hp) (u : Addr) (L' : List Int) (zs : List Str), SameB b H H' → H u = none → H' u = some (.lst (zs.map V.str)) → H' b = some (.lst (L'.map V.int)) → BagOk L' → NamesOk zs → zs.length = n.toNat → Q (.ref u) H'
theorem cat_codes (a b : Str) : (a ++ b).cps.toList = a.cps.toList ++ b.cps.toList := by
  show (a.cps ++ b.cps).toList = _
  simp
theorem cat_len (a b : Str) : (a ++ b).length = a.length + b.length := by
  show (a.cps ++ b.cps).size = _
  rw [Array.size_append]
  rfl
section
variable {P : Program} {w : World} {K : PySem.W.Frag} {mg : Str → Option Value} {base : Heap}
theorem scName : FnScope ["_law_bag_here", "_law_used", "_law_letters", "_law_name_here", "_law_k"] ["_law_bag_here", "_law_used"] (defScope sLawName) := ⟨rfl, rfl, rfl, by decide +kernel, rfl, by decide +kernel, by decide +kernel⟩
theorem ok_name {f : Addr} {fd : FuncData} (F : Fun K "_law_name" "_law_name" sLawName f fd) (T : TxtM mg) (gT : Dfn P w K mg base CX0 1 "_law_take" ["_law_bag_here", "_law_size"] spTake) :
    FnOk P w K mg base CX0 2 f fd ["_law_bag_here", "_law_used"] spName := by
  obtain ⟨fT, dT, mT, kT, bT, GT⟩ := gT
  refine F.ok scName (fun vs H Q E h => ?_) (fun cdv A outer s H vs Q E hr h => ?_)
  · obtain ⟨a, u, L, zs, rfl, _⟩ := h
    rfl
  · obtain ⟨b, u, L, zs, rfl, hb, hok, hub, hu, ok, hlen, k⟩ := h
    have hr1 : Room 1 _ := hr
    refine ⟨_, (pss_cons (ps_set (i := 2) scName.nd rfl (Or.inl rfl) pe_str)
        (pss_cons (ps_set (i := 3) scName.nd rfl (Or.inl rfl) pe_str)
        (pss_cons (ps_for PassesOwn.never rfl (pi_range1 (by rfl) T.range (pa_cons (pe_op op_add pe_int (pe_call GT hr1 (by rfl) mT kT bT .nil pass0 (pa_cons (pv 0) (pa_cons pe_int pa_nil)))) pa_nil)) (pg_name (i := 4) scName.nd rfl (Or.inl rfl)) (pss_one (ps_set (i := 3) scName.nd rfl (Or.inl rfl) (pe_op op_add_str (pv 3) (pe_ix ix_str (pv 2) (pe_call GT hr1 (by rfl) mT kT bT .nil pass0 (pa_cons (pv 0) (pa_cons pe_int pa_nil))) (fun _ _ => rfl))))))
        (pss_cons (ps_if (pt_cmpR op_in_seq (pv 3) (pv 1) (by rfl)) (pss_one (ps_set (i := 3) scName.nd rfl (Or.inl rfl) (pe_op op_add_str (pv 3) (pe_callTy call_str_int (by rfl) T.str (by decide +kernel) (pa_cons (pe_callB call_len_seq (by rfl) T.len PySem.boot_len (pa_cons (pv 1) pa_nil)) pa_nil))))) pss_nil)
        (pss_one (ps_ret (pv 3))))))), ?_⟩
    refine ⟨_, rfl, b, L, 3, rfl, hb, hok, by decide, by decide, fun L1 r ok1 r0 r1 => ⟨_, _, rfl, rfl, _, rfl, by omega, by omega, for_range (n := (1 + r).toNat) (lo := 0)
      (fun i σ H' => ∃ (z : Str) (x : Option V) (L2 : List Int), σ = [some (.ref b), some (.ref u), some (.str LT), some (.str z), x] ∧ H' = upd H b (.lst (L2.map V.int)) ∧ BagOk L2 ∧ z.cps.toList.length = i ∧ ∀ c ∈ z.cps.toList, isLet c)
      ⟨_, none, L1, rfl, rfl, ok1, by decide +kernel, fun c hc => absurd hc (by rw [nil_codes]; exact List.not_mem_nil)⟩ ?_ ?_⟩⟩
    · rintro i σ H2 hi ⟨z, x, L2, rfl, rfl, ok2, hz, hzc⟩
      refine ⟨_, rfl, _, rfl, _, rfl, b, L2, 26, rfl, upd_same, ok2, by decide, by decide, fun L3 q ok3 q0 q1 => ?_⟩
      have hq3 : q.toNat < LT.cps.toList.length := by rw [lt_len]; omega
      refine ⟨LT, q, LT.cps.toList[q.toNat], rfl, rfl, by decide +kernel, ?_, ?_⟩
      · have e := atI_nat (xs := LT.cps.toList) (j := q.toNat) (List.getElem?_eq_getElem hq3)
        rw [Int.toNat_of_nonneg q0] at e
        exact e
      · have ez : z.length = i := hz
        refine ⟨z, _, rfl, rfl, ?_, ?_⟩
        · rw [ez]
          exact Nat.le_of_lt (small1000 (by show i + 1 ≤ 1000; omega))
        · refine ⟨_, _, L3, rfl, upd_upd, ok3, ?_, ?_⟩
          · rw [cat_codes, List.length_append, hz]
            rfl
          · intro c hc
            rw [cat_codes] at hc
            rcases List.mem_append.mp hc with h | h
            · exact hzc c h
            · obtain rfl : c = LT.cps.toList[q.toNat] := by simpa using h
              exact lt_facts _ (List.getElem_mem hq3)
    · rintro σ H2 ⟨z, x, L2, rfl, rfl, ok2, hz, hzc⟩
      have zl : z.length = (1 + r).toNat := hz
      have hne : z.cps.toList ≠ [] := by
        intro e
        rw [e] at hz
        simp at hz
        omega
      have at0 : NameAt zs.length z := ⟨z.cps.toList, hne, by omega, hzc, .inl rfl⟩
      refine ⟨_, rfl, _, rfl, u, _, rfl, .inl (SqL.of (by rw [upd_ne hub]; exact hu)), rfl, flat_strs zs, _, rfl, ?_⟩
      show if (inV (.str z) (zs.map V.str)) = true then _ else _
      rw [inV_str]
      by_cases hm : z ∈ zs
      · rw [decide_eq_true hm]
        refine iteT ⟨_, rfl, _, rfl, u, _, rfl, .inl (SqL.of (by rw [upd_ne hub]; exact hu)), _, rfl, ?_, z, _, rfl, rfl, ?_, _, rfl, ?_⟩
        · rw [List.length_map]
          have : ((zs.length : Nat) : Int).natAbs = zs.length := by simp
          rw [this]
          exact Nat.lt_of_le_of_lt (Nat.log2_le_self _) (by omega)
        · have d := (dg_facts zs.length (by omega)).2.1
          have e : (Str.ofString (toString ((((zs.map V.str).length : Nat) : Int)))).length = (dg zs.length).length := by
            rw [List.length_map]
            simp [dg, Str.length]
          show z.length + (Str.ofString (toString ((((zs.map V.str).length : Nat) : Int)))).length ≤ sizeLine
          rw [e, zl]
          exact Nat.le_of_lt (small1000 (by omega))
        · have ez : (z ++ (Str.ofString (toString ((((zs.map V.str).length : Nat) : Int))))).cps.toList = z.cps.toList ++ dg zs.length := by
            rw [cat_codes, List.length_map]
            rfl
          exact k L2 _ ok2 ⟨z.cps.toList, hne, by omega, hzc, .inr ez⟩ (fresh_tail ok hlen hzc ez)
      · rw [decide_eq_false hm]
        exact iteF ⟨_, rfl, k L2 z ok2 at0 hm⟩
theorem scNames : FnScope ["_law_bag_here", "_law_count", "_law_names_here", "_law_k"] ["_law_bag_here", "_law_count"] (defScope sLawNames) := ⟨rfl, rfl, rfl, by decide +kernel, rfl, by decide +kernel, by decide +kernel⟩
theorem ok_names {f : Addr} {fd : FuncData} (F : Fun K "_law_names" "_law_names" sLawNames f fd) (T : TxtM mg) (gN : Dfn P w K mg base CX0 2 "_law_name" ["_law_bag_here", "_law_used"] spName) :
    FnOk P w K mg base CX0 3 f fd ["_law_bag_here", "_law_count"] spNames := by
  obtain ⟨fNm, dNm, mNm, kNm, bNm, GNm⟩ := gN
  refine F.ok scNames (fun vs H Q E h => ?_) (fun cdv A outer s H vs Q E hr h => ?_)
  · obtain ⟨a, L, n, rfl, _⟩ := h
    rfl
  · obtain ⟨b, L, n, rfl, hb, hok, hn0, hn1, k⟩ := h
    have hr2 : Room 2 _ := hr
    refine ⟨_, (pss_cons (ps_set (i := 2) scNames.nd rfl (Or.inl rfl) (pe_lst pa_nil))
        (pss_cons (ps_for PassesOwn.never rfl (pi_range1 (by rfl) T.range (pa_cons (pv 1) pa_nil)) (pg_name (i := 3) scNames.nd rfl (Or.inl rfl)) (pss_one (ps_expr (pe_bm PySem.F.plainAttrs_list PySem.F.slot_list_append PySem.F.type_list_append mt_append (pv 2) (pa_cons (pe_call GNm hr2 (by rfl) mNm kNm bNm .nil pass0 (pa_cons (pv 0) (pa_cons (pv 2) pa_nil))) pa_nil)))))
        (pss_one (ps_ret (pv 2))))), ?_⟩
    refine ⟨Nat.zero_le _, fun u hu => ?_⟩
    have nub : u ≠ b := fun e => by rw [e, hb] at hu; cases hu
    refine ⟨_, rfl, _, rfl, by omega, by omega, for_range (n := n.toNat) (lo := 0)
      (fun i σ H' => ∃ (zs : List Str) (x : Option V) (L2 : List Int), σ = [some (.ref b), some (.int n), some (.ref u), x] ∧ SameB b H H' ∧ H' b = some (.lst (L2.map V.int)) ∧ BagOk L2 ∧ H' u = some (.lst (zs.map V.str)) ∧ NamesOk zs ∧ zs.length = i)
      ⟨[], none, L, rfl, SameB.of (Same.upd_new hu), by rw [upd_ne nub.symm]; exact hb, hok, upd_same, ⟨fun i z h => by simp at h, by simp, by simp⟩, rfl⟩ ?_ ?_⟩
    · rintro i σ H2 hi ⟨zs, x, L2, rfl, s2, hb2, ok2, hu2, okz, hz⟩
      refine ⟨_, rfl, .inl ⟨rfl, _, SqL.of hu2⟩, _, rfl, _, rfl, b, u, L2, zs, rfl, hb2, ok2, nub, hu2, okz, by omega, fun L3 z ok3 hat hnz => ?_⟩
      refine ⟨u, _, _, rfl, rfl, by rw [upd_ne nub]; exact hu2, ?_, ?_⟩
      · rw [List.length_map]
        exact small1000 (by omega)
      · refine ⟨zs ++ [z], _, L3, rfl, fun c o n h => ?_, ?_, ok3, ?_, ⟨fun j y h => ?_, ?_, ?_⟩, ?_⟩
        · have ncu : c ≠ u := ne_of_none h hu
          rw [upd_ne ncu, upd_ne n]
          exact s2 c o n h
        · rw [upd_ne nub.symm, upd_same]
        · rw [upd_same, List.map_append]
          rfl
        · by_cases hj : j < zs.length
          · rw [List.getElem?_append_left hj] at h
            exact okz.at_ j y h
          · rw [List.getElem?_append_right (by omega)] at h
            have hj0 : j - zs.length = 0 := by
              have := (List.getElem?_eq_some_iff.mp h).1
              simp at this
              omega
            rw [hj0] at h
            obtain rfl : z = y := by simpa using h
            have : j = zs.length := by omega
            rw [this]
            exact hat
        · rw [List.nodup_append]
          refine ⟨okz.nd, by simp, fun a ha c hc => ?_⟩
          obtain rfl := List.mem_singleton.mp hc
          exact fun e => hnz (e ▸ ha)
        · rw [List.length_append]
          simp
          omega
        · rw [List.length_append, hz]
          rfl
    · rintro σ H2 ⟨zs, x, L2, rfl, s2, hb2, ok2, hu2, okz, hz⟩
      exact ⟨_, rfl, k H2 u L2 zs s2 hu hu2 hb2 ok2 okz hz⟩
end
end Dl

namespace Dl
open PySem PySem.Spec PyProof.Rows L2
/-! ### texts: what is a valid name -/
theorem len_pos {z : Str} (h : ¬ z = ("" : Str)) : 1 ≤ z.length := by
  have e0 : ("" : Str) = ⟨#[]⟩ := by decide +kernel
  cases z with
  | mk cps =>
    by_cases q : cps.size = 0
    · exfalso
      apply h
      rw [e0, Array.eq_empty_of_size_eq_zero q]
    · show 1 ≤ cps.size
      omega
theorem valid_of {z : Str} (h1 : 1 ≤ z.length) (h : ∀ c ∈ z.cps.toList, c ∈ SG.cps.toList) : validN z = decide (z.length ≤ 12) := by
  unfold validN
  rw [decide_eq_true h1, List.all_eq_true.mpr fun c hc => decide_eq_true (h c hc)]
  simp
theorem invalid_of {z : Str} {c : Nat} (hc : c ∈ z.cps.toList) (h : c ∉ SG.cps.toList) : validN z = false := by
  unfold validN
  have q : (z.cps.toList.all fun c => decide (c ∈ SG.cps.toList)) = false := by
    rw [List.all_eq_false]
    exact ⟨c, hc, by simpa using h⟩
  rw [q]
  simp
end Dl

/-! C(e, ..) in a try's body: what the class's __init__ lets out is wished for at the caller's slots; lists of texts as data -/
namespace Dl
open PySem PySem.Spec PyProof.Rows L2
def tMakeS (C : Addr) (sp : Sp) (E : L2.St → XK) (t : TA) : TE := fun σ H Q => t σ H fun vs H1 =>
  ∀ x dx, H1 x = none → H1 dx = none → dx ≠ x → sp (.ref x :: vs) (upd (upd H1 dx (.own x)) x (.ins C dx [])) (fun v H2 => v = .non ∧ Q (.ref x) H2) (E σ)
theorem make_slots {X : Cx} {CX : CXT} {k : Nat} {f C : Addr} {fd : FuncData} {ps : List Str} {sp : Sp} {E : XK} {σ : L2.St} {pins : List (Addr × Obj)} {H : Hp} {s : Shared} {Q : VK} {us : List Value} {vs : List V}
    (M : Mk X.K C f) (F : FnOk X.prog X.w X.K X.mg X.base CX k f fd ps sp) (hr : Room (k + 1) X.A) (hb : Binds X.K fd ps []) (hx : PassesAt CX X σ E) (I : Inv X pins σ H s) (r : Vals vs us)
    (h : ∀ x dx, H x = none → H dx = none → dx ≠ x → sp (.ref x :: vs) (upd (upd H dx (.own x)) x (.ins C dx [])) (fun v H2 => v = .non ∧ Q (.ref x) H2) E) :
    wpAny (model X.prog X.w) X.A (call (.ref C) us) (EP X pins σ Q) X.xe s := by
  have at0 : H s.heap.objs.size = none := I.hok.fresh (Nat.le_refl _)
  have at1 : H (s.heap.objs.size + 1) = none := I.hok.fresh (Nat.le_succ _)
  have want := h _ _ at1 at0 (Nat.ne_of_lt (Nat.lt_succ_self _))
  have J := Inv.made (C := C) I
  have rv : Vals (V.ref (s.heap.objs.size + 1) :: vs) (Value.ref (s.heap.objs.size + 1) :: us) := .cons rfl r
  have len : (Value.ref (s.heap.objs.size + 1) :: us).length = ps.length := by rw [← rv.length]; exact F.len _ _ _ _ want
  have bind := hb _ (Value.ref (s.heap.objs.size + 1) :: us) J.kIn (by rw [List.append_nil]; exact len)
  rw [List.append_nil] at bind
  have body := F.run _ X.stack _ _ ⟨Value.ref (s.heap.objs.size + 1) :: us, []⟩ _ _ _ E (hr.make C us []) (J.env0.make C us []) bind rv want
  apply wpAny_call
  apply make_map (f := f) I.kIn M.makes M.init (beq_iff_eq.mp M.fn)
  apply codeAny_mono body
  intro out s2 hout
  match out, hout with
  | .error er, hout => exact hx pins _ _ er s2 J hout
  | .ok (.ret u), hout =>
    obtain ⟨v, H2, J2, rel, ev, q⟩ := J.after hout
    cases ev
    exact ⟨rel, V.ref (s.heap.objs.size + 1), H2, J2, rfl, q⟩
theorem pe_makeS {X : Cx} {CX : CXT} {k : Nat} {f C : Addr} {fd : FuncData} {ps : List Str} {sp : Sp} {E : L2.St → XK} {x : Str} {p pos : Pos} {e : Expr} {es : List Expr} {t : TA}
    (M : Mk X.K C f) (F : FnOk X.prog X.w X.K X.mg X.base CX k f fd ps sp) (hr : Room (k + 1) X.A) (hg : Gl X x) (hm : X.mg x = some (.ref C)) (hb : Binds X.K fd ps []) (hx : ∀ σ, PassesAt CX X σ (E σ)) (ha : PA X (e :: es) t)
    (hdb : (x == ("__debug__" : Str)) = false := by decide) (he : starEach (e :: es) X.env = (false, eval e X.env) :: starEach es X.env := by rfl) (hpl : (backTo pos (starEach es X.env)).any (·.1) = false := by rfl) :
    PE X (.Call (.Name x p) (e :: es) [] pos) (tMakeS C sp E t) := by
  constructor
  intro pins s σ H Q I h
  apply wpAny_Call_Name_kw
  apply ld_glob I hg hm _ hdb
  apply PySem.W.callWith_K (h₀ := X.base) I.ok.mod.kin M.kp _ he hpl
  apply thn (ha.run pos pins s σ H _ I h)
  rintro us s1 ⟨vs, H1, I1, r, q⟩
  exact ⟨I1.kIn, make_slots M F hr hb (hx σ) I1 r q⟩
/-! ### lists and tuples of texts as data -/
theorem canAll_strs : ∀ {zs : List Str}, (∀ z ∈ zs, PyData.canLay0 (.str z) = true) → PyData.canLayAll0 (zs.map PyData.str) = true
  | [], _ => by simp [PyData.canLayAll0]
  | z :: r, h => by
    rw [List.map_cons, PyData.canLayAll0, Bool.and_eq_true]
    exact ⟨h z (List.mem_cons_self ..), canAll_strs fun y hy => h y (List.mem_cons_of_mem _ hy)⟩
theorem depthAll_strs : ∀ zs : List Str, PyData.depthAll (zs.map PyData.str) = 0
  | [] => by simp [PyData.depthAll]
  | z :: r => by rw [List.map_cons, PyData.depthAll, depthAll_strs r]; simp [PyData.depth]
theorem shaped_strs {zs : List Str} (h : ∀ z ∈ zs, PyData.canLay0 (.str z) = true) : SeqAt.shaped (.list (zs.map PyData.str)) = true := by
  unfold SeqAt.shaped
  rw [Bool.and_eq_true, PyData.canLay0, PyData.depth, depthAll_strs]
  exact ⟨canAll_strs h, by decide⟩
theorem dpAll_strs {K : PySem.W.Frag} {H : Hp} : ∀ zs : List Str, DpAll K H (zs.map V.str) (zs.map PyData.str)
  | [] => .nil
  | z :: r => .cons (.str z) (dpAll_strs r)
theorem eqvAll_strs : ∀ zs ys : List Str, PyData.eqvAll (zs.map PyData.str) (ys.map PyData.str) = decide (zs = ys)
  | [], [] => by simp [PyData.eqvAll]
  | [], _ :: _ => by simp [PyData.eqvAll]
  | _ :: _, [] => by simp [PyData.eqvAll]
  | z :: r, y :: q => by
    rw [List.map_cons, List.map_cons, PyData.eqvAll, eqvAll_strs r q, PyData.eqv]
    by_cases h1 : z = y <;> by_cases h2 : r = q <;> simp [h1, h2]
end Dl

namespace Dl
open PySem PySem.Spec PyProof.Rows L2
/-! ### names and texts as data -/
def canS (z : Str) : Prop := PyData.canLay0 (.str z) = true
theorem can_of {z : Str} (h : ∀ c ∈ z.cps.toList, c < 1114112) : canS z := by
  unfold canS PyData.canLay0 PyData.strOk
  rw [Array.all_eq_true]
  intro i hi
  exact decide_eq_true (h _ (by simp))
/-- a value that is passed as a name, as data -/
def NmD (H : Hp) : V → Prop
  | .str z => canS z ∧ z.length ≤ 1000
  | .int _ => True
  | .non => True
  | .ref p => ∃ zs : List Str, H p = some (.lst (zs.map V.str)) ∧ ∀ z ∈ zs, canS z
  | _ => False
theorem NmD.ok {H : Hp} {v : V} (h : NmD H v) : NmOk H v := by
  cases v with
  | str z => exact Nat.le_of_lt (small1000 h.2)
  | int i => trivial
  | non => trivial
  | ref p => obtain ⟨zs, e, _⟩ := h; exact ⟨_, e⟩
  | bl _ => exact h.elim
  | byt _ => exact h.elim
  | flt _ => exact h.elim
  | ty _ => exact h.elim
theorem NmD.of {H H' : Hp} {v : V} (s : Same H H') (h : NmD H v) : NmD H' v := by
  cases v with
  | str z => exact h
  | int i => trivial
  | non => trivial
  | ref p => obtain ⟨zs, e, q⟩ := h; exact ⟨zs, s _ _ e, q⟩
  | bl _ => exact h.elim
  | byt _ => exact h.elim
  | flt _ => exact h.elim
  | ty _ => exact h.elim
theorem any_str (es : List Str) (y : Str) : (es.map PyData.str).any (fun z => PyData.eqv z (.str y)) = decide (y ∈ es) := by
  rw [List.any_map]
  induction es with
  | nil => simp
  | cons a r ih =>
    rw [List.any_cons, ih]
    show (PyData.eqv (.str a) (.str y) || decide (y ∈ r)) = _
    rw [PyData.eqv]
    by_cases h : a = y
    · subst h; simp
    · have h2 : ¬ y = a := fun q => h q.symm
      simp [h, h2]
theorem any_no (es : List Str) {d : PyData} (h : ∀ z : Str, PyData.eqv (.str z) d = false) : (es.map PyData.str).any (fun z => PyData.eqv z d) = false := by
  rw [List.any_map, List.any_eq_false]
  intro z _
  show ¬ PyData.eqv (.str z) d = true
  rw [h z]
  decide
/-- the data of a name -/
theorem NmD.dat (K : PySem.W.Frag) {H : Hp} {v : V} (h : NmD H v) : ∃ d, Dp K H v d ∧ PyData.canLay0 d = true ∧ d.depth ≤ 1 ∧ ∀ es : List Str, (es.map PyData.str).any (fun z => PyData.eqv z d) = knows v es := by
  cases v with
  | str z => exact ⟨.str z, .str z, h.1, by simp [PyData.depth], fun es => any_str es z⟩
  | int i => exact ⟨.int i, .int i, by simp [PyData.canLay0], by simp [PyData.depth], fun es => any_no es fun z => by rw [PyData.eqv]⟩
  | non => exact ⟨.none, .non, by simp [PyData.canLay0], by simp [PyData.depth], fun es => any_no es fun z => by rw [PyData.eqv]⟩
  | ref p =>
    obtain ⟨zs, e, q⟩ := h
    refine ⟨.list (zs.map PyData.str), .lst (SqL.of e) (dpAll_strs zs), ?_, ?_, fun es => any_no es fun z => by rw [PyData.eqv]⟩
    · rw [PyData.canLay0]; exact canAll_strs q
    · rw [PyData.depth, depthAll_strs]; decide
  | bl _ => exact h.elim
  | byt _ => exact h.elim
  | flt _ => exact h.elim
  | ty _ => exact h.elim
theorem shaped_of {d : PyData} (h : PyData.canLay0 d = true) (h2 : d.depth ≤ 1) : SeqAt.shaped d = true := by
  unfold SeqAt.shaped
  rw [h, Bool.true_and]
  exact decide_eq_true (by omega)
theorem room65 {k : Nat} {A : Around} (r : Room k A) : A.units + 65 < cLine := by
  have := r.un
  omega
theorem valid_can {z : Str} (h : validN z = true) : canS z := can_of (valid_small h).2
end Dl

namespace Dl
open PySem PySem.Spec PyProof.Rows L2
theorem int_nd {i j : Int} (h : i ≠ j) : decide (V.int i = V.int j) = false := decide_eq_false fun q => h (V.int.inj q)
theorem int_yd {i : Int} : decide (V.int i = V.int i) = true := decide_eq_true rfl
theorem iteY {c : Bool} {A B : Prop} (e : c = true) (h : A) : if c = true then A else B := by rw [if_pos e]; exact h
theorem iteZ {c : Bool} {A B : Prop} (e : c = false) (h : B) : if c = true then A else B := by rw [if_neg (by rw [e]; decide)]; exact h
end Dl

/-! len(o) and o[k] by the class's own __len__ and __getitem__ -/
namespace Dl
open PySem PySem.Spec PyProof.Rows L2
section
variable {X : Cx} {CX : CXT} {k : Nat} {C f : Addr} {fd : FuncData} {ps : List Str} {sp : Sp} {E : XK}
theorem run_at {A : Around} {pins : List (Addr × Obj)} {σ : L2.St} {H : Hp} {s : Shared} {Q : VK} {us : List Value} {vs : List V} (hA : A.frames = X.A.frames) (F : FnOk X.prog X.w X.K X.mg X.base CX k f fd ps sp) (hr : Room k A)
    (hb : Binds X.K fd ps []) (hx : Passes CX X E) (I : Inv X pins σ H s) (r : Vals vs us) (h : sp vs H Q E) : wpAny (model X.prog X.w) A (call (.ref f) us) (EP X pins σ Q) X.xe s := by
  have e0 : Env0 X.prog X.w X.K X.mg X.base A X.stack s H := by
    have e := I.env0
    exact ⟨by rw [hA]; exact e.frames, e.mod, e.bs, e.bsz, e.funs, e.frf, e.hok, e.bare⟩
  have hl := F.len _ _ _ _ h
  refine wpAny_call (codeAny_mono (F.run A X.stack s H ⟨us, []⟩ us vs Q E hr e0 (by
    have := hb s us I.kIn (by rw [List.append_nil, ← r.length]; exact hl)
    simpa using this) r h) fun r s' hq => ?_)
  cases r with
  | error e => exact hx pins σ H s e s' I hq
  | ok fl =>
    cases fl with
    | ret u => exact I.after hq
    | next => exact False.elim hq
    | brk => exact False.elim hq
    | cont => exact False.elim hq
def rLenOwn (C : Addr) (sp : Sp) (E : XK) : List V → Hp → VK → Prop := fun xs H Q => ∃ a dx fs, xs = [.ref a] ∧ H a = some (.ins C dx fs) ∧ sp [.ref a] H (fun v H' => ∃ n : Nat, v = .int (n : Int) ∧ n ≤ 1000 ∧ Q (.int (n : Int)) H') E
theorem call_lenOwn (F : FnOk X.prog X.w X.K X.mg X.base CX k f fd ps sp) (hs : PySem.W.findIn X.K (.ref C) "__len__" = some (some (.ref f))) (hf : PySem.W.isFn X.K (.ref f) = true) (hr : Room (k + 1) X.A) (hb : Binds X.K fd ps []) (hx : Passes CX X E) :
    CallR X (.builtin "len") (rLenOwn C sp E) := by
  intro pins s σ H xs us Q I r h
  obtain ⟨a, dx, fs, rfl, ha, hsp⟩ := h
  obtain ⟨u, rfl, rx⟩ := vals1 r
  cases rx
  obtain ⟨mA, J, _⟩ := ins_get I.hok ha
  obtain ⟨od, J, _⟩ := J.look
  obtain ⟨m, hF⟩ := I.fr
  refine PySem.W.len_K hF I.ok.mod.kin J hs hf ?_
  refine wpAny_mono (run_at (A := X.A.in1) rfl F hr.in1 hb hx I (show Vals [V.ref a] [Value.ref a] from .cons rfl .nil) hsp) (fun v s' hv => ?_) fun _ _ y => y
  obtain ⟨z, H', I', rz, n, ez, hn, q⟩ := hv
  subst ez
  obtain ⟨t, rfl⟩ := rz
  exact ⟨⟨by omega, by omega⟩, ⟨.int n, H', I'.tok _, ⟨_, rfl⟩, q⟩⟩
def rIxOwn (C : Addr) (sp : Sp) (E : XK) : R2 := fun x y H Q => ∃ a dx fs, x = .ref a ∧ H a = some (.ins C dx fs) ∧ sp [.ref a, y] H Q E
theorem pe_ixOwn {a b : Expr} {ta tb : TE} {pos : Pos} (F : FnOk X.prog X.w X.K X.mg X.base CX k f fd ps sp) (hs : PySem.W.findIn X.K (.ref C) "__getitem__" = some (some (.ref f))) (hfn : PySem.W.fnIn X.K f = true) (hf : PySem.W.isFn X.K (.ref f) = true)
    (hr : Room (k + 1) X.A) (hb : Binds X.K fd ps []) (hx : Passes CX X E) (ha : PE X a ta) (hb' : PE X b tb)
    (hsl : ∀ v u, subscripted b true v u = runValue (.builtin "lifetime.subscript" ⟨[v, u], []⟩) := by intros; rfl) : PE X (.Subscript a b pos) (tOp (rIxOwn C sp E) ta tb) := by
  refine ⟨fun pins s σ H Q I h => ?_⟩
  refine Subscript_ (binT ha hb' I h fun v u s2 x y H2 I2 rx ry q => ?_)
  obtain ⟨p, dx, fs, rfl, hp, hsp⟩ := q
  cases rx
  obtain ⟨mA, J, _⟩ := ins_get I2.hok hp
  obtain ⟨od, J, _⟩ := J.look
  obtain ⟨m, hF⟩ := I2.fr
  exact PySem.W.sub_K hF I2.ok.mod.kin J hs hfn hf (run_at (A := X.A.in1) rfl F hr.in1 hb hx I2 (show Vals [V.ref p, y] [Value.ref p, u] from .cons rfl (.cons ry .nil)) hsp) (hsl _ _)
end
end Dl

/-! a + b, a - b by an own method, both of one class; v in a by an own __contains__: my own rules -/
namespace Dl
open PySem PySem.Spec PyProof.Rows L2
section
variable {X : Cx} {CX : CXT} {k : Nat} {C f : Addr} {fd : FuncData} {ps : List Str} {sp : Sp} {E : XK}
theorem no_notimpl {z : V} : ¬ RelV z .notImplemented := by
  intro r
  cases z <;> first
    | (obtain ⟨t, e⟩ := (show ∃ t, Value.notImplemented = _ from r); cases e; done)
    | (have e : Value.notImplemented = _ := r; cases e; done)
def rBinOwn (C : Addr) (sp : Sp) (E : XK) : R2 := fun x y H Q => ∃ a dx fs b dy gs, x = .ref a ∧ H a = some (.ins C dx fs) ∧ y = .ref b ∧ H b = some (.ins C dy gs) ∧ sp [x, y] H Q E
theorem op_binOwn {op : Operator} (F : FnOk X.prog X.w X.K X.mg X.base CX k f fd ps sp) (self1 : PySem.W.selfFirst X.K C = true) (hs : PySem.W.findIn X.K (.ref C) (PySem.dunder op.info.2) = some (some (.ref f))) (hf : PySem.W.isFn X.K (.ref f) = true)
    (hr : Room k X.A) (hb : Binds X.K fd ps []) (hx : Passes CX X E) : OpR X (binaryOp op) (rBinOwn C sp E) := by
  intro pins s σ H x y v u Q I rx ry h
  obtain ⟨a, dx, fs, b, dy, gs, rfl, ha, rfl, hb2, hsp⟩ := h
  cases rx
  cases ry
  obtain ⟨mA, J, _⟩ := ins_get I.hok ha
  obtain ⟨od, J, _⟩ := J.look
  obtain ⟨mB, J2, _⟩ := ins_get I.hok hb2
  obtain ⟨od2, J2, _⟩ := J2.look
  obtain ⟨m, hF⟩ := I.fr
  refine PySem.W.binop_K hF I.ok.mod.kin J J2.type self1 hs hf ?_
  refine wpAny_mono (run_at (A := X.A) rfl F hr hb hx I (show Vals [V.ref a, .ref b] [Value.ref a, .ref b] from .cons rfl (.cons rfl .nil)) hsp) (fun v s' hv => ?_) fun _ _ e => e
  have hv2 := hv
  obtain ⟨z, H', I', rz, q⟩ := hv2
  cases v <;> first | exact hv | exact (no_notimpl rz).elim
def rInOwn (C : Addr) (sp : Sp) (E : XK) : R2 := fun x y H Q => ∃ a dx fs, y = .ref a ∧ H a = some (.ins C dx fs) ∧ sp [y, x] H (fun z H' => ∃ c : Bool, z = .bl c ∧ Q (.bl c) H') E
theorem op_inOwn (F : FnOk X.prog X.w X.K X.mg X.base CX k f fd ps sp) (hs : PySem.W.findIn X.K (.ref C) "__contains__" = some (some (.ref f))) (hf : PySem.W.isFn X.K (.ref f) = true)
    (hr : Room k X.A) (hb : Binds X.K fd ps []) (hx : Passes CX X E) : OpR X (compareOp .In) (rInOwn C sp E) := by
  intro pins s σ H x y v u Q I rx ry h
  obtain ⟨a, dx, fs, rfl, ha, hsp⟩ := h
  cases ry
  obtain ⟨mA, J, _⟩ := ins_get I.hok ha
  obtain ⟨od, J, _⟩ := J.look
  obtain ⟨m, hF⟩ := I.fr
  refine PySem.W.in_K hF I.ok.mod.kin J hs hf ?_
  refine wpAny_mono (run_at (A := X.A) rfl F hr hb hx I (show Vals [V.ref a, x] [Value.ref a, v] from .cons rfl (.cons rx .nil)) hsp) (fun r s' hv => ?_) fun _ _ e => e
  obtain ⟨z, H', I', rz, c, rfl, q⟩ := hv
  have er : r = .bool c := rz
  subst er
  exact wpAny_truthy_bool ⟨.bl c, H', I', rfl, q⟩
def rUnOwn (C : Addr) (sp : Sp) (E : XK) : V → Hp → VK → Prop := fun x H Q => ∃ a dx fs, x = .ref a ∧ H a = some (.ins C dx fs) ∧ sp [x] H Q E
theorem un_negOwn (F : FnOk X.prog X.w X.K X.mg X.base CX k f fd ps sp) (hs : PySem.W.findIn X.K (.ref C) "__neg__" = some (some (.ref f))) (hf : PySem.W.isFn X.K (.ref f) = true)
    (hr : Room k X.A) (hb : Binds X.K fd ps []) (hx : Passes CX X E) : UnR X (unaryOp .USub) (rUnOwn C sp E) := by
  intro pins s σ H x v Q I rx h
  obtain ⟨a, dx, fs, rfl, ha, hsp⟩ := h
  cases rx
  obtain ⟨mA, J, _⟩ := ins_get I.hok ha
  obtain ⟨od, J, _⟩ := J.look
  unfold unaryOp
  refine wpAny_holding ?_
  show wpAny _ _ (callSpecial? (.ref a) "__neg__" [] >>= _) _ _ _
  refine wpAny_bind (PySem.W.special_fn I.kIn J hs (beq_iff_eq.mp hf) ?_)
  refine wpAny_mono (run_at (A := X.A) rfl F hr hb hx I (show Vals [V.ref a] [Value.ref a] from .cons rfl .nil) hsp) (fun r s' hv => ?_) fun _ _ e => e
  exact wpAny_pure hv
/-- C(*y), the __init__ with a star parameter -/
def tMakeR1 (K : PySem.W.Frag) (C : Addr) (sp : Sp) (E : XK) (te : TE) : TE := fun σ H Q => te σ H fun y H1 => ∃ a xs, y = V.ref a ∧ (SqT K H1 a xs ∨ SqL K H1 a xs) ∧ ∀ x dx, H1 x = Option.none → H1 dx = Option.none → dx ≠ x →
  sp (V.ref x :: xs) (upd (upd H1 dx (.own x)) x (.ins C dx [])) (fun v H2 => v = .non ∧ Q (.ref x) H2) E
theorem pe_makeR1 {x : Str} {e : Expr} {te : TE} {p at_ pos : Pos} (M : Mk X.K C f) (F : FnR X.prog X.w X.K X.mg X.base CX k f sp) (room : Room (k + 1) X.A) (glob : Gl X x) (here : X.mg x = some (.ref C)) (quiet : Passes CX X E) (arg : PE X e te)
    (dbg : (x == ("__debug__" : Str)) = false := by decide) (one : starEach [.Starred e at_] X.env = [(true, eval e X.env)] := by rfl) : PE X (.Call (.Name x p) [.Starred e at_] [] pos) (tMakeR1 X.K C sp E te) := by
  constructor
  intro qs t τ G W J want
  apply wpAny_Call_Name_kw
  apply ld_glob J glob here _ dbg
  apply PySem.W.callWith_S (h₀ := X.base) J.ok.mod.kin M.kp _ one
  apply thn (arg.run qs t τ G _ J want)
  rintro v t1 ⟨y, G1, J1, rel, a, xs, rfl, seq, go⟩
  cases rel
  exact StX.star_any J1 seq fun us t2 J2 rv => ⟨J2.kIn, StX.run_makeR M F room quiet J2 rv go⟩
theorem pe_makeR0 {x : Str} {p pos : Pos} (M : Mk X.K C f) (F : FnR X.prog X.w X.K X.mg X.base CX k f sp) (room : Room (k + 1) X.A) (glob : Gl X x) (here : X.mg x = some (.ref C)) (quiet : Passes CX X E)
    (dbg : (x == ("__debug__" : Str)) = false := by decide) : PE X (.Call (.Name x p) [] [] pos) (StX.tMakeR C sp E tNil) := by
  constructor
  intro qs t τ G W J want
  apply wpAny_Call_Name_kw
  apply ld_glob J glob here _ dbg
  exact PySem.W.callWith_K0 J.kIn M.kp (StX.run_makeR (us := []) M F room quiet J .nil want)
end
end Dl

namespace Dl
open PySem PySem.Spec PyProof.Rows L2
structure TxtS (mg : Str → Option Value) : Prop where
  isinstance : mg "isinstance" = none
  bool : mg "bool" = none
  int : mg "int" = none
  tuple : mg "tuple" = none
  list : mg "list" = none
  len : mg "len" = none
def spIs : Sp := fun vs H Q _ => ∃ a b : Bool, vs = [.bl a, .bl b] ∧ a = b ∧ Q (.bl true) H
section
variable {P : Program} {w : World} {K : PySem.W.Frag} {mg : Str → Option Value} {base : Heap}
theorem scLawIs : FnScope ["_law_value", "_law_due"] ["_law_value", "_law_due"] (defScope sLawIs) := ⟨rfl, rfl, rfl, by decide +kernel, rfl, by decide +kernel, by decide +kernel⟩
theorem ok_is {f : Addr} {fd : FuncData} (F : Fun K "_law_is" "_law_is" sLawIs f fd) (T : TxtS mg) : FnOk P w K mg base CX0 1 f fd ["_law_value", "_law_due"] spIs := by
  refine F.ok scLawIs (fun vs H Q E h => ?_) (fun cdv A outer s H vs Q E hr h => ?_)
  · obtain ⟨a, b, rfl, _⟩ := h
    rfl
  · obtain ⟨a, b, rfl, rfl, k⟩ := h
    refine ⟨_, (pss_one (ps_ret (pe_and (pe_callB call_isi (by rfl) T.isinstance (by decide +kernel) (pa_cons (pv 0) (pa_cons (pe_bltn (v := .ty "bool") (by rfl) T.bool (by decide +kernel) rfl) pa_nil))) (pe_one (pe_cmpR op_eq (pv 0) (pv 1) (nomark _)))))), ?_⟩
    refine ⟨_, rfl, _, _, _, _, true, rfl, ClsV.ty "bool", .base (.bl a), kit_ty (by decide +kernel), true, rfl, iteT ?_⟩
    refine ⟨_, rfl, _, rfl, rfl, ?_⟩
    rw [decide_eq_true (rfl : V.bl a = V.bl a)]
    exact k
end
end Dl

/-! x != y by the default __ne__ over an own __eq__, y of any type that isn't in front: my own rule -/
namespace Dl
open PySem PySem.Spec PyProof.Rows L2
section
variable {prog : Program} {w : World} {A : Around} {E : Value → Shared → Prop} {s : Shared} {K : PySem.W.Frag} {x C L f : Addr} {h₀ : Heap} {m : Str → Option Value} {ox : Obj} {od : Option Obj} {b tb : Value}
theorem ne_entry_K (X : K.In s.heap) (I : PySem.W.InstAt s.heap x ox C od) (he : PySem.W.findIn K (.ref C) "__eq__" = some (some (.ref f))) (hf : PySem.W.isFn K (.ref f) = true) (hu : A.units < cLine) {Q : Fin → Shared → Prop}
    (hcall : wpAny (model prog w) A (call (.ref f) [.ref x, b]) (fun v s' => ∃ t, v = .bool t ∧ Q (.done (.ret (.bool (!t)))) s') E s) : wpAny (model prog w) A (Builtin.«object.__ne__» ⟨[.ref x, b], []⟩) Q E s := by
  unfold Builtin.«object.__ne__»
  repeat (first
    | with_reducible refine wpAny_cRoomFor hu ?_
    | (refine wpAny_bind (m := callSpecialIfBound? (.ref x) (Str.ofString "__eq__") [b])
        (PySem.W.ifBound_K X I he hf (wpAny_mono hcall (fun v s' hr => by
          obtain ⟨b, rfl, hq⟩ := hr
          repeat (first | exact hq | exact wpAny_pure hq | exact wpAny_truthy_bool hq | (refine wpAny_bind (m := truthy (.bool _)) (wpAny_truthy_bool ?_)) | wp_step)) fun _ _ e => e)))
    | wp_step)
theorem check_slot_K {M : Model} {id n : String} {rest : List Value} {Q : Unit → Shared → Prop} (X : K.In s.heap) (I : PySem.W.InstAt s.heap x ox C od) (hm : PySem.W.mroIn K C (.type "object") = some true) (hk : builtinKind id = some .slot) (hs : splitId id = some ("object", n))
    (ha : argsOk id ⟨.ref x :: rest, []⟩) (hq : Q () s) : wpAny M A (checkBuiltinCall id ⟨.ref x :: rest, []⟩) Q E s := by
  simp only [checkBuiltinCall, hk, hs]
  refine wpAny_bind ?_
  unfold isInstance
  refine wpAny_bind (I.type.here ((PySem.W.looks_mroIn X hm).here ?_))
  repeat wp_step
  cases hsig : Manifest.signature? id with
  | none => exact wpAny_pure hq
  | some sig =>
    simp only [argsOk, hsig] at ha
    have h2 : Bind.checkArgs id sig ⟨.ref x :: rest, []⟩ = pure () := ha
    show wpAny M A (Bind.checkArgs id sig ⟨.ref x :: rest, []⟩) Q E _
    rw [h2]; exact wpAny_pure hq
theorem ifBoundB_K {M : Model} {args : List Value} {name : Str} {id : String} {Q : Option Value → Shared → Prop} (X : K.In s.heap) (I : PySem.W.InstAt s.heap x ox C od) (hs : PySem.W.findIn K (.ref C) name = some (some (.builtin id))) {B : String} (S : Slot B name id)
    (h : wpAny M A (call (.builtin id) (.ref x :: args)) (fun v => Q (some v)) E s) : wpAny M A (callSpecialIfBound? (.ref x) name args) Q E s := by
  simp only [callSpecialIfBound?, bindSpecialIfBound?]
  refine wpAny_holding (wpAny_bind (wpAny_bind (wpAny_bind (I.type.here ((PySem.W.looks_findIn X hs).here ?_)))))
  simp only [S.bind]
  refine wpAny_bind (wpAny_askSetting (wpAny_ite ?_))
  have fin : wpAny M A (call (.builtin id) ([.ref x] ++ args) >>= fun v => pure (some v)) Q E s := wpAny_bind (wpAny_mono h (fun v s' h' => wpAny_pure h') fun _ _ h' => h')
  split
  · exact wpAny_bind (wpAny_pure (wpAny_pure fin))
  · exact wpAny_tryCatch (wpAny_bind (wpAny_pure (wpAny_pure fin)))
theorem ne_K {Q : Value → Shared → Prop} (hu : A.units + 1 < cLine) (F : PyProof.Rows.Fr h₀ L s.heap m) (X₀ : K.In h₀) (I : PySem.W.InstAt s.heap x ox C od) (hb : PySem.W.Looks (model prog w) s.heap (typeOf b) tb) (hn : PySem.W.notFirst K C tb = true)
    (hne : PySem.W.findIn K (.ref C) "__ne__" = some (some (.builtin "object.__ne__"))) (he : PySem.W.findIn K (.ref C) "__eq__" = some (some (.ref f))) (hf : PySem.W.isFn K (.ref f) = true) (hm : PySem.W.mroIn K C (.type "object") = some true)
    (h : wpAny (model prog w) A.in1 (call (.ref f) [.ref x, b]) (fun v s' => ∃ t, v = .bool t ∧ Q (.bool (!t)) s') E s) : wpAny (model prog w) A (richCompare .NotEq (.ref x) b) Q E s := by
  have X := X₀.keeps F.keep
  have one : wpAny (model prog w) A (tryCompare (.ref x) "__ne__" b) (fun r s' => ∃ v, r = some v ∧ Q v s') E s := by
    unfold tryCompare
    refine wpAny_bind (ifBoundB_K X I hne PySem.F.cmp_object.ne (wpAny_call (codeAny_call_builtin PySem.F.cmp_object.ne.plain PySem.F.cmpEntry_ne
      (check_slot_K X I hm PySem.F.cmpKind_ne PySem.F.cmpSplit_ne (PySem.F.cmpArgs_ne _ _) (ne_entry_K (A := A.in1) X I he hf hu (wpAny_mono h (fun v s' hv => ?_) fun _ _ e => e))))))
    obtain ⟨t, rfl, hq⟩ := hv
    first | exact ⟨t, rfl, wpAny_pure ⟨_, rfl, hq⟩⟩ | exact ⟨t, rfl, wpAny_pure (wpAny_pure ⟨_, rfl, hq⟩)⟩
  unfold richCompare
  simp only [oneThing_ref]
  refine wpAny_holding (wpAny_bind (wpAny_cRoomFor (Nat.lt_of_succ_lt hu) ?_))
  rw [cmpInfo_NotEq]
  dsimp only
  refine wpAny_bind (I.type.here (wpAny_bind (hb.here ?_)))
  split
  · rename_i q
    have e : PySem.W.subIn K tb (.ref C) = some false := by
      rcases Bool.or_eq_true_iff.mp hn with e | e
      · rw [beq_iff_eq.mp e] at q; simp at q
      · exact beq_iff_eq.mp e
    refine wpAny_bind ((PySem.W.looks_subIn X e).here ?_)
    simp only [Bool.false_eq_true, if_false]
    refine wpAny_bind (wpAny_mono one (fun r s' z => ?_) fun _ _ e => e)
    obtain ⟨v, rfl, hq⟩ := z
    exact wpAny_pure hq
  · refine wpAny_bind (wpAny_pure ?_)
    simp only [Bool.false_eq_true, if_false]
    refine wpAny_bind (wpAny_mono one (fun r s' z => ?_) fun _ _ e => e)
    obtain ⟨v, rfl, hq⟩ := z
    exact wpAny_pure hq
end
end Dl
namespace Dl
open PySem PySem.Spec PyProof.Rows L2
section
variable {X : Cx}
/-- the type of a value, looked up -/
theorem look_ty {pins : List (Addr × Obj)} {σ : L2.St} {H : Hp} {s : Shared} {x : V} {u t : Value} (I : Inv X pins σ H s) (rx : RelV x u) (ty : TyOf X.K H x t) : PySem.W.Looks (model X.prog X.w) s.heap (typeOf u) t := by
  have at_ : ∀ {a : Addr} {o : Obj} {t : Value}, s.heap.get? a = some o → o.cls = t → PySem.W.Looks (model X.prog X.w) s.heap (typeOf (.ref a)) t := fun h e A Q E s' k q => wpAny_typeOf_ref (k _ _ h) (by rw [e]; exact q)
  cases ty with
  | non => cases (show u = Value.none from rx); exact .of_pure rfl
  | bl y => cases (show u = Value.bool y from rx); exact .of_pure rfl
  | int i => obtain ⟨t, q⟩ := (show ∃ t, u = Value.int i t from rx); cases q; exact .of_pure rfl
  | str y => obtain ⟨t, q⟩ := (show ∃ t, u = Value.str y t from rx); cases q; exact .of_pure rfl
  | flt y => obtain ⟨t, q⟩ := (show ∃ t, u = Value.float y t from rx); cases q; exact .of_pure rfl
  | @lst a xs ea =>
    cases (show u = Value.ref a from rx)
    obtain ⟨_, _, n, _, h1⟩ := (show ObjOk X.prog X.w H s.heap a (.lst xs) from I.hok a _ ea)
    exact at_ h1 rfl
  | @frz a ob xs ea =>
    cases (show u = Value.ref a from rx)
    obtain ⟨_, _, _, n, _, h1⟩ := (show ObjOk X.prog X.w H s.heap a (.frz ob (.lst xs)) from I.hok a _ ea)
    exact at_ h1 rfl
  | @tup a xs ea =>
    cases (show u = Value.ref a from rx)
    obtain ⟨_, _, _, p⟩ := (show ObjOk X.prog X.w H s.heap a (.tup xs) from I.hok a _ ea)
    obtain ⟨o, h1, h2, _⟩ := p
    exact at_ h1 h2
  | @dK a kvs ea =>
    cases (show u = Value.ref a from rx)
    obtain ⟨_, _, vs, _, p⟩ := (show ObjOk X.prog X.w H s.heap a (.dK kvs) from I.hok a _ ea)
    obtain ⟨o, es, ep, h1, h2, _⟩ := p
    exact at_ h1 h2.1
  | @dT a kvs ea =>
    cases (show u = Value.ref a from rx)
    obtain ⟨_, _, xs, _, o, es, ep, h1, h2, _⟩ := (show ObjOk X.prog X.w H s.heap a (.dT kvs) from I.hok a _ ea)
    exact at_ h1 h2.1
  | @ins a C dx fs ea _ _ _ _ _ =>
    cases (show u = Value.ref a from rx)
    obtain ⟨_, J, _⟩ := ins_get I.hok ea
    obtain ⟨od, J, _⟩ := J.look
    exact J.type
/-- x == y by x's own __eq__, whatever y is -/
def rEqAny (K : PySem.W.Frag) (C : Addr) (sp : Sp) (E : XK) : R2 := fun x y H Q => ∃ a dx fs tb, x = .ref a ∧ H a = some (.ins C dx fs) ∧ TyOf K H y tb ∧ PySem.W.notFirst K C tb = true ∧ sp [.ref a, y] H (fun v H' => ∃ t, v = .bl t ∧ Q (.bl t) H') E
def rNeAny (K : PySem.W.Frag) (C : Addr) (sp : Sp) (E : XK) : R2 := fun x y H Q => ∃ a dx fs tb, x = .ref a ∧ H a = some (.ins C dx fs) ∧ TyOf K H y tb ∧ PySem.W.notFirst K C tb = true ∧ sp [.ref a, y] H (fun v H' => ∃ t, v = .bl t ∧ Q (.bl (!t)) H') E
theorem op_eqAny {CX : CXT} {k : Nat} {C f : Addr} {fd : FuncData} {ps : List Str} {sp : Sp} {E : XK} (F : FnOk X.prog X.w X.K X.mg X.base CX k f fd ps sp) (hs : PySem.W.findIn X.K (.ref C) "__eq__" = some (some (.ref f))) (hf : PySem.W.isFn X.K (.ref f) = true)
    (hr : Room k X.A) (hb : Binds X.K fd ps []) (hx : Passes CX X E) : OpR X (compareOp .Eq) (rEqAny X.K C sp E) := by
  intro pins s σ H x y v u Q I rx ry h
  obtain ⟨a, dx, fs, tb, rfl, ha, ty, hn, hsp⟩ := h
  cases rx
  obtain ⟨mA, J, _⟩ := ins_get I.hok ha
  obtain ⟨od, J, _⟩ := J.look
  obtain ⟨m, hF⟩ := I.fr
  show wpAny (model X.prog X.w) X.A (richCompare .Eq (.ref a) u) (EP X pins σ Q) X.xe s
  refine PySem.W.cmp_K (op := .Eq) (tb := tb) hr.units0 hF I.ok.mod.kin J (look_ty I ry ty) hn hs hf ?_
  refine wpAny_mono (run_at (A := X.A) rfl F hr hb hx I (show Vals [V.ref a, y] [Value.ref a, u] from .cons rfl (.cons ry .nil)) hsp) (fun v s' hv => ?_) fun _ _ y => y
  obtain ⟨z, H', I', rz, t, ez, q⟩ := hv
  subst ez
  cases rz
  exact ⟨.bl t, H', I', rfl, q⟩
theorem op_neAny {CX : CXT} {k : Nat} {C f : Addr} {fd : FuncData} {ps : List Str} {sp : Sp} {E : XK} (F : FnOk X.prog X.w X.K X.mg X.base CX k f fd ps sp) (hne : PySem.W.findIn X.K (.ref C) "__ne__" = some (some (.builtin "object.__ne__"))) (hm : PySem.W.mroIn X.K C (.type "object") = some true)
    (hs : PySem.W.findIn X.K (.ref C) "__eq__" = some (some (.ref f))) (hf : PySem.W.isFn X.K (.ref f) = true) (hr : Room (k + 1) X.A) (hb : Binds X.K fd ps []) (hx : Passes CX X E) : OpR X (compareOp .NotEq) (rNeAny X.K C sp E) := by
  intro pins s σ H x y v u Q I rx ry h
  obtain ⟨a, dx, fs, tb, rfl, ha, ty, hn, hsp⟩ := h
  cases rx
  obtain ⟨mA, J, _⟩ := ins_get I.hok ha
  obtain ⟨od, J, _⟩ := J.look
  obtain ⟨m, hF⟩ := I.fr
  show wpAny (model X.prog X.w) X.A (richCompare .NotEq (.ref a) u) (EP X pins σ Q) X.xe s
  refine ne_K (tb := tb) (by have := hr.units; omega) hF I.ok.mod.kin J (look_ty I ry ty) hn hne hs hf hm ?_
  refine wpAny_mono (run_at (A := X.A.in1) rfl F hr.in1 hb hx I (show Vals [V.ref a, y] [Value.ref a, u] from .cons rfl (.cons ry .nil)) hsp) (fun v s' hv => ?_) fun _ _ y => y
  obtain ⟨z, H', I', rz, t, ez, q⟩ := hv
  subst ez
  cases rz
  exact ⟨t, rfl, .bl (!t), H', I', rfl, q⟩
end
end Dl

/-! a + n, n + a with an own __add__, __radd__ and a whole number n: my own rules -/
namespace Dl
open PySem PySem.Spec PyProof.Rows L2
section
variable {X : Cx} {CX : CXT} {k : Nat} {C f : Addr} {fd : FuncData} {ps : List Str} {sp : Sp} {E : XK}
def rBinInt (C : Addr) (sp : Sp) (E : XK) : R2 := fun x y H Q => ∃ a dx fs i, x = .ref a ∧ H a = some (.ins C dx fs) ∧ y = .int i ∧ sp [x, y] H Q E
theorem op_binInt {op : Operator} (F : FnOk X.prog X.w X.K X.mg X.base CX k f fd ps sp) (self1 : PySem.W.selfFirst X.K C = true) (hs : PySem.W.findIn X.K (.ref C) (PySem.dunder op.info.2) = some (some (.ref f))) (hf : PySem.W.isFn X.K (.ref f) = true)
    {rc fo ro : Option Value} (h0 : PySem.W.findIn X.K (.ref C) (PySem.dunderR op.info.2) = some rc) (hp : rc = none ∨ ∃ g : Addr, rc = some (.ref g)) (h1 : PySem.W.findIn X.K (.type "int") (PySem.dunder op.info.2) = some fo) (h2 : PySem.W.findIn X.K (.type "int") (PySem.dunderR op.info.2) = some ro)
    (hsub : PySem.W.subIn X.K (.type "int") (.ref C) = some false) (hr : Room k X.A) (hb : Binds X.K fd ps []) (hx : Passes CX X E) : OpR X (binaryOp op) (rBinInt C sp E) := by
  intro pins s σ H x y v u Q I rx ry h
  obtain ⟨a, dx, fs, i, rfl, ha, rfl, hsp⟩ := h
  cases rx
  obtain ⟨t, rfl⟩ := ry
  obtain ⟨mA, J, _⟩ := ins_get I.hok ha
  obtain ⟨od, J, _⟩ := J.look
  obtain ⟨m, hF⟩ := I.fr
  refine PySem.W.ksp_binT (T := "int") hF I.ok.mod.kin J rfl self1 hs hf h0 hp h1 h2 hsub ?_
  refine wpAny_mono (run_at (A := X.A) rfl F hr hb hx I (show Vals [V.ref a, .int i] [Value.ref a, Value.int i t] from .cons rfl (.cons ⟨t, rfl⟩ .nil)) hsp) (fun v s' hv => ?_) fun _ _ e => e
  have hv2 := hv
  obtain ⟨z, H', I', rz, q⟩ := hv2
  cases v <;> first | exact hv | exact (no_notimpl rz).elim
theorem int_add_inst {prog : Program} {w : World} {A : Around} {E : Value → Shared → Prop} {s : Shared} {i : Int} {t : Tok} {a dx : Addr} {C : Addr} {Q : Value → Shared → Prop} (ha : s.heap.get? a = some (PySem.W.instObj C dx)) (q : Q .notImplemented s) :
    wpAny (model prog w) A (call (.builtin "int.__add__") [.int i t, .ref a]) Q E s := by
  refine wpAny_call_entry (s := s) PySem.F.slot_int_add (typeIs_int s i t) PySem.F.entry_int_add ?_ (PySem.F.args_int_add_2 _ _)
  unfold Builtin.«int.__add__» Builtin.Int.intBinary
  refine wpAny_bind (m := slotArgs _ _ _) (wpAny_of_eq (a := (Value.int i t, [Value.ref a])) rfl ?_)
  refine wpAny_bind (m := Builtin.Int.intOfSelf _) (wpAny_of_eq (a := i) rfl ?_)
  refine wpAny_bind ?_
  show wpAny _ _ (load a >>= _) _ _ _
  refine wpAny_bind (wpAny_load ha ?_)
  refine wpAny_pure ?_
  refine wpAny_bind (wpAny_rule ?_)
  exact wpAny_pure ⟨_, rfl, q⟩
def rIntBin (C : Addr) (sp : Sp) (E : XK) : R2 := fun x y H Q => ∃ a dx fs i, y = .ref a ∧ H a = some (.ins C dx fs) ∧ x = .int i ∧ sp [y, x] H Q E
theorem op_intAdd (F : FnOk X.prog X.w X.K X.mg X.base CX k f fd ps sp) (self1 : PySem.W.selfFirst X.K C = true) {g : Addr} (h0 : PySem.W.findIn X.K (.ref C) (PySem.dunder "add") = some (some (.ref g))) (hs : PySem.W.findIn X.K (.ref C) (PySem.dunderR "add") = some (some (.ref f))) (hf : PySem.W.isFn X.K (.ref f) = true)
    (hsub : PySem.W.subIn X.K (.ref C) (.type "int") = some false) (hr : Room k X.A) (hb : Binds X.K fd ps []) (hx : Passes CX X E) : OpR X (binaryOp .Add) (rIntBin C sp E) := by
  intro pins s σ H x y v u Q I rx ry h
  obtain ⟨a, dx, fs, i, rfl, ha, rfl, hsp⟩ := h
  obtain ⟨t, rfl⟩ := rx
  cases ry
  obtain ⟨mA, J0, _⟩ := ins_get I.hok ha
  obtain ⟨od, J, _⟩ := J0.look
  obtain ⟨m, hF⟩ := I.fr
  have X0 := I.ok.mod.kin.keeps hF.keep
  obtain ⟨cd, rest, hcd, hm⟩ := PySem.W.ksp_first self1
  have L3 := PySem.W.fills_K (M := model X.prog X.w) (nm := "add") X0 hcd hm h0
  have L5 := PySem.W.looks_subIn (M := model X.prog X.w) X0 hsub
  have one := PySem.W.ksp_try (M := model X.prog X.w) (A := X.A) (b := .int i t) (E := X.xe) (Q := EP X pins σ Q) X0 J hs hf (wpAny_mono (run_at (A := X.A) rfl F hr hb hx I (show Vals [V.ref a, .int i] [Value.ref a, Value.int i t] from .cons rfl (.cons ⟨t, rfl⟩ .nil)) hsp) (fun v s' hv => by
    have hv2 := hv
    obtain ⟨z, H', I', rz, q⟩ := hv2
    cases v <;> first | exact hv | exact (no_notimpl rz).elim) fun _ _ e => e)
  have hne : (Value.type "int" == Value.ref C) = false := Bool.eq_false_iff.mpr fun q => by cases beq_iff_eq.mp q
  unfold binaryOp
  refine wpAny_holding (wpAny_bind ?_)
  unfold binaryOp1
  refine wpAny_bind (wpAny_typeOf (typeIs_int s i t) (wpAny_bind (J.type.here (wpAny_bind (wpAny_of_eq PySem.F.fills_int_add ?_)))))
  simp only [hne, Bool.false_eq_true, if_false]
  refine wpAny_bind (L3.here ?_)
  simp only [Bool.and_self, if_true]
  refine wpAny_bind (L5.here ?_)
  simp only [Bool.false_eq_true, if_false, Bool.not_false, Bool.and_true, if_true]
  refine wpAny_bind (wpAny_of_eq (a := false) rfl ?_)
  simp only [Bool.false_eq_true, if_false]
  refine wpAny_bind (m := tryMethod (.int i t) _ (.ref a)) ?_
  unfold tryMethod
  refine wpAny_bind (wpAny_callSpecial?_slot (typeIs_int s i t) PySem.F.slot_int_add (int_add_inst J0.obj ?_))
  refine wpAny_pure ?_
  dsimp only
  refine wpAny_bind (m := tryMethod (.ref a) _ (.int i t)) ?_
  refine wpAny_mono one (fun r s' hr' => ?_) fun _ _ e => e
  obtain ⟨v, rfl, hq⟩ := hr'
  dsimp only
  refine wpAny_bind (wpAny_rule ?_)
  exact wpAny_pure (wpAny_pure hq)
end
end Dl

/-! == of two dicts with keys that are texts and values that are data, in any order: my own rule -/
namespace Dl
open PySem PySem.Spec PyProof.Rows L2
/-- the value of the key -/
def dval {α : Type} (ds : List (Str × α)) (k : Str) : Option α := (ds.find? fun p => decide (p.1 = k)).map (·.2)
/-- what == of the dicts answers -/
def deq (ds es : List (Str × PyData)) : Bool := decide (ds.length = es.length) && ds.all fun p => match dval es p.1 with | none => false | some y => PyData.eqv p.2 y
/-- the dict at a has these pairs -/
def DDp (K : PySem.W.Frag) (H : Hp) (a : Addr) (ds : List (Str × PyData)) : Prop := ∃ L : List (Str × V × PyData), L.map (fun q => (q.1, q.2.2)) = ds ∧ Rd H a (.dK (L.map fun q => (Sum.inr q.1, q.2.1))) ∧ ∀ q ∈ L, Dp K H q.2.1 q.2.2 ∧ SeqAt.shaped q.2.2 = true
section
variable {X : Cx}
theorem valV_dd (k : Str) : ∀ L : List (Str × V × PyData), valV (L.map fun q => ((Sum.inr q.1 : Key), q.2.1)) (.inr k) = (L.find? fun q => decide (q.1 = k)).map (·.2.1)
  | [] => rfl
  | p :: r => by
    rw [List.map_cons, List.find?_cons]
    by_cases e : p.1 = k
    · rw [valV_pos (by rw [e]), decide_eq_true e]
      rfl
    · rw [valV_neg (fun q => e (Sum.inr.inj q)), decide_eq_false e]
      exact valV_dd k r
theorem dval_dd (k : Str) : ∀ L : List (Str × V × PyData), dval (L.map fun q => (q.1, q.2.2)) k = (L.find? fun q => decide (q.1 = k)).map (·.2.2)
  | [] => rfl
  | p :: r => by
    have ih := dval_dd k r
    unfold dval at ih ⊢
    rw [List.map_cons, List.find?_cons, List.find?_cons]
    by_cases e : p.1 = k
    · rw [decide_eq_true e]
      rfl
    · rw [decide_eq_false e]
      exact ih
theorem eqP_dp {pins : List (Addr × Obj)} {σ : L2.St} {H : Hp} {s : Shared} (I : Inv X pins σ H s) (hu : X.A.units + 66 < cLine) {x y : V} {v u : Value} {d e : PyData} (rx : RelV x v) (ry : RelV y u) (dx : Dp X.K H x d) (dy : Dp X.K H y e) (sx : SeqAt.shaped d = true) (sy : SeqAt.shaped e = true) :
    SeqAt.EqP X.prog X.w X.A.in1 s v u (PyData.eqv d e) := by
  obtain ⟨as, ra⟩ := Dp.reads I d x v dx rx
  obtain ⟨bs, rb⟩ := Dp.reads I e y u dy ry
  exact (SeqAt.eqAt_reads d e X.A.in1 s v u as bs ra rb (SeqAt.canLay_of_shaped sx) (SeqAt.canLay_of_shaped sy) (SeqAt.room_of_shaped sx (by show X.A.units + 1 + 64 < cLine; omega))).eqP
theorem hits_dd {pins : List (Addr × Obj)} {σ : L2.St} {H : Hp} {s : Shared} (I : Inv X pins σ H s) (hu : X.A.units + 66 < cLine) {M : List (Str × V × PyData)} {vb : List (Key × Value)} (hM : ∀ q ∈ M, Dp X.K H q.2.1 q.2.2 ∧ SeqAt.shaped q.2.2 = true) (rb : KV (M.map fun q => ((Sum.inr q.1 : Key), q.2.1)) vb) :
    ∀ {L : List (Str × V × PyData)} {va : List (Key × Value)}, KV (L.map fun q => ((Sum.inr q.1 : Key), q.2.1)) va → (∀ q ∈ L, Dp X.K H q.2.1 q.2.2 ∧ SeqAt.shaped q.2.2 = true) →
      PySem.W.KeqHitsP X.prog X.w X.A.in1 s vb va ((L.map fun q => (q.1, q.2.2)).all fun p => match dval (M.map fun q => (q.1, q.2.2)) p.1 with | none => false | some y => PyData.eqv p.2 y)
  | [], va, r, _ => by
    unfold KV at r
    cases r
    exact .nil
  | p :: L, va, r, h => by
    unfold KV at r
    cases r with
    | @cons _ q _ qs h1 t =>
    obtain ⟨e1, r1⟩ := h1
    obtain ⟨key, v⟩ := q
    have e1' : Sum.inr p.1 = key := e1
    subst e1'
    rw [List.map_cons, List.all_cons]
    have ro := rb.val (.inr p.1)
    rw [valV_dd] at ro
    show PySem.W.KeqHitsP _ _ _ _ _ _ ((match dval (M.map fun q => (q.1, q.2.2)) p.1 with | none => false | some y => PyData.eqv p.2.2 y) && _)
    rw [dval_dd]
    cases hf : M.find? (fun q => decide (q.1 = p.1)) with
    | none =>
      rw [hf] at ro
      refine .miss ?_
      have := ro.isSome_eq
      cases hv : valueAt vb (.inr p.1) with
      | none => rfl
      | some _ => rw [hv] at this; cases this
    | some m =>
      rw [hf] at ro
      obtain ⟨y, hy, ry⟩ := ro.some_of
      obtain ⟨dm, sm⟩ := hM m (List.mem_of_find?_eq_some hf)
      obtain ⟨dp, sp⟩ := h p (List.mem_cons_self ..)
      exact .hit hy (eqP_dp I hu r1 ry dp dm sp sm) (hits_dd I hu hM rb t fun q hq => h q (List.mem_cons_of_mem _ hq))
def rEqDD (K : PySem.W.Frag) : R2 := fun x y H Q => ∃ a b ds es, x = .ref a ∧ y = .ref b ∧ DDp K H a ds ∧ DDp K H b es ∧ Q (.bl (deq ds es)) H
theorem op_eqDD (hu : X.A.units + 66 < cLine) : OpR X (compareOp .Eq) (rEqDD X.K) := by
  intro pins s σ H x y v u Q I rx ry h
  obtain ⟨a, b, ds, es, rfl, rfl, ⟨L, rfl, ha, hL⟩, ⟨M, rfl, hb, hM⟩, q⟩ := h
  cases rx
  cases ry
  obtain ⟨_, ya, va, ra, da⟩ := dk_rd I.hok ha
  obtain ⟨_, yb, vb, rb, db⟩ := dk_rd I.hok hb
  show wpAny (model X.prog X.w) X.A (richCompare .Eq (.ref a) (.ref b)) _ _ s
  refine PySem.W.rcP_dicts (knd := mixKind X.prog X.w) ya yb da db (by omega) (fun _ => hits_dd I hu hM rb ra hL) _ _ ?_
  have l1 : va.length = L.length := by rw [← ra.length, List.length_map]
  have l2 : vb.length = M.length := by rw [← rb.length, List.length_map]
  refine ⟨.bl _, H, I, ?_, q⟩
  show Value.bool _ = Value.bool _
  unfold deq
  rw [l1, l2, List.length_map, List.length_map]
  rfl
end
end Dl

/-! a dict comprehension as an assigned value, a walk for it; list(d.values()); list(reversed(a list)): my own rules -/
namespace Dl
open PySem PySem.Spec PyProof.Rows L2
section
variable {X : Cx}
/-- the dict that an expression gives, frozen from then on -/
def tFrozen (td : TE) : TE := fun σ H Q => td σ H fun x H1 => ∃ d kvs, x = .ref d ∧ H1 d = some (.dK kvs) ∧ ∀ od, Q x (upd H1 d (.frz od (.dK kvs)))
theorem pe_frozen {e : Expr} {td : TE} (he : PE X e td) : PE X e (tFrozen td) := by
  constructor
  intro pins s σ H Q I h
  apply thn (he.run pins s σ H _ I h)
  rintro v s1 ⟨x, H1, I1, r1, d, kvs, rfl, hd, q⟩
  obtain ⟨od, I2⟩ := I1.lock hd True.intro
  exact ⟨.ref d, _, I2, r1, q od⟩
theorem sw_dict {kx vx : Expr} {gs : List Comprehension} {scope : Scope} {pos py : Pos} {y : Str} {l : Nat} {env : Env} (hk : env.scope.kind = .function) (hy : env.scope.names.lookup y = some .local) (hl : (py.line == pos.line) = true)
    (ha : (scope.names.any fun (n, k) => n == y && (k == .local || k == .cell)) = false) : swapsWith (.DictComp kx vx gs scope pos) (some (.Name y py)) l env = pure true := by
  have kind : env.kindOf y = some .local := hy
  have block : env.blockKind = .function := by
    unfold Env.blockKind
    rw [hk]
    rfl
  unfold swapsWith
  simp only [block, kind, ha, Expr.pos, hl]
  rfl
theorem ps_setDc1 {i : Nat} {y : Str} {py spos : Pos} {kx vx tg iter : Expr} {ifs : List Expr} {scope : Scope} {own : List (Str × Nat)} {pos : Pos} {wi : TI} {g : TG} {tt : TT} {tk tv : TE} (calm : X.calm = true) (nd : X.N.Nodup) (at_ : X.N[i]? = some y) (loc : X.env.scope.names.lookup y = some .local) (sw : swapsWith (.DictComp kx vx [⟨tg, iter, ifs, 0⟩] scope pos) (some (.Name y py)) spos.line X.env = pure true) (src : PI X tg iter wi) (ok : BlkOk X.N X.env.scope scope own)
    (pg : ∀ (s : Shared) (H : Hp) (C : Addr) (cl : List (Str × Addr)) (fp : List Addr), PG (X.blk s H scope (compEnvC scope cl C X.env) fp) tg g) (pt : ∀ (s : Shared) (H : Hp) (C : Addr) (cl : List (Str × Addr)) (fp : List Addr), PTs (X.blk s H scope (compEnvC scope cl C X.env) fp) ifs tt)
    (pk : ∀ (s : Shared) (H : Hp) (C : Addr) (cl : List (Str × Addr)) (fp : List Addr), PE (X.blk s H scope (compEnvC scope cl C X.env) fp) kx tk) (pv : ∀ (s : Shared) (H : Hp) (C : Addr) (cl : List (Str × Addr)) (fp : List Addr), PE (X.blk s H scope (compEnvC scope cl C X.env) fp) vx tv)
    (plain : ∀ x, foldedSetIterable iter X.env x = pure x := by intro _; rfl) :
    PS X (.Assign [.Name y py] (.DictComp kx vx [⟨tg, iter, ifs, 0⟩] scope pos) spos) (tAsg (tDc wi g tt tk tv (own.map (·.2))) (gName i)) := by
  constructor
  intro pins s σ H D I h
  rw [exec_Assign_Name_used _ _ _ _ sw]
  apply wpAny_bind
  apply wpAny_standAt
  apply wpAny_bind
  show wpAny _ X.A (do let _ ← comprehension (.DictComp kx vx [⟨tg, iter, ifs, 0⟩] scope pos) scope X.env (firstIterPos [⟨tg, iter, ifs, 0⟩] pos) newDict false (eval iter X.env) (some (assign (.Name y py) X.env))) _ _ s
  have told : tDc wi g tt tk tv (own.map (·.2)) σ H (fun x H1 => gName i x σ H1 D.nx) := h
  apply wpAny_bind
  apply thn (dc_core (Qf := fun _ s' => SP X pins D .next s') calm nd I src ok pg pt pk pv plain told fun L C s' m H' I' q hn f => ?_)
  · exact fun _ s' hq => wpAny_pure (wpAny_pure hq)
  · show wpAny _ _ (assign (.Name y py) X.env (.ref L)) _ _ _
    refine wpAny_assign_Name (store_ok2 (v := V.ref L) I' nd at_ (.inl loc) rfl (fun s2 I2 more => ?_) (.inr loc))
    obtain ⟨a, sb, ha⟩ := more
    obtain ⟨f0, f1, f2, f3, f4, f5⟩ := f
    have apart : C ≠ a := ha.elim (fun z => by rw [z]; exact f1) fun z e => f4 y a z e.symm
    exact ⟨m, hn.sameBut sb apart, fun h3 sb3 => ⟨_, H', I2.turned (t' := s2.toks) (fun b o hb e => (sb3.2 b hb).trans e) f0 f1 f3 f4 f5, q⟩⟩
theorem dc1_it {n : Nat} {G : Hp → Prop} {Y : Nat → Hp → V → Hp → Prop} {J : It} (w : Walk J n G Y) {g : TG} {tt : TT} {tk tv : TE} {vs : List Nat} {σ : L2.St} {H1 : Hp} {D : Addr} {Qd : Hp → Prop} (Pv : Nat → Hp → Prop) (h0 : Pv 0 (upd H1 D (.dK []))) (hG : ∀ i H, i ≤ n → Pv i H → G H)
    (hs : ∀ i x H H', i < n → Pv i H → Y i H x H' → g x (wipe σ vs) H' fun σ2 H2 => wipe σ2 vs = wipe σ vs ∧ tt σ2 H2 fun b H3 =>
      if b = true then tk σ2 H3 fun y H4 => tv σ2 H4 fun z H5 => ∃ kvs k, y = kV k ∧ H5 D = some (.dK kvs) ∧ kvs.length < sizeLine ∧ Pv (i + 1) (upd H5 D (.dK (putK kvs k z))) else Pv (i + 1) H3) (hd : ∀ H, Pv n H → Qd H) :
    ∃ W : Nat → Nat → Hp → Prop, (∃ m, W 0 m (upd H1 D (.dK []))) ∧ ∀ i m H, W i m H →
      (J.stop i H ∧ Qd H) ∨ (J.go i H ∧ ∃ Nx : Hp → Prop, (∀ H', Nx H' → ∃ m', m' < m ∧ W (i + 1) m' H') ∧ ∀ x H', J.yld i H x H' → g x (wipe σ vs) H' fun σ2 H2 => wipe σ2 vs = wipe σ vs ∧ tt σ2 H2 fun b H3 =>
        if b = true then tk σ2 H3 fun y H4 => tv σ2 H4 fun z H5 => ∃ kvs k, y = kV k ∧ H5 D = some (.dK kvs) ∧ kvs.length < sizeLine ∧ Nx (upd H5 D (.dK (putK kvs k z))) else Nx H3) := by
  refine ⟨fun i m H => m = n - i ∧ i ≤ n ∧ Pv i H, ⟨n, by simp, Nat.zero_le _, h0⟩, ?_⟩
  rintro i m H ⟨rfl, hi, p⟩
  have q := hG i H hi p
  by_cases hlt : i < n
  · exact .inr ⟨w.goes i H hlt q, Pv (i + 1), fun H' p' => ⟨n - (i + 1), by omega, rfl, hlt, p'⟩, fun x H' y => hs i x H H' hlt p (w.yields i H x H' hlt q y)⟩
  · have e : i = n := by omega
    subst e
    exact .inl ⟨w.stops H q, hd H p⟩
theorem vals_kv : ∀ {kvs : List (Key × V)} {vs : List (Key × Value)} {us : List Value}, KV kvs vs → us.length = vs.length → (∀ (j : Nat) (v : Value), us[j]? = some v → ∃ k, vs[j]? = some (k, v)) → Vals (kvs.map (·.2)) us
  | [], vs, us, r, l, h => by
    unfold KV at r
    cases r
    cases us with
    | nil => exact .nil
    | cons _ _ => cases l
  | p :: kvs, vs, us, r, l, h => by
    unfold KV at r
    cases r with
    | @cons _ q _ qs h1 t =>
    cases us with
    | nil => cases l
    | cons u us =>
      obtain ⟨k, e⟩ := h 0 u rfl
      have e : q = (k, u) := Option.some.inj e
      subst e
      exact .cons h1.2 (vals_kv t (Nat.succ.inj l) fun j v e => h (j + 1) v e)
/-- list(d.values()) -/
def tListVals (te : TE) : TE := fun σ H Q => te σ H fun v H1 => ∃ (a : Addr) (kvs : List (Key × V)), v = .ref a ∧ Rd H1 a (.dK kvs) ∧ ∀ p, H1 p = none → Q (.ref p) (upd H1 p (.lst (kvs.map (·.2))))
theorem pe_listVals {e : Expr} {te : TE} {p pos apos cpos : Pos} (hc : X.calm = true) (hg : Gl X "list") (hm : X.mg "list" = none) (he : PE X e te) (hbase : attributeBase e "values" X.env (eval e X.env) = eval e X.env := by rfl) (hline : (apos.endLine == cpos.line) = true := by rfl)
    (hs : starEach [.Call (.Attribute e "values" apos) [] [] cpos] X.env = (false, eval (.Call (.Attribute e "values" apos) [] [] cpos) X.env) :: starEach [] X.env := by rfl) :
    PE X (.Call (.Name "list" p) [.Call (.Attribute e "values" apos) [] [] cpos] [] pos) (tListVals te) := by
  refine ⟨fun pins s σ H Q I h => ?_⟩
  refine Call_ (ld_blt I hg hm boot_list (PyProof.Rows.callWith_type1 (args_cons (wpAny_Call_method (T := "dict") (id := "dict.values") hbase rfl hline PySem.F.plainAttrs_dict PySem.F.slot_dict_values PySem.F.type_dict_values (thn (he.run pins s σ H _ I h) fun u s1 ⟨x, H1, I1, rx, d, kvs, ex, hd, q⟩ => ?_)) hs) hs rfl))
  subst ex
  obtain rfl : u = Value.ref d := rx
  obtain ⟨z, lo, vs, rel, dd⟩ := dk_rd I1.hok hd
  obtain ⟨ep, hat⟩ := dd.dictAt
  refine ⟨dd.typeIs, dd.mapOf.noDict, ?_⟩
  refine method_meetsIn PySem.F.slot_dict_values PySem.F.entry_dict_values rfl (PySem.evalArgs_none ⟨rfl, dd.typeIs, PySem.F.args_dict_values_1 _, _, meets_dict_values (mixKind X.prog X.w) d lo, ⟨vs, dd⟩, args_nil ?_⟩)
  have I2 : Inv X pins σ H1 { s1 with heap := s1.heap.push { cls := .type "dict_values", data := .fields #[.ref d] } } := I1.kept (t' := s1.toks) fun b ob q => Heap.get?_push_of_some _ q
  refine PySem.W.kdl_call (PySem.W.kdl_values (knd := mixKind X.prog X.w) (kvs := vs) (ep := ep)) (I1.ok.hd hc) ⟨⟨_, Heap.get?_push_size _ rfl, rfl, rfl⟩, hat.push _⟩ (by rw [← rel.length]; exact z) fun h' tk acc c' hk hD hacc => ?_
  have hv : Vals (kvs.map (·.2)) acc.toList := vals_kv rel (by rw [Array.length_toList]; exact hacc.1) fun j v e => hacc.2 j v (by rw [← Array.getElem?_toList]; exact e)
  refine ⟨.ref _, upd H1 _ (.lst (kvs.map (·.2))), I2.laid (t' := tk) hk (Nat.le_refl _) (show ObjOk X.prog X.w _ _ _ (.lst (kvs.map (·.2))) from ⟨by rw [List.length_map]; exact z, acc.toList, c', hv, by rw [Array.toArray_toList]; exact hD⟩), rfl, q _ (I2.hok.fresh (Nat.le_refl _))⟩
end
section
variable {prog : Program} {w : World} {A : Around} {E : Value → Shared → Prop} {s : Shared}
/-- list(it), it a reversed list from its end on -/
theorem call_list_rev {it l : Addr} {items : Array Value} {Q : Value → Shared → Prop} (hh : A.handled = none) (hit : s.heap.IsRevIter it l ((items.size : Int) - 1)) (hl : s.heap.IsList l items) (hne : l ≠ it) (hn : items.size ≤ sizeLine)
    (hQ : ∀ (h' : Heap) (tk : Nat) (acc : Array Value) (c' : Nat), (∀ b o, b ≠ it → s.heap.get? b = some o → h'.get? b = some o) → h'.get? s.heap.objs.size = some { cls := .type "list", dict := none, data := .seq acc c', slots := #[] } →
      ItemsOf (fun i v => items[items.size - 1 - i]? = some v) acc items.size → Q (.ref s.heap.objs.size) { s with heap := h', toks := tk }) :
    wpAny (model prog w) A (call (.type "list") [.ref it]) Q E s := by
  obtain ⟨oi, hoi, _⟩ := id hit
  obtain ⟨ol, hol, _⟩ := id hl
  have hSi : s.heap.objs.size ≠ it := Nat.ne_of_gt (Heap.lt_size hoi)
  have hSl : s.heap.objs.size ≠ l := Nat.ne_of_gt (Heap.lt_size hol)
  have hSf : s.heap.objs.size ∉ [it, l] := by simp only [List.mem_cons, List.not_mem_nil, or_false, not_or]; exact ⟨hSi, hSl⟩
  refine callType_codes (Q₁ := fun obj s₁ => obj = .ref s.heap.objs.size ∧ s₁ = { s with heap := s.heap.push { cls := .type "list", data := .seq #[] } }) PySem.F.called_list (PySem.F.typeCall_list_1 _) PySem.F.entry_list_init
    (code_list_new _ ⟨rfl, rfl⟩) fun obj s₁ h₁ => ?_
  obtain ⟨rfl, rfl⟩ := h₁
  have hS : (s.heap.push { cls := .type "list", data := .seq #[] }).get? s.heap.objs.size = some { cls := .type "list", data := .seq #[] } := Heap.get?_push_size _ rfl
  refine ⟨⟨_, hS, rfl⟩, PySem.F.args_list_init_2 _ _, ?_⟩
  show wpAny _ _ (do let old ← Builtin.List.listItems (.ref s.heap.objs.size); Builtin.List.listUpdate (.ref s.heap.objs.size) (fun _ => #[]); letGo old.toList.reverse; Builtin.List.listExtendWith (.ref s.heap.objs.size) (.ref it) .none) _ _ _
  refine wpAny_bind ?_
  unfold Builtin.List.listItems
  refine wpAny_bind (wpAny_seqItems hS rfl (wpAny_pure ?_))
  show wpAny _ _ (updateSeq s.heap.objs.size (fun _ => #[]) >>= fun _ => letGo (#[] : Array Value).toList.reverse >>= fun _ => Builtin.List.listExtendWith (.ref s.heap.objs.size) (.ref it) .none) _ _ _
  refine wpAny_bind (wpAny_updateSeq hS rfl ?_)
  have hS₁ := Heap.get?_update_self (Obj.mapSeq (fun _ => (#[] : Array Value))) hS rfl
  have oth : ∀ b o, b ≠ s.heap.objs.size → s.heap.get? b = some o → ((s.heap.push { cls := .type "list", data := .seq #[] }).update s.heap.objs.size (Obj.mapSeq (fun _ => (#[] : Array Value)))).get? b = some o :=
    fun b o hb e => (Heap.get?_update_other _ _ (Ne.symm hb)).trans (Heap.get?_push_of_some _ e)
  refine wpAny_bind (wpAny_letGo ?_)
  generalize ((s.heap.push { cls := .type "list", data := .seq #[] }).update s.heap.objs.size (Obj.mapSeq (fun _ => (#[] : Array Value)))) = h1 at *
  have hit1 : h1.IsRevIter it l ((items.size : Int) - 1) := hit.at fun o e => oth _ o hSi.symm e
  have hl1 : h1.IsList l items := by
    obtain ⟨o, ho, r⟩ := hl
    exact ⟨o, oth _ o hSl.symm ho, r⟩
  have W := (Walks.listRev (prog := prog) (w := w) (A := A.in1.in1) hh it l hne items).toS
  have hT : ({ s with heap := h1 } : Shared).TypeIs (.ref it) "list_reverseiterator" := Heap.IsRevIter.typeIs (s := { s with heap := h1 }) hit1
  have hx : Builtin.List.listSameRef (.ref s.heap.objs.size) (.ref it) = false := by simp [Builtin.List.listSameRef, hSi]
  unfold Builtin.List.listExtendWith
  refine wpAny_bind (wpAny_typeOf hT ?_)
  rw [if_neg (by rw [hx]; decide)]
  refine wpAny_bind (wpAny_pyIter_revIter (s := { s with heap := h1 }) hit1 ?_)
  refine wpAny_bind (wpAny_holding ?_)
  unfold Builtin.List.listLengthHint
  refine wpAny_bind (wpAny_specialOf hT RT.nolen_lri ?_)
  show wpAny _ _ (specialOf (Value.ref it) (Str.ofString "__length_hint__") >>= _) _ _ _
  refine wpAny_bind (wpAny_specialOf hT RT.hint_lri ?_)
  generalize hid : ("list_reverseiterator.__length_hint__" : String) = id0
  wp_delta
  rw [show splitId id0 = some ("list_reverseiterator", "__length_hint__") from by subst hid; decide +kernel]
  subst hid
  refine wpAny_bind (wpAny_isInstance (b := true) hT (by rw [isSubtype_type]; kernel_rfl) ?_)
  refine wpAny_pure ?_
  rw [if_neg (by decide)]
  have e0 : ((items.size : Nat) : Int) - 1 - ((0 : Nat) : Int) = (items.size : Int) - 1 := by omega
  refine wpAny_pure ⟨plainId_quiet PySem.F.plain_extend_loop _, codeAny_extend_loopS W hn _ hSf _ items.size 0 _ _ _ rfl (Nat.zero_le _) ⟨Nat.zero_le _, by rw [e0]; exact hit1, hl1⟩ hS₁ (ItemsOf.nil _) fun s' acc' c' hm hS' hacc => ?_⟩
  rw [Moved.eq_with hm]
  refine ⟨rfl, hQ s'.heap s'.toks acc' c' (fun b o hb e => hm.heap b o (fun hmem => ?_) (oth b o (Nat.ne_of_lt (Heap.lt_size e)) e)) hS' hacc⟩
  rcases List.mem_cons.mp hmem with e' | hmem
  · exact absurd (Heap.lt_size e) (by rw [e']; exact Nat.lt_irrefl _)
  · exact hb (List.mem_singleton.mp hmem)
end
section
variable {X : Cx}
def tListRev (K : PySem.W.Frag) (te : TE) : TE := fun σ H Q => te σ H fun v H1 => ∃ (a : Addr) (xs : List V), v = .ref a ∧ SqL K H1 a xs ∧ ∀ q, H1 q = none → Q (.ref q) (upd H1 q (.lst xs.reverse))
theorem pe_listRev {e : Expr} {te : TE} {p p2 pos pos2 : Pos} (hc : X.calm = true) (hg : Gl X "list") (hm : X.mg "list" = none) (hg2 : Gl X "reversed") (hm2 : X.mg "reversed" = none) (he : PE X e te)
    (hs : starEach [e] X.env = (false, eval e X.env) :: starEach [] X.env := by rfl)
    (hs2 : starEach [.Call (.Name "reversed" p2) [e] [] pos2] X.env = (false, eval (.Call (.Name "reversed" p2) [e] [] pos2) X.env) :: starEach [] X.env := by rfl) :
    PE X (.Call (.Name "list" p) [.Call (.Name "reversed" p2) [e] [] pos2] [] pos) (tListRev X.K te) := by
  refine ⟨fun pins s σ H Q I h => ?_⟩
  refine Call_ (ld_blt I hg hm boot_list (PyProof.Rows.callWith_type1 (args_cons (Call_ (ld_blt I hg2 hm2 PyProof.Rows.boot_reversed (PyProof.Rows.callWith_type1 (args_cons (thn (he.run pins s σ H _ I h) fun u s1 ⟨v, H1, I1, r1, q1⟩ => args_nil ?_) hs) hs rfl))) hs2) hs2 rfl))
  obtain ⟨a, xs, ev, hq, q⟩ := q1
  subst ev
  obtain rfl : u = Value.ref a := r1
  obtain ⟨its, rv, p', hz⟩ := I1.list hq
  refine call_reversed_list p'.isList (args_nil ?_)
  have hl := p'.isList
  obtain ⟨ol, hol, _⟩ := id hl
  have hne : a ≠ s1.heap.objs.size := Nat.ne_of_lt (Heap.lt_size hol)
  have hn : its.toArray.size ≤ sizeLine := by rw [List.size_toArray, ← rv.length]; exact hz
  refine call_list_rev (s := { s1 with heap := s1.heap.push (revObj a ((its.toArray.size : Int) - 1)) }) (I1.ok.hd hc) ⟨_, Heap.get?_push_size _ rfl, rfl, rfl⟩ (hl.push _) hne hn fun h' tk acc c' hk hD hi => ?_
  have le : s1.heap.objs.size ≤ (s1.heap.push (revObj a ((its.toArray.size : Int) - 1))).objs.size := by rw [Heap.size_push]; exact Nat.le_succ _
  exact ⟨.ref _, upd H1 _ (.lst xs.reverse), I1.laid (t' := tk) (fun b o e => hk b o (Nat.ne_of_lt (Heap.lt_size e)) (Heap.get?_push_of_some _ e)) le
    (show ObjOk X.prog X.w _ _ _ (.lst xs.reverse) from ⟨by rw [List.length_reverse]; exact hz, acc.toList, c', RT.vals_rev rv hi, by rw [Array.toArray_toList]; exact hD⟩), rfl, q _ (I1.hok.fresh le)⟩
end
end Dl

/-! arrangements: their mathematics -/
namespace Dl
open PySem PySem.Spec PyProof.Rows L2
theorem risingS_pw : ∀ (l : List Str) (p : Str), risingS p l = true → (p :: l).Pairwise (fun a b => a.cps.toList ≤ b.cps.toList)
  | [], p, _ => List.pairwise_singleton ..
  | x :: r, p, h => by
    have h2 : (!ltCps x.cps.toList p.cps.toList && risingS x r) = true := h
    rw [Bool.and_eq_true, Bool.not_eq_true', ltCps_eq, decide_eq_false_iff_not] at h2
    have ih := risingS_pw r x h2.2
    refine List.pairwise_cons.mpr ⟨fun y hy => ?_, ih⟩
    have hx : p.cps.toList ≤ x.cps.toList := h2.1
    rcases List.mem_cons.mp hy with e | hy
    · rw [e]; exact hx
    · exact List.le_trans hx ((List.pairwise_cons.mp ih).1 y hy)
theorem sortedS_pw {l : List Str} (h : sortedS l = true) : l.Pairwise (fun a b => a.cps.toList ≤ b.cps.toList) := by
  cases l with
  | nil => exact .nil
  | cons x r => exact risingS_pw r x h
theorem sortedS_uniq {l r : List Str} (hl : sortedS l = true) (hr : sortedS r = true) (p : l.Perm r) : l = r :=
  List.Perm.eq_of_pairwise (le := fun a b : Str => a.cps.toList ≤ b.cps.toList) (fun a b _ _ h1 h2 => by
    have e := List.le_antisymm h1 h2
    cases a; cases b
    congr
    exact Array.ext' e) (sortedS_pw hl) (sortedS_pw hr) p
abbrev Span := Option (Int × Int)
def pdI (i : Int) : PyData := .int i
def pdO : Span → PyData
  | none => .none
  | some q => .tuple [.int q.1, .int q.2]
theorem pdI_eq (a b : Int) : PyData.eqv (pdI a) (pdI b) = decide (a = b) := by
  unfold pdI
  rw [PyData.eqv]
  exact (decide_eq_decide.mpr Iff.rfl)
theorem pdO_eq (a b : Span) : PyData.eqv (pdO a) (pdO b) = decide (a = b) := by
  cases a with
  | none =>
    cases b with
    | none => exact (by decide +kernel : PyData.eqv .none .none = true)
    | some q => rfl
  | some p =>
    cases b with
    | none => rfl
    | some q =>
      obtain ⟨p1, p2⟩ := p
      obtain ⟨q1, q2⟩ := q
      have e1 := pdI_eq p1 q1
      have e2 := pdI_eq p2 q2
      unfold pdI at e1 e2
      show PyData.eqv (.tuple [.int p1, .int p2]) (.tuple [.int q1, .int q2]) = _
      rw [PyData.eqv, PyData.eqvAll, PyData.eqvAll, PyData.eqvAll, e1, e2]
      by_cases h1 : p1 = q1 <;> by_cases h2 : p2 = q2 <;> simp [h1, h2]
def pdD {α : Type} (pd : α → PyData) (ds : List (Str × α)) : List (Str × PyData) := ds.map fun p => (p.1, pd p.2)
section
variable {α : Type} {pd : α → PyData}
theorem dval_pd (k : Str) : ∀ ds : List (Str × α), dval (pdD pd ds) k = (dval ds k).map pd
  | [] => rfl
  | p :: r => by
    have ih := dval_pd k r
    unfold dval pdD at ih ⊢
    rw [List.map_cons, List.find?_cons, List.find?_cons]
    by_cases e : p.1 = k
    · rw [decide_eq_true e]
      rfl
    · rw [decide_eq_false e]
      exact ih
theorem dval_mem : ∀ {ds : List (Str × α)}, (ds.map (·.1)).Nodup → ∀ {p : Str × α}, p ∈ ds → dval ds p.1 = some p.2
  | q :: r, nd, p, h => by
    have nd := List.nodup_cons.mp (by rw [List.map_cons] at nd; exact nd)
    unfold dval
    rw [List.find?_cons]
    rcases List.mem_cons.mp h with rfl | h
    · rw [decide_eq_true rfl]
      rfl
    · rw [decide_eq_false fun e => nd.1 (by rw [e]; exact List.mem_map_of_mem h)]
      exact dval_mem nd.2 h
theorem deq_len {ds es : List (Str × PyData)} (h : ds.length ≠ es.length) : deq ds es = false := by
  unfold deq
  rw [decide_eq_false h]
  rfl
theorem deq_all {ds es : List (Str × α)} (l : ds.length = es.length) (h : ∀ p ∈ ds, ∃ y, dval es p.1 = some y ∧ PyData.eqv (pd p.2) (pd y) = true) : deq (pdD pd ds) (pdD pd es) = true := by
  unfold deq
  rw [decide_eq_true (by unfold pdD; rw [List.length_map, List.length_map]; exact l), Bool.true_and, List.all_eq_true]
  intro q hq
  unfold pdD at hq
  obtain ⟨p, hp, rfl⟩ := List.mem_map.mp hq
  obtain ⟨y, h1, h2⟩ := h p hp
  rw [dval_pd, h1]
  exact h2
theorem deq_perm (refl : ∀ a, PyData.eqv (pd a) (pd a) = true) {ds es : List (Str × α)} (hp : ds.Perm es) (nd : (es.map (·.1)).Nodup) : deq (pdD pd ds) (pdD pd es) = true :=
  deq_all hp.length_eq fun p h => ⟨p.2, dval_mem nd (hp.mem_iff.mp h), refl _⟩
theorem keys_eq : ∀ {ds es : List (Str × α)}, ds.map (·.1) = es.map (·.1) → (es.map (·.1)).Nodup → (∀ p ∈ ds, ∃ y, dval es p.1 = some y ∧ p.2 = y) → ds = es
  | [], es, e, _, _ => by
    cases es with
    | nil => rfl
    | cons _ _ => cases e
  | p :: ds, es, e, nd, h => by
    cases es with
    | nil => cases e
    | cons q es =>
      rw [List.map_cons, List.map_cons] at e
      injection e with e1 e2
      obtain ⟨y, h1, h2⟩ := h p (List.mem_cons_self ..)
      have here : dval (q :: es) q.1 = some q.2 := dval_mem nd (List.mem_cons_self ..)
      rw [e1, here] at h1
      have ep : p = q := Prod.ext e1 (by rw [h2]; exact (Option.some.inj h1).symm)
      rw [List.map_cons, List.nodup_cons] at nd
      rw [ep, keys_eq e2 nd.2 fun r hr => ?_]
      obtain ⟨z, z1, z2⟩ := h r (List.mem_cons_of_mem _ hr)
      refine ⟨z, ?_, z2⟩
      unfold dval at z1 ⊢
      rw [List.find?_cons, decide_eq_false fun k => nd.1 (by rw [k, ← e2]; exact List.mem_map_of_mem hr)] at z1
      exact z1
theorem deq_keys [DecidableEq α] (heq : ∀ a b, PyData.eqv (pd a) (pd b) = decide (a = b)) {ds es : List (Str × α)} (ek : ds.map (·.1) = es.map (·.1)) (nd : (es.map (·.1)).Nodup) : deq (pdD pd ds) (pdD pd es) = decide (ds = es) := by
  by_cases e : ds = es
  · rw [decide_eq_true e, e]
    exact deq_perm (fun a => by rw [heq]; exact decide_eq_true rfl) (List.Perm.refl _) nd
  · rw [decide_eq_false e]
    cases hd : deq (pdD pd ds) (pdD pd es) with
    | false => rfl
    | true =>
      refine absurd (keys_eq ek nd fun p hp => ?_) e
      unfold deq at hd
      rw [Bool.and_eq_true, List.all_eq_true] at hd
      have := hd.2 (p.1, pd p.2) (List.mem_map_of_mem (f := fun p : Str × α => (p.1, pd p.2)) hp)
      rw [dval_pd] at this
      cases hv : dval es p.1 with
      | none => rw [hv] at this; cases this
      | some y =>
        rw [hv] at this
        have this : PyData.eqv (pd p.2) (pd y) = true := this
        rw [heq] at this
        exact ⟨y, rfl, of_decide_eq_true this⟩
end
abbrev SetL := List (Str × Int)
abbrev SpanL := List (Str × Span)
def inSp (z : Int) : Span → Bool
  | none => false
  | some q => decide (q.1 ≤ z) && decide (z ≤ q.2)
def mvSp (d : Int) : Span → Span := Option.map fun q => (q.1 + d, q.2 + d)
def tnSp : Span → Span := Option.map fun q => (-q.2, -q.1)
def glow (ts : SpanL) (z : Int) : List Str := (ts.filter fun p => inSp z p.2).map (·.1)
def mvL (d : Int) (ts : SpanL) : SpanL := ts.map fun p => (p.1, mvSp d p.2)
def tnL (ts : SpanL) : SpanL := ts.map fun p => (p.1, tnSp p.2)
def shL (d : Int) (ss : SetL) : SetL := ss.map fun p => (p.1, p.2 + d)
def ngL (ss : SetL) : SetL := ss.map fun p => (p.1, -p.2)
theorem inSp_mv (z d : Int) (o : Span) : inSp (z + d) (mvSp d o) = inSp z o := by
  cases o with
  | none => rfl
  | some q =>
    show (decide (q.1 + d ≤ z + d) && decide (z + d ≤ q.2 + d)) = (decide (q.1 ≤ z) && decide (z ≤ q.2))
    rw [decide_eq_decide.mpr (show q.1 + d ≤ z + d ↔ q.1 ≤ z by omega), decide_eq_decide.mpr (show z + d ≤ q.2 + d ↔ z ≤ q.2 by omega)]
theorem inSp_tn (z : Int) (o : Span) : inSp (-z) (tnSp o) = inSp z o := by
  cases o with
  | none => rfl
  | some q =>
    show (decide (-q.2 ≤ -z) && decide (-z ≤ -q.1)) = (decide (q.1 ≤ z) && decide (z ≤ q.2))
    rw [decide_eq_decide.mpr (show -q.2 ≤ -z ↔ z ≤ q.2 by omega), decide_eq_decide.mpr (show -z ≤ -q.1 ↔ q.1 ≤ z by omega), Bool.and_comm]
theorem glow_map {f : Span → Span} {z y : Int} (h : ∀ o, inSp y (f o) = inSp z o) (ts : SpanL) : glow (ts.map fun p => (p.1, f p.2)) y = glow ts z := by
  unfold glow
  rw [List.filter_map, List.map_map]
  congr 1
  refine List.filter_congr fun p _ => h p.2
theorem glow_mv (ts : SpanL) (z d : Int) : glow (mvL d ts) (z + d) = glow ts z := glow_map (fun o => inSp_mv z d o) ts
theorem glow_tn (ts : SpanL) (z : Int) : glow (tnL ts) (-z) = glow ts z := glow_map (fun o => inSp_tn z o) ts
theorem mv_zero (ts : SpanL) : mvL 0 ts = ts := by
  unfold mvL
  refine (List.map_congr_left fun p _ => ?_).trans (List.map_id _)
  obtain ⟨k, o⟩ := p
  cases o with
  | none => rfl
  | some q => show (k, some (q.1 + 0, q.2 + 0)) = _; rw [Int.add_zero, Int.add_zero]; rfl
theorem sh_zero (ss : SetL) : shL 0 ss = ss := by
  unfold shL
  refine (List.map_congr_left fun p _ => ?_).trans (List.map_id _)
  rw [Int.add_zero]
  rfl
theorem tn_tn (ts : SpanL) : tnL (tnL ts) = ts := by
  unfold tnL
  rw [List.map_map]
  refine (List.map_congr_left fun p _ => ?_).trans (List.map_id _)
  obtain ⟨k, o⟩ := p
  cases o with
  | none => rfl
  | some q => show (k, some (- -q.1, - -q.2)) = _; rw [Int.neg_neg, Int.neg_neg]; rfl
theorem ng_ng (ss : SetL) : ngL (ngL ss) = ss := by
  unfold ngL
  rw [List.map_map]
  refine (List.map_congr_left fun p _ => ?_).trans (List.map_id _)
  show (p.1, - -p.2) = _
  rw [Int.neg_neg]
  rfl
theorem keys_map {α : Type} (f : α → α) (ds : List (Str × α)) : (ds.map fun p => (p.1, f p.2)).map (·.1) = ds.map (·.1) := by
  rw [List.map_map]
  rfl
/-- what == of an arrangement and the same moved answers -/
theorem same_eq (d : Int) (ss : SetL) (ts : SpanL) : (decide (ss = shL d ss) && decide (ts = mvL d ts)) = (decide (d = 0) || (decide (ss = []) && decide (mvL d ts = ts))) := by
  by_cases h0 : d = 0
  · subst h0
    rw [sh_zero, mv_zero]
    simp
  · rw [decide_eq_false h0, Bool.false_or]
    cases ss with
    | nil =>
      show (decide (([] : SetL) = []) && _) = _
      rw [decide_eq_decide.mpr (eq_comm (a := ts) (b := mvL d ts))]
    | cons p r =>
      have : ¬ (p :: r = shL d (p :: r)) := fun e => by
        have e : p :: r = (p.1, p.2 + d) :: shL d r := e
        injection e with e1 _
        have := congrArg Prod.snd e1
        have : p.2 = p.2 + d := this
        omega
      rw [decide_eq_false this]
      simp
end Dl

/-! arrangements in the heap; _contains, _moved, _turned -/
namespace Dl
open PySem PySem.Spec PyProof.Rows L2
theorem rd_same {H H' : Hp} {a : Addr} {o : HO} (s : Same H H') (h : Rd H a o) : Rd H' a o := h.elim (fun e => .inl (s _ _ e)) fun ⟨b, e⟩ => .inr ⟨b, s _ _ e⟩
def kvI (ss : SetL) : List (Key × V) := ss.map fun p => (Sum.inr p.1, V.int p.2)
abbrev SpH := List (Str × V × Span)
def kvS (L : SpH) : List (Key × V) := L.map fun q => (Sum.inr q.1, q.2.1)
def tsOf (L : SpH) : SpanL := L.map fun q => (q.1, q.2.2)
/-- a stretch as a value -/
def SpanV (K : PySem.W.Frag) (H : Hp) (v : V) : Span → Prop
  | none => v = .non
  | some q => ∃ t, v = .ref t ∧ SqT K H t [.int q.1, .int q.2]
theorem SpanV.of {K : PySem.W.Frag} {H H' : Hp} {v : V} {o : Span} (s : Same H H') (h : SpanV K H v o) : SpanV K H' v o := by
  cases o with
  | none => exact h
  | some q =>
    obtain ⟨t, e, ht⟩ := h
    exact ⟨t, e, Same.tup s ht⟩
def SpansV (K : PySem.W.Frag) (H : Hp) (L : SpH) : Prop := ∀ q ∈ L, SpanV K H q.2.1 q.2.2
theorem SpansV.of {K : PySem.W.Frag} {H H' : Hp} {L : SpH} (s : Same H H') (h : SpansV K H L) : SpansV K H' L := fun q hq => (h q hq).of s
def SetR (H : Hp) (a : Addr) (ss : SetL) : Prop := Rd H a (.dK (kvI ss))
def SpanR (K : PySem.W.Frag) (H : Hp) (a : Addr) (ts : SpanL) : Prop := ∃ L, tsOf L = ts ∧ Rd H a (.dK (kvS L)) ∧ SpansV K H L
def SetF (H : Hp) (a : Addr) (ss : SetL) : Prop := ∃ od, H a = some (.frz od (.dK (kvI ss)))
def SpanF (K : PySem.W.Frag) (H : Hp) (a : Addr) (ts : SpanL) : Prop := ∃ L od, tsOf L = ts ∧ H a = some (.frz od (.dK (kvS L))) ∧ SpansV K H L
theorem SetF.r {H : Hp} {a : Addr} {ss : SetL} (h : SetF H a ss) : SetR H a ss := .inr h
theorem SpanF.r {K : PySem.W.Frag} {H : Hp} {a : Addr} {ts : SpanL} (h : SpanF K H a ts) : SpanR K H a ts := by
  obtain ⟨L, od, e, h1, h2⟩ := h
  exact ⟨L, e, .inr ⟨od, h1⟩, h2⟩
theorem SetR.of {H H' : Hp} {a : Addr} {ss : SetL} (s : Same H H') (h : SetR H a ss) : SetR H' a ss := rd_same s h
theorem SpanR.of {K : PySem.W.Frag} {H H' : Hp} {a : Addr} {ts : SpanL} (s : Same H H') (h : SpanR K H a ts) : SpanR K H' a ts := by
  obtain ⟨L, e, h1, h2⟩ := h
  exact ⟨L, e, rd_same s h1, h2.of s⟩
theorem SetF.of {H H' : Hp} {a : Addr} {ss : SetL} (s : Same H H') (h : SetF H a ss) : SetF H' a ss := h.elim fun od e => ⟨od, s _ _ e⟩
theorem SpanF.of {K : PySem.W.Frag} {H H' : Hp} {a : Addr} {ts : SpanL} (s : Same H H') (h : SpanF K H a ts) : SpanF K H' a ts := by
  obtain ⟨L, od, e, h1, h2⟩ := h
  exact ⟨L, od, e, s _ _ h1, h2.of s⟩
theorem span_dp {K : PySem.W.Frag} {H : Hp} {v : V} {o : Span} (h : SpanV K H v o) : Dp K H v (pdO o) := by
  cases o with
  | none =>
    cases (show v = .non from h)
    exact .non
  | some q =>
    obtain ⟨t, rfl, ht⟩ := h
    exact .tup ht (.cons (.int _) (.cons (.int _) .nil))
theorem span_shaped (o : Span) : SeqAt.shaped (pdO o) = true := by
  unfold SeqAt.shaped
  cases o with
  | none => decide +kernel
  | some q =>
    rw [Bool.and_eq_true]
    exact ⟨rfl, decide_eq_true (by show PyData.depth (.tuple [.int q.1, .int q.2]) ≤ 64; simp [PyData.depth, PyData.depthAll])⟩
theorem set_dd {K : PySem.W.Frag} {H : Hp} {a : Addr} {ss : SetL} (h : SetR H a ss) : DDp K H a (pdD pdI ss) := by
  refine ⟨ss.map fun p => (p.1, V.int p.2, pdI p.2), ?_, ?_, fun q hq => ?_⟩
  · rw [List.map_map]; rfl
  · rw [List.map_map]; exact h
  · obtain ⟨p, _, rfl⟩ := List.mem_map.mp hq
    exact ⟨.int _, rfl⟩
theorem span_dd {K : PySem.W.Frag} {H : Hp} {a : Addr} {ts : SpanL} (h : SpanR K H a ts) : DDp K H a (pdD pdO ts) := by
  obtain ⟨L, rfl, h1, h2⟩ := h
  refine ⟨L.map fun q => (q.1, q.2.1, pdO q.2.2), ?_, ?_, fun q hq => ?_⟩
  · unfold tsOf pdD; rw [List.map_map, List.map_map]; rfl
  · rw [List.map_map]; exact h1
  · obtain ⟨p, hp, rfl⟩ := List.mem_map.mp hq
    exact ⟨span_dp (h2 p hp), span_shaped _⟩
theorem ne_ss : ¬ (("settings" : Str) = "stretches") := by decide +kernel
theorem ne_ts : ¬ (("stretches" : Str) = "settings") := by decide +kernel
def af1 (a : V) : List (Str × V) := putF "settings" a []
def af2 (a b : V) : List (Str × V) := putF "stretches" b (af1 a)
theorem af1_set (a : V) : (af1 a).lookup ("settings" : Str) = some a := by unfold af1; rw [lookup_putF, if_pos rfl]
theorem af2_set (a b : V) : (af2 a b).lookup ("settings" : Str) = some a := by unfold af2; rw [lookup_putF, if_neg ne_ss, af1_set]
theorem af2_str (a b : V) : (af2 a b).lookup ("stretches" : Str) = some b := by unfold af2; rw [lookup_putF, if_pos rfl]
/-- an arrangement -/
structure ArrAt (K : PySem.W.Frag) (C : Addr) (H : Hp) (p : Addr) (ss : SetL) (ts : SpanL) : Prop where
  ex : ∃ dx a b, H p = some (.ins C dx (af2 (.ref a) (.ref b))) ∧ SetF H a ss ∧ SpanF K H b ts
theorem ArrAt.of {K : PySem.W.Frag} {C : Addr} {H H' : Hp} {p : Addr} {ss : SetL} {ts : SpanL} (s : Same H H') (h : ArrAt K C H p ss ts) : ArrAt K C H' p ss ts := by
  obtain ⟨dx, a, b, h1, h2, h3⟩ := h.ex
  exact ⟨dx, a, b, s _ _ h1, h2.of s, h3.of s⟩
structure TxtA (K : PySem.W.Frag) (mg : Str → Option Value) (C : Addr) : Prop where
  cl : Cls K C
  nS : NoAttr K C "settings"
  nT : NoAttr K C "stretches"
  gA : mg "Arrangement" = some (.ref C)
  dict : mg "dict" = none
  tuple : mg "tuple" = none
  sor : mg "sorted" = none
  isinstance : mg "isinstance" = none
def spContains (K : PySem.W.Frag) : Sp := fun vs H Q _ => ∃ v o z, vs = [v, .int z] ∧ SpanV K H v o ∧ Q (.bl (inSp z o)) H
def spMoved (K : PySem.W.Frag) : Sp := fun vs H Q _ => ∃ v o z, vs = [v, .int z] ∧ SpanV K H v o ∧ ∀ H' v', Same H H' → SpanV K H' v' (mvSp z o) → Q v' H'
def spTurned (K : PySem.W.Frag) : Sp := fun vs H Q _ => ∃ v o, vs = [v] ∧ SpanV K H v o ∧ ∀ H' v', Same H H' → SpanV K H' v' (tnSp o) → Q v' H'
section
variable {P : Program} {w : World} {K : PySem.W.Frag} {mg : Str → Option Value} {base : Heap} {C : Addr}
theorem scContains : FnScope ["stretch", "setting"] ["stretch", "setting"] (defScope sContains) := ⟨rfl, rfl, rfl, by decide +kernel, rfl, by decide +kernel, by decide +kernel⟩
theorem ok_contains {f : Addr} {fd : FuncData} (F : Fun K "_contains" "_contains" sContains f fd) : FnOk P w K mg base CX0 1 f fd ["stretch", "setting"] (spContains K) := by
  refine F.ok scContains (fun vs H Q E h => ?_) (fun cdv A outer s H vs Q E hr h => ?_)
  · obtain ⟨v, o, z, rfl, _⟩ := h
    rfl
  · obtain ⟨v, o, z, rfl, hv, k⟩ := h
    refine ⟨_, pss_one (ps_ret (pe_and (pe_cmpR op_notN (pv 0) pe_non (nomark _)) (pe_one (pe_chain op_le op_le (pe_ix ix_tup (pv 0) pe_int (fun _ _ => rfl)) (pv 1) (pe_ix ix_tup (pv 0) pe_int (fun _ _ => rfl)))))), ?_⟩
    cases o with
    | none =>
      cases (show v = .non from hv)
      exact ⟨_, rfl, rfl, false, rfl, iteF k⟩
    | some q =>
      obtain ⟨t, rfl, ht⟩ := hv
      refine ⟨_, rfl, rfl, true, rfl, iteT ?_⟩
      refine ⟨_, rfl, t, _, 0, _, rfl, rfl, ht, rfl, ?_⟩
      refine ⟨_, rfl, _, _, rfl, rfl, _, rfl, ?_⟩
      have k : Q (.bl (decide (q.1 ≤ z) && decide (z ≤ q.2))) H := k
      by_cases h : q.1 ≤ z
      · refine iteY (decide_eq_true h) ⟨_, rfl, t, _, 1, _, rfl, rfl, ht, rfl, _, _, rfl, rfl, ?_⟩
        rw [decide_eq_true h, Bool.true_and] at k
        exact k
      · refine iteZ (decide_eq_false h) ?_
        rw [decide_eq_false h, Bool.false_and] at k
        exact k
theorem scMoved : FnScope ["stretch", "distance"] ["stretch", "distance"] (defScope sMoved) := ⟨rfl, rfl, rfl, by decide +kernel, rfl, by decide +kernel, by decide +kernel⟩
theorem ok_moved {f : Addr} {fd : FuncData} (F : Fun K "_moved" "_moved" sMoved f fd) : FnOk P w K mg base CX0 1 f fd ["stretch", "distance"] (spMoved K) := by
  refine F.ok scMoved (fun vs H Q E h => ?_) (fun cdv A outer s H vs Q E hr h => ?_)
  · obtain ⟨v, o, z, rfl, _⟩ := h
    rfl
  · obtain ⟨v, o, z, rfl, hv, k⟩ := h
    refine ⟨_, pss_one (ps_ret (pe_ifExp (pt_cmpR op_isN (pv 0) pe_non (nomark _)) pe_non (pe_tup (pa_cons (pe_op op_add (pe_ix ix_tup (pv 0) pe_int (fun _ _ => rfl)) (pv 1)) (pa_cons (pe_op op_add (pe_ix ix_tup (pv 0) pe_int (fun _ _ => rfl)) (pv 1)) pa_nil))))), ?_⟩
    cases o with
    | none =>
      cases (show v = .non from hv)
      exact ⟨_, rfl, rfl, true, rfl, iteT (k _ _ (Same.refl _) rfl)⟩
    | some q =>
      obtain ⟨t, rfl, ht⟩ := hv
      refine ⟨_, rfl, rfl, false, rfl, iteF ?_⟩
      refine ⟨_, rfl, t, _, 0, _, rfl, rfl, ht, rfl, _, rfl, _, _, rfl, rfl, ?_⟩
      refine ⟨_, rfl, t, _, 1, _, rfl, rfl, ht, rfl, _, rfl, _, _, rfl, rfl, ?_⟩
      exact ⟨by show 2 ≤ sizeLine; decide, fun u hu => k _ _ (Same.upd_new hu) ⟨u, rfl, SqT.of upd_same⟩⟩
theorem scTurned : FnScope ["stretch"] ["stretch"] (defScope sTurned) := ⟨rfl, rfl, rfl, by decide +kernel, rfl, by decide +kernel, by decide +kernel⟩
theorem ok_turned {f : Addr} {fd : FuncData} (F : Fun K "_turned" "_turned" sTurned f fd) : FnOk P w K mg base CX0 1 f fd ["stretch"] (spTurned K) := by
  refine F.ok scTurned (fun vs H Q E h => ?_) (fun cdv A outer s H vs Q E hr h => ?_)
  · obtain ⟨v, o, rfl, _⟩ := h
    rfl
  · obtain ⟨v, o, rfl, hv, k⟩ := h
    refine ⟨_, pss_one (ps_ret (pe_ifExp (pt_cmpR op_isN (pv 0) pe_non (nomark _)) pe_non (pe_tup (pa_cons (pe_un un_neg (pe_ix ix_tup (pv 0) pe_int (fun _ _ => rfl))) (pa_cons (pe_un un_neg (pe_ix ix_tup (pv 0) pe_int (fun _ _ => rfl))) pa_nil))))), ?_⟩
    cases o with
    | none =>
      cases (show v = .non from hv)
      exact ⟨_, rfl, rfl, true, rfl, iteT (k _ _ (Same.refl _) rfl)⟩
    | some q =>
      obtain ⟨t, rfl, ht⟩ := hv
      refine ⟨_, rfl, rfl, false, rfl, iteF ?_⟩
      refine ⟨_, rfl, t, _, 1, _, rfl, rfl, ht, rfl, _, rfl, ?_⟩
      refine ⟨_, rfl, t, _, 0, _, rfl, rfl, ht, rfl, _, rfl, ?_⟩
      exact ⟨by show 2 ≤ sizeLine; decide, fun u hu => k _ _ (Same.upd_new hu) ⟨u, rfl, SqT.of upd_same⟩⟩
end
end Dl

/-! the methods of an arrangement -/
namespace Dl
open PySem PySem.Spec PyProof.Rows L2
def spArrInit (K : PySem.W.Frag) (C : Addr) : Sp := fun vs H Q _ => ∃ (H0 : Hp) (p dx a b : Addr) (ss : SetL) (ts : SpanL), vs = [.ref p, .ref a, .ref b] ∧ Same H0 H ∧ H0 p = none ∧ H p = some (.ins C dx []) ∧ SetR H0 a ss ∧ SpanR K H0 b ts ∧ ∀ H', Same H0 H' → ArrAt K C H' p ss ts → Q .non H'
def spArrCall (K : PySem.W.Frag) (C : Addr) : Sp := fun vs H Q _ => ∃ p ss ts z, vs = [.ref p, .int z] ∧ ArrAt K C H p ss ts ∧ (ts.map (·.1)).Nodup ∧ ts.length < 64 ∧ ∀ H' t ys, Same H H' → H' t = some (.tup (ys.map V.str)) → sortedS ys = true → ys.Perm (glow ts z) → Q (.ref t) H'
def spArrAdd (K : PySem.W.Frag) (C : Addr) : Sp := fun vs H Q _ => ∃ p ss ts d, vs = [.ref p, .int d] ∧ ArrAt K C H p ss ts ∧ (ss.map (·.1)).Nodup ∧ (ts.map (·.1)).Nodup ∧ ss.length < 64 ∧ ts.length < 64 ∧ ∀ H' r, Same H H' → H r = none → ArrAt K C H' r (shL d ss) (mvL d ts) → Q (.ref r) H'
def spArrNeg (K : PySem.W.Frag) (C : Addr) : Sp := fun vs H Q _ => ∃ p ss ts, vs = [.ref p] ∧ ArrAt K C H p ss ts ∧ (ss.map (·.1)).Nodup ∧ (ts.map (·.1)).Nodup ∧ ss.length < 64 ∧ ts.length < 64 ∧ ∀ H' r, Same H H' → H r = none → ArrAt K C H' r (ngL ss) (tnL ts) → Q (.ref r) H'
/-- a dict comprehension's walk over texts: the dict so far -/
theorem kv_at {α : Type} {f : α → V} {L : List (Str × α)} {i : Nat} {k : Key} {v : V} (h : (L.map fun p => ((Sum.inr p.1 : Key), f p.2))[i]? = some (k, v)) : ∃ p, L[i]? = some p ∧ p ∈ L ∧ k = .inr p.1 ∧ v = f p.2 := by
  rw [List.getElem?_map] at h
  cases e : L[i]? with
  | none => rw [e] at h; cases h
  | some q =>
    rw [e] at h
    have h := Option.some.inj h
    exact ⟨q, rfl, List.mem_of_getElem? e, (congrArg Prod.fst h).symm, (congrArg Prod.snd h).symm⟩
theorem take_snoc {α : Type} {l : List α} {i : Nat} {x : α} (h : l[i]? = some x) : l.take (i + 1) = l.take i ++ [x] := by rw [List.take_succ, h]; rfl
theorem val_kvI {ss : SetL} (nd : (ss.map (·.1)).Nodup) {p : Str × Int} (h : p ∈ ss) : valV (kvI ss) (.inr p.1) = some (.int p.2) := by
  unfold kvI
  induction ss with
  | nil => cases h
  | cons q r ih =>
    rw [List.map_cons, List.nodup_cons] at nd
    rw [List.map_cons]
    rcases List.mem_cons.mp h with rfl | h
    · exact valV_pos rfl
    · rw [valV_neg fun e => nd.1 (by rw [Sum.inr.inj e]; exact List.mem_map_of_mem h)]
      exact ih nd.2 h
theorem val_kvS {L : SpH} (nd : (L.map (·.1)).Nodup) {p : Str × V × Span} (h : p ∈ L) : valV (kvS L) (.inr p.1) = some p.2.1 := by
  unfold kvS
  induction L with
  | nil => cases h
  | cons q r ih =>
    rw [List.map_cons, List.nodup_cons] at nd
    rw [List.map_cons]
    rcases List.mem_cons.mp h with rfl | h
    · exact valV_pos rfl
    · rw [valV_neg fun e => nd.1 (by rw [Sum.inr.inj e]; exact List.mem_map_of_mem h)]
      exact ih nd.2 h
theorem put_new {kvs : List (Key × V)} {k : Str} (v : V) (h : k ∉ kvs.map fun p => p.1.elim (fun _ => ("" : Str)) id) : putK kvs (.inr k) v = kvs ++ [(.inr k, v)] := by
  refine putK_new v ?_
  cases e : valV kvs (.inr k) with
  | none => rfl
  | some x =>
    unfold valV at e
    cases hf : kvs.find? (fun kv => decide (kv.1 = .inr k)) with
    | none => rw [hf] at e; cases e
    | some q =>
      have m := List.mem_of_find?_eq_some hf
      have q1 : q.1 = .inr k := of_decide_eq_true (by simpa using List.find?_some hf)
      exact absurd (List.mem_map.mpr ⟨q, m, by rw [q1]; rfl⟩) h
theorem glow_snoc (ts : SpanL) (p : Str × Span) (z : Int) : glow (ts ++ [p]) z = glow ts z ++ if inSp z p.2 = true then [p.1] else [] := by
  unfold glow
  rw [List.filter_append, List.map_append]
  congr 1
  by_cases h : inSp z p.2 = true
  · rw [if_pos h]
    show List.map _ (List.filter (fun p => inSp z p.2) [p]) = _
    rw [List.filter_cons_of_pos (p := fun p : Str × Span => inSp z p.2) h]
    rfl
  · rw [if_neg h]
    show List.map _ (List.filter (fun p => inSp z p.2) [p]) = _
    rw [List.filter_cons_of_neg (p := fun p : Str × Span => inSp z p.2) h]
    rfl
theorem glow_len (ts : SpanL) (z : Int) : (glow ts z).length ≤ ts.length := by
  unfold glow
  rw [List.length_map]
  exact List.length_filter_le _ _
theorem tsOf_keys (L : SpH) : (tsOf L).map (·.1) = L.map (·.1) := by unfold tsOf; rw [List.map_map]; rfl
section
variable {P : Program} {w : World} {K : PySem.W.Frag} {mg : Str → Option Value} {base : Heap} {C : Addr}
theorem scArrInit : FnScope ["self", "settings", "stretches"] ["self", "settings", "stretches"] (defScope sArrangementInit) := ⟨rfl, rfl, rfl, by decide +kernel, rfl, by decide +kernel, by decide +kernel⟩
theorem ok_arrinit {f : Addr} {fd : FuncData} (F : Fun K "__init__" "Arrangement.__init__" sArrangementInit f fd) (T : TxtA K mg C) : FnOk P w K mg base CX0 1 f fd ["self", "settings", "stretches"] (spArrInit K C) := by
  refine F.ok scArrInit (fun vs H Q E h => ?_) (fun cdv A outer s H vs Q E hr h => ?_)
  · obtain ⟨H0, p, dx, a, b, ss, ts, rfl, _⟩ := h
    rfl
  · obtain ⟨H0, p, dx, a, b, ss, ts, rfl, s0, np, hp, ha, hb, k⟩ := h
    refine ⟨_, pss_cons (ps_fld (pv 0) (pe_frozen (pe_callTy call_dictD (by rfl) T.dict (by decide +kernel) (pa_cons (pv 1) pa_nil))) rfl) (pss_one (ps_fld (pv 0) (pe_frozen (pe_callTy call_dictD (by rfl) T.dict (by decide +kernel) (pa_cons (pv 2) pa_nil))) rfl)), ?_⟩
    obtain ⟨L, eL, hb, hL⟩ := hb
    refine ⟨_, rfl, a, _, rfl, rd_same s0 ha, fun d hd => ⟨d, _, rfl, upd_same, fun od => ?_⟩⟩
    rw [upd_upd]
    have s1 := Same.upd_new hd (o := .frz od (.dK (kvI ss)))
    have hd1 := upd_same (H := H) (a := d) (o := .frz od (.dK (kvI ss)))
    have hp1 := s1 _ _ hp
    have npd : p ≠ d := ne_of_none hp hd
    have s01 := s0.trans s1
    generalize upd H d (.frz od (.dK (kvI ss))) = H1 at *
    refine ⟨_, rfl, p, C, dx, _, rfl, hp1, T.cl, T.nS, by show 0 < 1000; decide, ?_⟩
    have s12 : Same H0 (upd H1 p (.ins C dx (putF "settings" (V.ref d) []))) := fun c o e => by rw [upd_ne (ne_of_none e np)]; exact s01 _ _ e
    have hd2 : upd H1 p (.ins C dx (putF "settings" (V.ref d) [])) d = some (.frz od (.dK (kvI ss))) := by rw [upd_ne npd.symm]; exact hd1
    have hp2 := upd_same (H := H1) (a := p) (o := .ins C dx (putF "settings" (V.ref d) []))
    have hL2 := hL.of s12
    have hb2 := rd_same s12 hb
    generalize upd H1 p (.ins C dx (putF "settings" (V.ref d) [])) = H2 at *
    refine ⟨_, rfl, b, _, rfl, hb2, fun e he => ⟨e, _, rfl, upd_same, fun oe => ?_⟩⟩
    rw [upd_upd]
    have s3 := Same.upd_new he (o := .frz oe (.dK (kvS L)))
    have he3 := upd_same (H := H2) (a := e) (o := .frz oe (.dK (kvS L)))
    have npe : p ≠ e := ne_of_none hp2 he
    have hp3 := s3 _ _ hp2
    have hd3 := s3 _ _ hd2
    have s03 := s12.trans s3
    have hL3 := hL.of s03
    generalize upd H2 e (.frz oe (.dK (kvS L))) = H3 at *
    refine ⟨_, rfl, p, C, dx, _, rfl, hp3, T.cl, T.nT, (by show 1 < 1000; decide), ?_⟩
    have s4 : Same H0 (upd H3 p (.ins C dx (af2 (.ref d) (.ref e)))) := fun c o q => by rw [upd_ne (ne_of_none q np)]; exact s03 _ _ q
    exact k _ s4 ⟨dx, d, e, upd_same, ⟨od, by rw [upd_ne npd.symm]; exact hd3⟩, L, oe, eL, by rw [upd_ne npe.symm]; exact he3, hL.of s4⟩
theorem scArrCall : FnScope ["self", "setting", "glowing", "lamp"] ["self", "setting"] (defScope sArrangementCall) := ⟨rfl, rfl, rfl, by decide +kernel, rfl, by decide +kernel, by decide +kernel⟩
def tGetSp (K : PySem.W.Frag) (i : Nat) : TE := tDGet (tFld K (tVar 0) "stretches") (tVar i)
theorem ok_arrcall {f : Addr} {fd : FuncData} (F : Fun K "__call__" "Arrangement.__call__" sArrangementCall f fd) (T : TxtA K mg C) (gC : Dfn P w K mg base CX0 1 "_contains" ["stretch", "setting"] (spContains K)) : FnOk P w K mg base CX0 2 f fd ["self", "setting"] (spArrCall K C) := by
  obtain ⟨fC, dC, mC, kC, bC, GC⟩ := gC
  refine F.ok scArrCall (fun vs H Q E h => ?_) (fun cdv A outer s H vs Q E hr h => ?_)
  · obtain ⟨p, ss, ts, z, rfl, _⟩ := h
    rfl
  · obtain ⟨p, ss, ts, z, rfl, ar, nd, few, k⟩ := h
    have hr1 : Room 1 _ := hr
    refine ⟨_, pss_cons (ps_setLc (i := 2) (own := [("lamp", 3)]) (g := gName 3) (tt := tB (tCall (spContains K) [] E0 (tCons (tGetSp K 3) (tCons (tVar 1) tNil)))) (te := tVar 3) rfl scArrCall.nd rfl rfl (sw_true rfl rfl rfl (by decide +kernel)) (pi_keys (pe_fld (pv 0) rfl)) (blkOk_by (N := ["self", "setting", "glowing", "lamp"]) (sc := defScope sArrangementCall) (by decide +kernel))
          (fun _ _ _ _ _ => pg_name (i := 3) scArrCall.nd rfl (Or.inl rfl)) (fun _ _ _ _ _ => pts_one (pt_val (by exact pe_call GC hr1 (by rfl) mC kC bC .nil pass0 (pa_cons (pe_dget (hu_of hr) (pe_fld (pv 0) rfl) (pv 3) (fun _ _ => rfl)) (pa_cons (pv 1) pa_nil))))) (fun _ _ _ _ _ => pv 3))
      (pss_one (ps_ret (pe_callTy call_tuple_of (by rfl) T.tuple (by decide +kernel) (pa_cons (pe_callB cr_sortedS (by rfl) T.sor (by decide +kernel) (pa_cons (pv 2) pa_nil)) pa_nil)))), ?_⟩
    obtain ⟨dx, a, b, hp, hset, L, od, eL, hb, hL⟩ := ar.ex
    subst eL
    rw [tsOf_keys] at nd
    unfold tsOf at few
    rw [List.length_map] at few
    refine ⟨_, rfl, p, C, dx, _, _, rfl, hp, T.cl, T.nT, af2_str _ _, b, od, rfl, .inl ⟨_, hb, fun D hD => lc_it (walk_keys (d := b) (o := od) (kvs := kvS L)) (fun i H' => Same H H' ∧ H' D = some (.lst ((glow (tsOf (L.take i)) z).map V.str))) ⟨Same.upd_new hD, upd_same⟩ (fun i H' _ ⟨s, _⟩ => s _ _ hb) ?_ ?_⟩⟩
    · rintro i v H1 H2 hi ⟨s1, hD1⟩ ⟨rfl, k', v', hv, rfl⟩
      obtain ⟨q, hq, hqm, rfl, rfl⟩ := kv_at hv
      have hp2 := s1 _ _ hp
      have hb2 := s1 _ _ hb
      refine ⟨rfl, _, rfl, p, C, dx, _, _, rfl, hp2, T.cl, T.nT, af2_str _ _, _, rfl, b, _, rfl, .inl ⟨kvS L, .inr q.1, .inr ⟨od, hb2⟩, rfl, (val_kvS nd hqm).symm⟩, _, rfl, q.2.1, q.2.2, z, rfl, (hL q hqm).of s1, _, rfl, ?_⟩
      have e1 : tsOf (L.take (i + 1)) = tsOf (L.take i) ++ [(q.1, q.2.2)] := by unfold tsOf; rw [take_snoc hq, List.map_append]; rfl
      rw [e1, glow_snoc]
      by_cases hz : inSp z q.2.2 = true
      · refine iteY hz ⟨_, rfl, _, hD1, ?_, fun c o e => ?_, ?_⟩
        · rw [List.length_map]
          have := glow_len (tsOf (L.take i)) z
          unfold tsOf at this
          rw [List.length_map, List.length_take] at this
          unfold tsOf
          exact small1000 (by omega)
        · rw [upd_ne (ne_of_none e hD)]
          exact s1 _ _ e
        · rw [upd_same, if_pos hz, List.map_append]
          rfl
      · have hz : inSp z q.2.2 = false := by simpa using hz
        refine iteZ hz ⟨s1, ?_⟩
        rw [if_neg (by rw [hz]; decide), List.append_nil]
        exact hD1
    · rintro H1 ⟨s1, hD1⟩
      have eln : (kvS L).length = L.length := by unfold kvS; rw [List.length_map]
      rw [eln, List.take_length] at hD1
      have gl := glow_len (tsOf L) z
      unfold tsOf at gl
      rw [List.length_map] at gl
      refine ⟨_, rfl, D, _, rfl, SqL.of hD1, by unfold tsOf; omega, fun ys l py sy hl => ?_⟩
      refine ⟨l, _, rfl, .inl ⟨SqL.of upd_same, fun t ht => ?_⟩⟩
      exact k _ t ys (s1.trans ((Same.upd_new hl).trans (Same.upd_new ht))) upd_same sy py
end
end Dl

/-! the methods that make arrangements -/
namespace Dl
open PySem PySem.Spec PyProof.Rows L2
abbrev kvM {α : Type} (M : List (Str × V × α)) : List (Key × V) := M.map fun q => (Sum.inr q.1, q.2.1)
theorem kvM_new {α : Type} {M : List (Str × V × α)} {k : Str} (v : V) (h : k ∉ M.map (·.1)) : putK (kvM M) (.inr k) v = kvM M ++ [(.inr k, v)] := by
  refine put_new v fun m => h ?_
  rw [List.map_map] at m
  exact m
/-- {k: .. for k in a dict of texts} -/
theorem dc_walk {α : Type} {g : α → V} {L : List (Str × α)} {b : Addr} {od : Obj} {H : Hp} {σ : L2.St} {i : Nat} {tv : TE} {Q : Addr → Hp → Prop} {Pb : Hp → V → α → Prop} (nd : (L.map (·.1)).Nodup) (few : L.length < 64)
    (hb : H b = some (.frz od (.dK (L.map fun p => ((Sum.inr p.1 : Key), g p.2))))) (wip : ∀ x, wipe ((wipe σ [i]).set i (some x)) [i] = wipe σ [i]) (get : ∀ x, ((wipe σ [i]).set i (some x))[i]? = some (some x))
    (st : ∀ H1 H2 v a, Same H1 H2 → Pb H1 v a → Pb H2 v a) (st2 : ∀ H1 v a D kvs kvs', H1 D = some (.dK kvs) → Pb H1 v a → Pb (upd H1 D (.dK kvs')) v a)
    (hv : ∀ p ∈ L, ∀ H1, Same H H1 → ∀ Q' : VK, (∀ H3 v', Same H1 H3 → Pb H3 v' p.2 → Q' v' H3) → tv ((wipe σ [i]).set i (some (.str p.1))) H1 Q')
    (k : ∀ H' D (M : List (Str × V × α)), Same H H' → H D = none → H' D = some (.dK (kvM M)) → M.map (fun q => (q.1, q.2.2)) = L → (∀ q ∈ M, Pb H' q.2.1 q.2.2) → Q D H') :
    ∀ D, H D = none → ∃ W : Nat → Nat → Hp → Prop, (∃ m, W 0 m (upd H D (.dK []))) ∧ ∀ j m H1, W j m H1 →
      ((Itk b od (L.map fun p => ((Sum.inr p.1 : Key), g p.2))).stop j H1 ∧ Q D H1) ∨ ((Itk b od (L.map fun p => ((Sum.inr p.1 : Key), g p.2))).go j H1 ∧ ∃ Nx : Hp → Prop, (∀ H', Nx H' → ∃ m', m' < m ∧ W (j + 1) m' H') ∧
        ∀ x H', (Itk b od (L.map fun p => ((Sum.inr p.1 : Key), g p.2))).yld j H1 x H' → gName i x (wipe σ [i]) H' fun σ2 H2 => wipe σ2 [i] = wipe σ [i] ∧ tYes σ2 H2 fun b H3 =>
          if b = true then tVar i σ2 H3 fun y H4 => tv σ2 H4 fun z H5 => ∃ kvs k, y = kV k ∧ H5 D = some (.dK kvs) ∧ kvs.length < sizeLine ∧ Nx (upd H5 D (.dK (putK kvs k z))) else Nx H3) := by
  intro D hD
  refine dc1_it (walk_keys (d := b) (o := od) (kvs := L.map fun p => ((Sum.inr p.1 : Key), g p.2))) (fun j H' => Same H H' ∧ ∃ M : List (Str × V × α), H' D = some (.dK (kvM M)) ∧ M.map (fun q => (q.1, q.2.2)) = L.take j ∧ ∀ q ∈ M, Pb H' q.2.1 q.2.2)
    ⟨Same.upd_new hD, [], upd_same, rfl, fun q hq => absurd hq (by simp)⟩ (fun j H' _ ⟨s, _⟩ => s _ _ hb) ?_ ?_
  · rintro j v H1 H2 hj ⟨s1, M, hM, eM, pM⟩ ⟨rfl, k', v', hx, rfl⟩
    obtain ⟨p, hp, hpm, rfl, rfl⟩ := kv_at hx
    refine ⟨wip _, ?_⟩
    refine ⟨_, get _, hv p hpm H2 s1 _ fun H3 z s3 pz => ?_⟩
    have hM3 := s3 _ _ hM
    have lM := congrArg List.length eM
    rw [List.length_map, List.length_take] at lM
    have eT := take_snoc hp
    have new : p.1 ∉ M.map (·.1) := fun m => by
      have e : M.map (·.1) = (L.take j).map (·.1) := by rw [← eM, List.map_map]; rfl
      have n2 : ((L.take (j + 1)).map (·.1)).Nodup := nd.sublist ((List.take_sublist _ _).map _)
      rw [eT, List.map_append, List.nodup_append] at n2
      rw [e] at m
      exact n2.2.2 _ m _ (List.mem_singleton.mpr rfl) rfl
    refine ⟨_, .inr p.1, rfl, hM3, small1000 (by rw [List.length_map]; omega), fun c o e => ?_, M ++ [(p.1, z, p.2)], ?_, ?_, fun q hq => ?_⟩
    · rw [upd_ne (ne_of_none e hD)]
      exact s3 _ _ (s1 _ _ e)
    · rw [upd_same, kvM_new z new]
      unfold kvM
      rw [List.map_append]
      rfl
    · rw [List.map_append, eM, eT]
      rfl
    · rcases List.mem_append.mp hq with h | h
      · exact st2 _ _ _ _ _ _ hM3 (st _ _ _ _ s3 (pM q h))
      · rw [List.mem_singleton.mp h]
        exact st2 _ _ _ _ _ _ hM3 pz
  · rintro H1 ⟨s1, M, hM, eM, pM⟩
    rw [List.length_map, List.take_length] at eM
    exact k H1 D M s1 hD hM eM pM
theorem updD_tup {K : PySem.W.Frag} {H : Hp} {D a : Addr} {xs : List V} {kvs kvs' : List (Key × V)} (hD : H D = some (.dK kvs)) (h : SqT K H a xs) : SqT K (upd H D (.dK kvs')) a xs := by
  have ne : ∀ {o : HO}, H a = some o → (∀ l, o ≠ .dK l) → a ≠ D := fun e n q => by rw [q, hD] at e; exact n _ (Option.some.inj e).symm
  rcases h with (h | ⟨o, h⟩) | h
  · exact .inl (.inl (by rw [upd_ne (ne h fun l e => by cases e)]; exact h))
  · exact .inl (.inr ⟨o, by rw [upd_ne (ne h fun l e => by cases e)]; exact h⟩)
  · exact .inr h
theorem updD_span {K : PySem.W.Frag} {H : Hp} {D : Addr} {v : V} {o : Span} {kvs kvs' : List (Key × V)} (hD : H D = some (.dK kvs)) (h : SpanV K H v o) : SpanV K (upd H D (.dK kvs')) v o := by
  cases o with
  | none => exact h
  | some q =>
    obtain ⟨t, e, ht⟩ := h
    exact ⟨t, e, updD_tup hD ht⟩
theorem set_of_M {H : Hp} {D : Addr} {f : Int → Int} {M : List (Str × V × Int)} {ss : SetL} (h : H D = some (.dK (kvM M))) (e : M.map (fun q => (q.1, q.2.2)) = ss) (p : ∀ q ∈ M, q.2.1 = .int (f q.2.2)) : SetR H D (ss.map fun p => (p.1, f p.2)) := by
  refine .inl ?_
  rw [h, ← e]
  unfold kvI kvM
  rw [List.map_map, List.map_map]
  congr 2
  refine List.map_congr_left fun q hq => ?_
  rw [p q hq]
  rfl
theorem span_of_M {K : PySem.W.Frag} {H : Hp} {D : Addr} {f : Span → Span} {M : List (Str × V × V × Span)} {L : SpH} (h : H D = some (.dK (kvM M))) (e : M.map (fun q => (q.1, q.2.2)) = L) (p : ∀ q ∈ M, SpanV K H q.2.1 (f q.2.2.2)) : SpanR K H D ((tsOf L).map fun p => (p.1, f p.2)) := by
  refine ⟨M.map fun q => (q.1, q.2.1, f q.2.2.2), ?_, .inl ?_, fun q hq => ?_⟩
  · rw [← e]
    unfold tsOf
    rw [List.map_map, List.map_map, List.map_map]
    rfl
  · rw [h]
    unfold kvS kvM
    rw [List.map_map]
    rfl
  · obtain ⟨r, hr, rfl⟩ := List.mem_map.mp hq
    exact p r hr
/-- what the class has -/
structure ArrM (P : Program) (w : World) (K : PySem.W.Frag) (mg : Str → Option Value) (base : Heap) (C : Addr) : Prop where
  txt : TxtA K mg C
  init : ∃ fI dI, Mk K C fI ∧ FnOk P w K mg base CX0 1 fI dI ["self", "settings", "stretches"] (spArrInit K C) ∧ Binds K dI ["self", "settings", "stretches"] []
theorem arr_make {K : PySem.W.Frag} {C : Addr} {H : Hp} {a b : Addr} {ss : SetL} {ts : SpanL} {Q : VK} {E : XK} (ha : SetR H a ss) (hb : SpanR K H b ts) (k : ∀ H' r, Same H H' → H r = none → ArrAt K C H' r ss ts → Q (.ref r) H') :
    ∀ x dx, H x = none → H dx = none → dx ≠ x → spArrInit K C (.ref x :: [.ref a, .ref b]) (upd (upd H dx (.own x)) x (.ins C dx [])) (fun v H2 => v = .non ∧ Q (.ref x) H2) E := fun x dx nx ndx nex => by
  have sm : Same H (upd (upd H dx (.own x)) x (.ins C dx [])) := fun c o e => by rw [upd_ne (ne_of_none e nx), upd_ne (ne_of_none e ndx)]; exact e
  exact ⟨H, x, dx, a, b, ss, ts, rfl, sm, nx, upd_same, ha, hb, fun H' s at_ => ⟨rfl, k H' x s nx at_⟩⟩
section
variable {P : Program} {w : World} {K : PySem.W.Frag} {mg : Str → Option Value} {base : Heap} {C : Addr}
theorem scArrAdd : FnScope ["self", "other", "settings", "stretches", "look", "lamp"] ["self", "other"] (defScope sArrangementAdd) := ⟨rfl, rfl, rfl, by decide +kernel, rfl, by decide +kernel, by decide +kernel⟩
def tGetSet (K : PySem.W.Frag) (i : Nat) : TE := tDGet (tFld K (tVar 0) "settings") (tVar i)
theorem ok_arradd {f : Addr} {fd : FuncData} (F : Fun K "__add__" "Arrangement.__add__" sArrangementAdd f fd) (T : ArrM P w K mg base C) (gM : Dfn P w K mg base CX0 1 "_moved" ["stretch", "distance"] (spMoved K)) : FnOk P w K mg base CX0 3 f fd ["self", "other"] (spArrAdd K C) := by
  obtain ⟨fM, dM, mM, kM, bM, GM⟩ := gM
  obtain ⟨TT, fI, dI, MI, GI, bI⟩ := T
  refine F.ok scArrAdd (fun vs H Q E h => ?_) (fun cdv A outer s H vs Q E hr h => ?_)
  · obtain ⟨p, ss, ts, d, rfl, _⟩ := h
    rfl
  · obtain ⟨p, ss, ts, d, rfl, ar, nd, nt, fs, ft, k⟩ := h
    have hr1 : Room 1 _ := hr.mono (by decide)
    have hr2 : Room 2 _ := hr.mono (by decide)
    refine ⟨_, pss_cons (ps_setDc1 (i := 2) (own := [("look", 4)]) (g := gName 4) (tt := tYes) (tk := tVar 4) (tv := tOp (rI0 fun i j => .int (i + j)) (tGetSet K 4) (tVar 1)) rfl scArrAdd.nd rfl rfl (sw_dict rfl rfl rfl (by decide +kernel)) (pi_keys (pe_fld (pv 0) rfl)) (blkOk_by (N := ["self", "other", "settings", "stretches", "look", "lamp"]) (sc := defScope sArrangementAdd) (by decide +kernel))
          (fun _ _ _ _ _ => pg_name (i := 4) scArrAdd.nd rfl (Or.inl rfl)) (fun _ _ _ _ _ => pts_nil) (fun _ _ _ _ _ => pv 4) (fun _ _ _ _ _ => by exact pe_op op_add (pe_dget (hu_of hr) (pe_fld (pv 0) rfl) (pv 4) (fun _ _ => rfl)) (pv 1)))
      (pss_cons (ps_setDc1 (i := 3) (own := [("lamp", 5)]) (g := gName 5) (tt := tYes) (tk := tVar 5) (tv := tCall (spMoved K) [] E0 (tCons (tGetSp K 5) (tCons (tVar 1) tNil))) rfl scArrAdd.nd rfl rfl (sw_dict rfl rfl rfl (by decide +kernel)) (pi_keys (pe_fld (pv 0) rfl)) (blkOk_by (N := ["self", "other", "settings", "stretches", "look", "lamp"]) (sc := defScope sArrangementAdd) (by decide +kernel))
          (fun _ _ _ _ _ => pg_name (i := 5) scArrAdd.nd rfl (Or.inl rfl)) (fun _ _ _ _ _ => pts_nil) (fun _ _ _ _ _ => pv 5) (fun _ _ _ _ _ => by exact pe_call GM hr1 (by rfl) mM kM bM .nil pass0 (pa_cons (pe_dget (hu_of hr) (pe_fld (pv 0) rfl) (pv 5) (fun _ _ => rfl)) (pa_cons (pv 1) pa_nil))))
      (pss_one (ps_ret (pe_make MI GI hr2 (by rfl) TT.gA bI .nil pass0 (pa_cons (pv 2) (pa_cons (pv 3) pa_nil)))))), ?_⟩
    obtain ⟨dx, a, b, hp, ⟨oa, ha⟩, L, ob, eL, hb, hL⟩ := ar.ex
    subst eL
    rw [tsOf_keys] at nt
    unfold tsOf at ft
    rw [List.length_map] at ft
    refine ⟨_, rfl, p, C, dx, _, _, rfl, hp, TT.cl, TT.nS, af2_set _ _, a, oa, rfl, .inl ⟨_, ha, dc_walk (i := 4) (L := ss) (tv := tOp (rI0 fun i j => .int (i + j)) (tGetSet K 4) (tVar 1)) (g := V.int) (Pb := fun _ v i => v = .int (i + d)) nd fs ha (fun _ => by rfl) (fun _ => by rfl) (fun _ _ _ _ _ h => h) (fun _ _ _ _ _ _ _ h => h) (fun q hq H1 s1 Q' k' => ?_) (fun H1 D M s1 nD hD eM pM => ?_)⟩⟩
    · refine ⟨_, rfl, p, C, dx, _, _, rfl, s1 _ _ hp, TT.cl, TT.nS, af2_set _ _, _, rfl, a, _, rfl, .inl ⟨kvI ss, .inr q.1, .inr ⟨oa, s1 _ _ ha⟩, rfl, (val_kvI nd hq).symm⟩, _, rfl, _, _, rfl, rfl, ?_⟩
      exact k' _ _ (Same.refl _) rfl
    · have set1 : SetR H1 D (shL d ss) := set_of_M (f := fun i => i + d) hD eM pM
      refine ⟨_, rfl, p, C, dx, _, _, rfl, s1 _ _ hp, TT.cl, TT.nT, af2_str _ _, b, ob, rfl, .inl ⟨_, s1 _ _ hb, dc_walk (i := 5) (tv := tCall (spMoved K) [] E0 (tCons (tGetSp K 5) (tCons (tVar 1) tNil))) (g := Prod.fst) (L := L) (Pb := fun H v o => SpanV K H v (mvSp d o.2)) nt ft (s1 _ _ hb) (fun _ => by rfl) (fun _ => by rfl) (fun _ _ _ _ s h => h.of s) (fun _ _ _ _ _ _ hD h => updD_span hD h) (fun q hq H2 s2 Q' k' => ?_) (fun H2 D2 M2 s2 nD2 hD2 eM2 pM2 => ?_)⟩⟩
      · have s12 := s1.trans s2
        exact ⟨_, rfl, p, C, dx, _, _, rfl, s12 _ _ hp, TT.cl, TT.nT, af2_str _ _, _, rfl, b, _, rfl, .inl ⟨kvS L, .inr q.1, .inr ⟨ob, s12 _ _ hb⟩, rfl, (val_kvS nt hq).symm⟩, _, rfl, q.2.1, q.2.2, d, rfl, (hL q hq).of s12, fun H3 v' s3 sv => k' _ _ s3 sv⟩
      · have s12 := s1.trans s2
        refine ⟨_, rfl, _, rfl, arr_make (set1.of s2) (span_of_M (f := mvSp d) hD2 eM2 pM2) fun H4 r s4 nr ar4 => ?_⟩
        exact k H4 r (s12.trans s4) (s12.free nr) ar4
end
end Dl

/-! - and == of arrangements, n + one -/
namespace Dl
open PySem PySem.Spec PyProof.Rows L2
def OwnM (P : Program) (w : World) (K : PySem.W.Frag) (mg : Str → Option Value) (base : Heap) (CN : Addr) (nm : Str) (k : Nat) (ps : List Str) (sp : Sp) : Prop :=
  ∃ f fd, PySem.W.findIn K (.ref CN) nm = some (some (.ref f)) ∧ PySem.W.isFn K (.ref f) = true ∧ Binds K fd ps [] ∧ FnOk P w K mg base CX0 k f fd ps sp
theorem room66 {k : Nat} {A : Around} (r : Room k A) : A.units + 66 < cLine := by
  have := r.un
  omega
/-- the facts of + with a whole number -/
structure AddF (K : PySem.W.Frag) (C : Addr) : Prop where
  selfF : PySem.W.selfFirst K C = true
  radd : ∃ g, PySem.W.findIn K (.ref C) (PySem.dunderR "add") = some (some (.ref g))
  i1 : ∃ o, PySem.W.findIn K (.type "int") (PySem.dunder "add") = some o
  i2 : ∃ o, PySem.W.findIn K (.type "int") (PySem.dunderR "add") = some o
  s1 : PySem.W.subIn K (.type "int") (.ref C) = some false
  s2 : PySem.W.subIn K (.ref C) (.type "int") = some false
def spArrEq (K : PySem.W.Frag) (C : Addr) : Sp := fun vs H Q _ => (∃ (a : Addr) (y : V) (t : Value), vs = [.ref a, y] ∧ TyOf K H y t ∧ PySem.W.kitOne K t (.ref C) = some false ∧ Q (.bl false) H) ∨
  ∃ (a b : Addr) (ss rs : SetL) (ts us : SpanL), vs = [.ref a, .ref b] ∧ ArrAt K C H a ss ts ∧ ArrAt K C H b rs us ∧ Q (.bl (deq (pdD pdI ss) (pdD pdI rs) && deq (pdD pdO ts) (pdD pdO us))) H
section
variable {P : Program} {w : World} {K : PySem.W.Frag} {mg : Str → Option Value} {base : Heap} {C : Addr}
theorem scArrNeg : FnScope ["self", "settings", "stretches", "look", "lamp"] ["self"] (defScope sArrangementNeg) := ⟨rfl, rfl, rfl, by decide +kernel, rfl, by decide +kernel, by decide +kernel⟩
theorem ok_arrneg {f : Addr} {fd : FuncData} (F : Fun K "__neg__" "Arrangement.__neg__" sArrangementNeg f fd) (T : ArrM P w K mg base C) (gM : Dfn P w K mg base CX0 1 "_turned" ["stretch"] (spTurned K)) : FnOk P w K mg base CX0 3 f fd ["self"] (spArrNeg K C) := by
  obtain ⟨fM, dM, mM, kM, bM, GM⟩ := gM
  obtain ⟨TT, fI, dI, MI, GI, bI⟩ := T
  refine F.ok scArrNeg (fun vs H Q E h => ?_) (fun cdv A outer s H vs Q E hr h => ?_)
  · obtain ⟨p, ss, ts, rfl, _⟩ := h
    rfl
  · obtain ⟨p, ss, ts, rfl, ar, nd, nt, fs, ft, k⟩ := h
    have hr1 : Room 1 _ := hr.mono (by decide)
    have hr2 : Room 2 _ := hr.mono (by decide)
    refine ⟨_, pss_cons (ps_setDc1 (i := 1) (own := [("look", 3)]) (g := gName 3) (tt := tYes) (tk := tVar 3) (tv := tUn (rU fun i => .int (-i)) (tGetSet K 3)) rfl scArrNeg.nd rfl rfl (sw_dict rfl rfl rfl (by decide +kernel)) (pi_keys (pe_fld (pv 0) rfl)) (blkOk_by (N := ["self", "settings", "stretches", "look", "lamp"]) (sc := defScope sArrangementNeg) (by decide +kernel))
          (fun _ _ _ _ _ => pg_name (i := 3) scArrNeg.nd rfl (Or.inl rfl)) (fun _ _ _ _ _ => pts_nil) (fun _ _ _ _ _ => pv 3) (fun _ _ _ _ _ => by exact pe_un un_neg (pe_dget (hu_of hr) (pe_fld (pv 0) rfl) (pv 3) (fun _ _ => rfl))))
      (pss_cons (ps_setDc1 (i := 2) (own := [("lamp", 4)]) (g := gName 4) (tt := tYes) (tk := tVar 4) (tv := tCall (spTurned K) [] E0 (tCons (tGetSp K 4) tNil)) rfl scArrNeg.nd rfl rfl (sw_dict rfl rfl rfl (by decide +kernel)) (pi_keys (pe_fld (pv 0) rfl)) (blkOk_by (N := ["self", "settings", "stretches", "look", "lamp"]) (sc := defScope sArrangementNeg) (by decide +kernel))
          (fun _ _ _ _ _ => pg_name (i := 4) scArrNeg.nd rfl (Or.inl rfl)) (fun _ _ _ _ _ => pts_nil) (fun _ _ _ _ _ => pv 4) (fun _ _ _ _ _ => by exact pe_call GM hr1 (by rfl) mM kM bM .nil pass0 (pa_cons (pe_dget (hu_of hr) (pe_fld (pv 0) rfl) (pv 4) (fun _ _ => rfl)) pa_nil)))
      (pss_one (ps_ret (pe_make MI GI hr2 (by rfl) TT.gA bI .nil pass0 (pa_cons (pv 1) (pa_cons (pv 2) pa_nil)))))), ?_⟩
    obtain ⟨dx, a, b, hp, ⟨oa, ha⟩, L, ob, eL, hb, hL⟩ := ar.ex
    subst eL
    rw [tsOf_keys] at nt
    unfold tsOf at ft
    rw [List.length_map] at ft
    refine ⟨_, rfl, p, C, dx, _, _, rfl, hp, TT.cl, TT.nS, af2_set _ _, a, oa, rfl, .inl ⟨_, ha, dc_walk (i := 3) (L := ss) (tv := tUn (rU fun i => .int (-i)) (tGetSet K 3)) (g := V.int) (Pb := fun _ v i => v = .int (-i)) nd fs ha (fun _ => by rfl) (fun _ => by rfl) (fun _ _ _ _ _ h => h) (fun _ _ _ _ _ _ _ h => h) (fun q hq H1 s1 Q' k' => ?_) (fun H1 D M s1 nD hD eM pM => ?_)⟩⟩
    · refine ⟨_, rfl, p, C, dx, _, _, rfl, s1 _ _ hp, TT.cl, TT.nS, af2_set _ _, _, rfl, a, _, rfl, .inl ⟨kvI ss, .inr q.1, .inr ⟨oa, s1 _ _ ha⟩, rfl, (val_kvI nd hq).symm⟩, _, rfl, ?_⟩
      exact k' _ _ (Same.refl _) rfl
    · have set1 : SetR H1 D (ngL ss) := set_of_M (f := fun i => -i) hD eM pM
      refine ⟨_, rfl, p, C, dx, _, _, rfl, s1 _ _ hp, TT.cl, TT.nT, af2_str _ _, b, ob, rfl, .inl ⟨_, s1 _ _ hb, dc_walk (i := 4) (tv := tCall (spTurned K) [] E0 (tCons (tGetSp K 4) tNil)) (g := Prod.fst) (L := L) (Pb := fun H v o => SpanV K H v (tnSp o.2)) nt ft (s1 _ _ hb) (fun _ => by rfl) (fun _ => by rfl) (fun _ _ _ _ s h => h.of s) (fun _ _ _ _ _ _ hD h => updD_span hD h) (fun q hq H2 s2 Q' k' => ?_) (fun H2 D2 M2 s2 nD2 hD2 eM2 pM2 => ?_)⟩⟩
      · have s12 := s1.trans s2
        exact ⟨_, rfl, p, C, dx, _, _, rfl, s12 _ _ hp, TT.cl, TT.nT, af2_str _ _, _, rfl, b, _, rfl, .inl ⟨kvS L, .inr q.1, .inr ⟨ob, s12 _ _ hb⟩, rfl, (val_kvS nt hq).symm⟩, q.2.1, q.2.2, rfl, (hL q hq).of s12, fun H3 v' s3 sv => k' _ _ s3 sv⟩
      · have s12 := s1.trans s2
        refine ⟨_, rfl, _, rfl, arr_make (set1.of s2) (span_of_M (f := tnSp) hD2 eM2 pM2) fun H4 r s4 nr ar4 => ?_⟩
        exact k H4 r (s12.trans s4) (s12.free nr) ar4

theorem scArrRadd : FnScope ["self", "other"] ["self", "other"] (defScope sArrangementRadd) := ⟨rfl, rfl, rfl, by decide +kernel, rfl, by decide +kernel, by decide +kernel⟩
theorem ok_arrradd {f : Addr} {fd : FuncData} (F : Fun K "__radd__" "Arrangement.__radd__" sArrangementRadd f fd) (A0 : AddF K C) (mA : OwnM P w K mg base C "__add__" 3 ["self", "other"] (spArrAdd K C)) : FnOk P w K mg base CX0 4 f fd ["self", "other"] (spArrAdd K C) := by
  obtain ⟨fA, dA, hA, iA, bA, GA⟩ := mA
  have hA : PySem.W.findIn K (.ref C) (PySem.dunder (Operator.info .Add).2) = some (some (.ref fA)) := hA
  obtain ⟨g, hg⟩ := A0.radd
  obtain ⟨o1, h1⟩ := A0.i1
  obtain ⟨o2, h2⟩ := A0.i2
  have hg : PySem.W.findIn K (.ref C) (PySem.dunderR (Operator.info .Add).2) = some (some (.ref g)) := hg
  have h1 : PySem.W.findIn K (.type "int") (PySem.dunder (Operator.info .Add).2) = some o1 := h1
  have h2 : PySem.W.findIn K (.type "int") (PySem.dunderR (Operator.info .Add).2) = some o2 := h2
  refine F.ok scArrRadd (fun vs H Q E h => ?_) (fun cdv A outer s H vs Q E hr h => ?_)
  · obtain ⟨p, ss, ts, d, rfl, _⟩ := h
    rfl
  · obtain ⟨p, ss, ts, d, rfl, ar, k⟩ := h
    have hr3 : Room 3 _ := hr
    refine ⟨_, pss_one (ps_ret (pe_op (op_binInt GA A0.selfF hA iA hg (.inr ⟨g, rfl⟩) h1 h2 A0.s1 hr3 bA pass0) (pv 0) (pv 1))), ?_⟩
    obtain ⟨dx, a, b, hp, _⟩ := ar.ex
    exact ⟨_, rfl, _, rfl, p, dx, _, d, rfl, hp, rfl, p, ss, ts, d, rfl, ar, k⟩
theorem scArrEq : FnScope ["self", "other"] ["self", "other"] (defScope sArrangementEq) := ⟨rfl, rfl, rfl, by decide +kernel, rfl, by decide +kernel, by decide +kernel⟩
theorem ok_arreq {f : Addr} {fd : FuncData} (F : Fun K "__eq__" "Arrangement.__eq__" sArrangementEq f fd) (T : TxtA K mg C) (ic : C8.InsC K C) : FnOk P w K mg base CX0 1 f fd ["self", "other"] (spArrEq K C) := by
  refine F.ok scArrEq (fun vs H Q E h => ?_) (fun cdv A outer s H vs Q E hr h => ?_)
  · rcases h with ⟨a, y, t, rfl, _⟩ | ⟨a, b, ss, rs, ts, us, rfl, _⟩ <;> rfl
  · have h66 := room66 hr
    refine ⟨_, pss_one (ps_ret (pe_and (pe_callB call_isi (by rfl) T.isinstance (by decide +kernel) (pa_cons (pv 1) (pa_cons (pe_glob (v := .ref C) (by rfl) T.gA rfl) pa_nil))) (pe_and (pe_cmpR (op_eqDD h66) (pe_fld (pv 0) rfl) (pe_fld (pv 1) rfl) (nomark _)) (pe_one (pe_cmpR (op_eqDD h66) (pe_fld (pv 0) rfl) (pe_fld (pv 1) rfl) (nomark _)))))), ?_⟩
    rcases h with ⟨a, y, t, rfl, ty, kt, k⟩ | ⟨a, b, ss, rs, ts, us, rfl, ar, br, k⟩
    · exact ⟨_, rfl, _, _, _, _, false, rfl, ClsV.own C, .base ty, kt, _, rfl, iteF k⟩
    · obtain ⟨dx, p, q, ha, h1, h2⟩ := ar.ex
      obtain ⟨dy, p', q', hb, h3, h4⟩ := br.ex
      refine ⟨_, rfl, _, _, _, _, true, rfl, ClsV.own C, .base (TyOf.ins hb ic.cl ic.ha ic.hn ic.htk ic.hm), ic.me, _, rfl, iteT ?_⟩
      refine ⟨_, rfl, a, C, dx, _, _, rfl, ha, T.cl, T.nS, af2_set _ _, _, rfl, b, C, dy, _, _, rfl, hb, T.cl, T.nS, af2_set _ _, p, p', _, _, rfl, rfl, set_dd h1.r, set_dd h3.r, _, rfl, ?_⟩
      cases e : deq (pdD pdI ss) (pdD pdI rs) with
      | false =>
        rw [e, Bool.false_and] at k
        exact iteF k
      | true =>
        rw [e, Bool.true_and] at k
        exact iteT ⟨_, rfl, a, C, dx, _, _, rfl, ha, T.cl, T.nT, af2_str _ _, _, rfl, b, C, dy, _, _, rfl, hb, T.cl, T.nT, af2_str _ _, q, q', _, _, rfl, rfl, span_dd h2.r, span_dd h4.r, k⟩
end
end Dl

/-! _law_glowing, _law_is_made -/
namespace Dl
open PySem PySem.Spec PyProof.Rows L2
def SetU (H : Hp) (a : Addr) (ss : SetL) : Prop := H a = some (.dK (kvI ss))
def SpanU (K : PySem.W.Frag) (H : Hp) (a : Addr) (ts : SpanL) : Prop := ∃ L, tsOf L = ts ∧ H a = some (.dK (kvS L)) ∧ SpansV K H L
theorem SetU.of {H H' : Hp} {a : Addr} {ss : SetL} (s : Same H H') (h : SetU H a ss) : SetU H' a ss := s _ _ h
theorem SpanU.of {K : PySem.W.Frag} {H H' : Hp} {a : Addr} {ts : SpanL} (s : Same H H') (h : SpanU K H a ts) : SpanU K H' a ts := by
  obtain ⟨L, e, h1, h2⟩ := h
  exact ⟨L, e, s _ _ h1, h2.of s⟩
theorem SetU.r {H : Hp} {a : Addr} {ss : SetL} (h : SetU H a ss) : SetR H a ss := .inl h
theorem SpanU.r {K : PySem.W.Frag} {H : Hp} {a : Addr} {ts : SpanL} (h : SpanU K H a ts) : SpanR K H a ts := by
  obtain ⟨L, e, h1, h2⟩ := h
  exact ⟨L, e, .inl h1, h2⟩
theorem sameB_tup {K : PySem.W.Frag} {b a : Addr} {H H' : Hp} {xs ys : List V} (s : SameB b H H') (hb : H b = some (.lst ys)) (h : SqT K H a xs) : SqT K H' a xs := by
  have ne : ∀ {o : HO}, H a = some o → (∀ l, o ≠ .lst l) → a ≠ b := fun e n q => by rw [q, hb] at e; exact n _ (Option.some.inj e).symm
  rcases h with (h | ⟨o, h⟩) | h
  · exact .inl (.inl (s _ _ (ne h fun l e => by cases e) h))
  · exact .inl (.inr ⟨o, s _ _ (ne h fun l e => by cases e) h⟩)
  · exact .inr h
theorem SpanV.ofB {K : PySem.W.Frag} {b : Addr} {H H' : Hp} {ys : List V} {v : V} {o : Span} (s : SameB b H H') (hb : H b = some (.lst ys)) (h : SpanV K H v o) : SpanV K H' v o := by
  cases o with
  | none => exact h
  | some q =>
    obtain ⟨t, e, ht⟩ := h
    exact ⟨t, e, sameB_tup s hb ht⟩
theorem SpansV.ofB {K : PySem.W.Frag} {b : Addr} {H H' : Hp} {ys : List V} {L : SpH} (s : SameB b H H') (hb : H b = some (.lst ys)) (h : SpansV K H L) : SpansV K H' L := fun q hq => (h q hq).ofB s hb
theorem st_at {L : List Str} {i : Nat} {v : V} (h : (L.map V.str)[i]? = some v) : ∃ q, L[i]? = some q ∧ q ∈ L ∧ v = .str q := by
  rw [List.getElem?_map] at h
  cases e : L[i]? with
  | none => rw [e] at h; cases h
  | some q => rw [e] at h; exact ⟨q, rfl, List.mem_of_getElem? e, (Option.some.inj h).symm⟩
def spGlowing (K : PySem.W.Frag) : Sp := fun vs H Q _ => ∃ l s ls ts z, vs = [.ref l, .ref s, .int z] ∧ H l = some (.lst (ls.map V.str)) ∧ SpanU K H s ts ∧ ls = ts.map (·.1) ∧ (ts.map (·.1)).Nodup ∧ ts.length < 64 ∧ ∀ H' t ys, Same H H' → SqT K H' t (ys.map V.str) → sortedS ys = true → ys.Perm (glow ts z) → Q (.ref t) H'
def spIsMade (K : PySem.W.Frag) (C : Addr) : Sp := fun vs H Q _ => ∃ p a b ss ts rs us, vs = [.ref p, .ref a, .ref b] ∧ ArrAt K C H p ss ts ∧ SetU H a rs ∧ SpanU K H b us ∧ Q (.bl (deq (pdD pdI ss) (pdD pdI rs) && deq (pdD pdO ts) (pdD pdO us))) H
section
variable {P : Program} {w : World} {K : PySem.W.Frag} {mg : Str → Option Value} {base : Heap} {C : Addr}
theorem scGlowing : FnScope ["_law_lamps", "_law_stretches", "_law_setting", "_law_found", "_law_lamp", "_law_ends"] ["_law_lamps", "_law_stretches", "_law_setting"] (defScope sLawGlowing) := ⟨rfl, rfl, rfl, by decide +kernel, rfl, by decide +kernel, by decide +kernel⟩
theorem ok_glowing {f : Addr} {fd : FuncData} (F : Fun K "_law_glowing" "_law_glowing" sLawGlowing f fd) (T : TxtA K mg C) : FnOk P w K mg base CX0 1 f fd ["_law_lamps", "_law_stretches", "_law_setting"] (spGlowing K) := by
  refine F.ok scGlowing (fun vs H Q E h => ?_) (fun cdv A outer s H vs Q E hr h => ?_)
  · obtain ⟨l, s, ls, ts, z, rfl, _⟩ := h
    rfl
  · obtain ⟨l, s, ls, ts, z, rfl, hl, ⟨L, rfl, hs, hL⟩, rfl, nd, few, k⟩ := h
    refine ⟨_, (pss_cons (ps_set (i := 3) scGlowing.nd rfl (Or.inl rfl) (pe_lst pa_nil))
        (pss_cons (ps_for PassesOwn.never rfl (pi_list (pv 0)) (pg_name (i := 4) scGlowing.nd rfl (Or.inl rfl)) (pss_cons (ps_set (i := 5) scGlowing.nd rfl (Or.inl rfl) (pe_dget (hu_of hr) (pv 1) (pv 4) (fun _ _ => rfl)))
        (pss_one (ps_if (PW.pt (pw_and (pt_cmpR op_notN (pv 5) pe_non (nomark _)) (pw_and (pt_cmpR op_le (pe_ix ix_tup (pv 5) pe_int (fun _ _ => rfl)) (pv 2) (nomark _)) (pw_and1 (pt_cmpR op_le (pv 2) (pe_ix ix_tup (pv 5) pe_int (fun _ _ => rfl)) (nomark _)))))) (pss_one (ps_expr (pe_bm PySem.F.plainAttrs_list PySem.F.slot_list_append PySem.F.type_list_append mt_append (pv 3) (pa_cons (pv 4) pa_nil)))) pss_nil))))
        (pss_one (ps_ret (pe_callTy call_tuple_of (by rfl) T.tuple (by decide +kernel) (pa_cons (pe_callB cr_sortedS (by rfl) T.sor (by decide +kernel) (pa_cons (pv 3) pa_nil)) pa_nil)))))), ?_⟩
    rw [tsOf_keys] at hl nd
    have few2 : L.length < 64 := by unfold tsOf at few; rw [List.length_map] at few; exact few
    refine ⟨Nat.zero_le _, fun g hg => ?_⟩
    have s1 := Same.upd_new hg (o := .lst [])
    have hg1 := upd_same (H := H) (a := g) (o := .lst [])
    have nlg : l ≠ g := ne_of_none hl hg
    have nsg : s ≠ g := ne_of_none hs hg
    have hl := s1 _ _ hl
    have hs := s1 _ _ hs
    have hL := hL.of s1
    generalize upd H g (.lst []) = H1 at *
    refine ⟨_, rfl, l, rfl, ⟨_, SqL.of hl⟩, for_it (walk_list (K := K) (a := l) (xs := (L.map (·.1)).map V.str)) (fun i σ H' => ∃ x4 x5, σ = [some (.ref l), some (.ref s), some (.int z), some (.ref g), x4, x5] ∧ SameB g H1 H' ∧ H' g = some (.lst ((glow (tsOf (L.take i)) z).map V.str)))
      ⟨_, _, rfl, SameB.refl _ _, hg1⟩ (fun i σ H' _ ⟨_, _, _, kp, _⟩ => SqL.of (kp _ _ nlg hl)) ?_ ?_⟩
    · rintro i v σ H2 H3 hi ⟨x4, x5, rfl, kp, hg2⟩ ⟨rfl, hv⟩
      obtain ⟨n, hn, _, rfl⟩ := st_at hv
      obtain ⟨q, hq, rfl⟩ : ∃ q, L[i]? = some q ∧ n = q.1 := by
        rw [List.getElem?_map] at hn
        cases e : L[i]? with
        | none => rw [e] at hn; cases hn
        | some q => rw [e] at hn; exact ⟨q, rfl, (Option.some.inj hn).symm⟩
      have hqm := List.mem_of_getElem? hq
      have e1 : tsOf (L.take (i + 1)) = tsOf (L.take i) ++ [(q.1, q.2.2)] := by unfold tsOf; rw [take_snoc hq, List.map_append]; rfl
      have sv := (hL q hqm).ofB kp hg1
      have hs2 := kp _ _ nsg hs
      have put : inSp z q.2.2 = true → ∃ x4 x5, [some (V.ref l), some (V.ref s), some (V.int z), some (V.ref g), some (V.str q.1), some q.2.1] = [some (.ref l), some (.ref s), some (.int z), some (.ref g), x4, x5] ∧ SameB g H1 (upd H3 g (.lst ((glow (tsOf (L.take i)) z).map V.str ++ [V.str q.1]))) ∧
          upd H3 g (.lst ((glow (tsOf (L.take i)) z).map V.str ++ [V.str q.1])) g = some (.lst ((glow (tsOf (L.take (i + 1))) z).map V.str)) := fun hz => by
        refine ⟨_, _, rfl, fun c o n e => by rw [upd_ne n]; exact kp _ _ n e, ?_⟩
        rw [upd_same, e1, glow_snoc, if_pos hz, List.map_append]
        rfl
      have stay : inSp z q.2.2 = false → ∃ x4 x5, [some (V.ref l), some (V.ref s), some (V.int z), some (V.ref g), some (V.str q.1), some q.2.1] = [some (.ref l), some (.ref s), some (.int z), some (.ref g), x4, x5] ∧ SameB g H1 H3 ∧
          H3 g = some (.lst ((glow (tsOf (L.take (i + 1))) z).map V.str)) := fun hz => by
        refine ⟨_, _, rfl, kp, ?_⟩
        rw [e1, glow_snoc, if_neg (by rw [hz]; decide), List.append_nil]
        exact hg2
      have room : ((glow (tsOf (L.take i)) z).map V.str).length < sizeLine := by
        rw [List.length_map]
        have := glow_len (tsOf (L.take i)) z
        unfold tsOf at this
        rw [List.length_map, List.length_take] at this
        unfold tsOf
        exact small1000 (by omega)
      refine ⟨_, rfl, _, rfl, s, q.2.1, rfl, .inl ⟨kvS L, .inr q.1, .inl hs2, rfl, (val_kvS nd hqm).symm⟩, ?_⟩
      cases ho : q.2.2 with
      | none =>
        rw [ho] at sv put stay
        have e2 : q.2.1 = .non := sv
        refine ⟨_, rfl, rfl, _, rfl, ?_⟩
        rw [e2]
        refine iteZ rfl ?_
        rw [e2] at stay
        exact stay rfl
      | some r =>
        rw [ho] at sv put stay
        obtain ⟨t, e2, ht⟩ := sv
        rw [e2] at put stay ⊢
        refine ⟨_, rfl, rfl, true, rfl, iteT ?_⟩
        refine ⟨_, rfl, t, _, 0, _, rfl, rfl, ht, rfl, _, rfl, _, _, rfl, rfl, _, rfl, ?_⟩
        by_cases h1 : r.1 ≤ z
        · refine iteY (decide_eq_true h1) ?_
          refine ⟨_, rfl, _, rfl, t, _, 1, _, rfl, rfl, ht, rfl, _, _, rfl, rfl, _, rfl, ?_⟩
          by_cases h2 : z ≤ r.2
          · refine iteY (decide_eq_true h2) ?_
            exact ⟨_, rfl, .inl ⟨rfl, _, SqL.of hg2⟩, _, rfl, g, _, _, rfl, rfl, hg2, room, put (by show (decide (r.1 ≤ z) && decide (z ≤ r.2)) = true; rw [decide_eq_true h1, decide_eq_true h2]; rfl)⟩
          · exact iteZ (decide_eq_false h2) (stay (by show (decide (r.1 ≤ z) && decide (z ≤ r.2)) = false; rw [decide_eq_false h2, Bool.and_false]))
        · exact iteZ (decide_eq_false h1) (stay (by show (decide (r.1 ≤ z) && decide (z ≤ r.2)) = false; rw [decide_eq_false h1, Bool.false_and]))
    · rintro σ H2 ⟨x4, x5, rfl, kp, hg2⟩
      rw [List.length_map, List.length_map, List.take_length] at hg2
      have sH : Same H H2 := fun c o e => kp _ _ (ne_of_none e hg) (s1 _ _ e)
      have gl := glow_len (tsOf L) z
      unfold tsOf at gl
      rw [List.length_map] at gl
      refine ⟨_, rfl, g, _, rfl, SqL.of hg2, by unfold tsOf; omega, fun ys m py sy hm => ?_⟩
      refine ⟨m, _, rfl, .inl ⟨SqL.of upd_same, fun t ht => ?_⟩⟩
      exact k _ t ys (sH.trans ((Same.upd_new hm).trans (Same.upd_new ht))) (SqT.of upd_same) sy py
theorem scIsMade : FnScope ["_law_made", "_law_settings", "_law_stretches"] ["_law_made", "_law_settings", "_law_stretches"] (defScope sLawIsMade) := ⟨rfl, rfl, rfl, by decide +kernel, rfl, by decide +kernel, by decide +kernel⟩
theorem ok_ismade {f : Addr} {fd : FuncData} (F : Fun K "_law_is_made" "_law_is_made" sLawIsMade f fd) (T : TxtA K mg C) (ic : C8.InsC K C) : FnOk P w K mg base CX0 1 f fd ["_law_made", "_law_settings", "_law_stretches"] (spIsMade K C) := by
  refine F.ok scIsMade (fun vs H Q E h => ?_) (fun cdv A outer s H vs Q E hr h => ?_)
  · obtain ⟨p, a, b, ss, ts, rs, us, rfl, _⟩ := h
    rfl
  · obtain ⟨p, a, b, ss, ts, rs, us, rfl, ar, hr1, hu1, k⟩ := h
    have h66 := room66 hr
    refine ⟨_, (pss_one (ps_ret (pe_and (pe_callB call_isi (by rfl) T.isinstance (by decide +kernel) (pa_cons (pv 0) (pa_cons (pe_glob (v := .ref C) (by rfl) T.gA rfl) pa_nil))) (pe_and (pe_cmpR (op_eqDD h66) (pe_fld (pv 0) rfl) (pv 1) (nomark _)) (pe_one (pe_cmpR (op_eqDD h66) (pe_fld (pv 0) rfl) (pv 2) (nomark _))))))), ?_⟩
    obtain ⟨dx, x, y, hp, h1, h2⟩ := ar.ex
    refine ⟨_, rfl, _, _, _, _, true, rfl, ClsV.own C, .base (TyOf.ins hp ic.cl ic.ha ic.hn ic.htk ic.hm), ic.me, _, rfl, iteT ?_⟩
    refine ⟨_, rfl, p, C, dx, _, _, rfl, hp, T.cl, T.nS, af2_set _ _, _, rfl, x, a, _, _, rfl, rfl, set_dd h1.r, set_dd hr1.r, _, rfl, ?_⟩
    cases e : deq (pdD pdI ss) (pdD pdI rs) with
    | false =>
      rw [e, Bool.false_and] at k
      exact iteF k
    | true =>
      rw [e, Bool.true_and] at k
      exact iteT ⟨_, rfl, p, C, dx, _, _, rfl, hp, T.cl, T.nT, af2_str _ _, _, rfl, y, b, _, _, rfl, rfl, span_dd h2.r, span_dd hu1.r, k⟩
end
end Dl

/-! _law_drawn_settings, _law_drawn_stretches -/
namespace Dl
open PySem PySem.Spec PyProof.Rows L2
theorem put_last {kvs : List (Key × V)} {k : Str} {v v' : V} (h : k ∉ kvs.map fun p => p.1.elim (fun _ => ("" : Str)) id) : putK (kvs ++ [(.inr k, v)]) (.inr k) v' = kvs ++ [(.inr k, v')] := by
  have ne : ∀ p ∈ kvs, ¬ p.1 = (.inr k : Key) := fun p hp e => h (List.mem_map.mpr ⟨p, hp, by rw [e]; rfl⟩)
  unfold putK
  rw [if_pos (by rw [List.any_append]; simp)]
  rw [List.map_append]
  congr 1
  · refine (List.map_congr_left fun p hp => ?_).trans (List.map_id _)
    rw [if_neg (ne p hp)]
    rfl
  · rw [List.map_cons, if_pos rfl]
    rfl
theorem new_kvI {ss : SetL} {k : Str} (h : k ∉ ss.map (·.1)) : k ∉ (kvI ss).map fun p => p.1.elim (fun _ => ("" : Str)) id := by
  unfold kvI
  rw [List.map_map]
  exact h
theorem new_kvS {L : SpH} {k : Str} (h : k ∉ L.map (·.1)) : k ∉ (kvS L).map fun p => p.1.elim (fun _ => ("" : Str)) id := by
  unfold kvS
  rw [List.map_map]
  exact h
theorem kvI_snoc (ss : SetL) (p : Str × Int) : kvI (ss ++ [p]) = kvI ss ++ [(.inr p.1, .int p.2)] := by unfold kvI; rw [List.map_append]; rfl
theorem kvS_snoc (L : SpH) (p : Str × V × Span) : kvS (L ++ [p]) = kvS L ++ [(.inr p.1, p.2.1)] := by unfold kvS; rw [List.map_append]; rfl
theorem take_new {l : List Str} (nd : l.Nodup) {i : Nat} {x : Str} (h : l[i]? = some x) : x ∉ l.take i := fun m => by
  have n2 : (l.take (i + 1)).Nodup := nd.sublist (List.take_sublist _ _)
  rw [take_snoc h, List.nodup_append] at n2
  exact n2.2.2 _ m _ (List.mem_singleton.mpr rfl) rfl
def spDSets : Sp := fun vs H Q _ => ∃ (b l : Addr) (L : List Int) (zs : List Str), vs = [.ref b, .ref l] ∧ H b = some (.lst (L.map V.int)) ∧ BagOk L ∧ H l = some (.lst (zs.map V.str)) ∧ l ≠ b ∧ zs.Nodup ∧ zs.length < 64 ∧
  ∀ (H' : Hp) (d : Addr) (L' : List Int) (ss : SetL), SameB b H H' → H d = none → H' b = some (.lst (L'.map V.int)) → BagOk L' → SetU H' d ss → ss.map (·.1) = zs → Q (.ref d) H'
def spDStrs (K : PySem.W.Frag) : Sp := fun vs H Q _ => ∃ (b l : Addr) (L : List Int) (zs : List Str), vs = [.ref b, .ref l] ∧ H b = some (.lst (L.map V.int)) ∧ BagOk L ∧ H l = some (.lst (zs.map V.str)) ∧ l ≠ b ∧ zs.Nodup ∧ zs.length < 64 ∧
  ∀ (H' : Hp) (d : Addr) (L' : List Int) (ts : SpanL), SameB b H H' → H d = none → H' b = some (.lst (L'.map V.int)) → BagOk L' → SpanU K H' d ts → ts.map (·.1) = zs → Q (.ref d) H'
section
variable {P : Program} {w : World} {K : PySem.W.Frag} {mg : Str → Option Value} {base : Heap} {C : Addr}
theorem scDSets : FnScope ["_law_bag_here", "_law_looks", "_law_settings", "_law_look"] ["_law_bag_here", "_law_looks"] (defScope sLawDrawnSettings) := ⟨rfl, rfl, rfl, by decide +kernel, rfl, by decide +kernel, by decide +kernel⟩
theorem ok_dsets {f : Addr} {fd : FuncData} (F : Fun K "_law_drawn_settings" "_law_drawn_settings" sLawDrawnSettings f fd) (gT : Dfn P w K mg base CX0 1 "_law_take" ["_law_bag_here", "_law_size"] spTake) : FnOk P w K mg base CX0 2 f fd ["_law_bag_here", "_law_looks"] spDSets := by
  obtain ⟨fT, dT, mTake, kTake, bTake, GTake⟩ := gT
  refine F.ok scDSets (fun vs H Q E h => ?_) (fun cdv A outer s H vs Q E hr h => ?_)
  · obtain ⟨b, l, L, zs, rfl, _⟩ := h
    rfl
  · obtain ⟨b, l, L, zs, rfl, hb, okL, hl, nlb, nd, few, k⟩ := h
    have hr1 : Room 1 _ := hr.mono (by decide)
    refine ⟨_, (pss_cons (ps_set (i := 2) scDSets.nd rfl (Or.inl rfl) pe_dnewK)
        (pss_cons (ps_for PassesOwn.never rfl (pi_list (pv 1)) (pg_name (i := 3) scDSets.nd rfl (Or.inl rfl)) (pss_cons (ps_dput (hu_of hr) (pv 2) (pv 3) (pe_op op_sub (pe_call GTake hr1 (by rfl) mTake kTake bTake .nil pass0 (pa_cons (pv 0) (pa_cons pe_int pa_nil))) pe_int) rfl)
        (pss_one (ps_if (pt_cmpR op_eq (pe_call GTake hr1 (by rfl) mTake kTake bTake .nil pass0 (pa_cons (pv 0) (pa_cons pe_int pa_nil))) pe_int (nomark _)) (pss_one (ps_dput (hu_of hr) (pv 2) (pv 3) (pe_op op_sub (pe_call GTake hr1 (by rfl) mTake kTake bTake .nil pass0 (pa_cons (pv 0) (pa_cons (pe_op op_pow pe_int pe_int) pa_nil))) (pe_op op_mul pe_int (pe_op op_pow pe_int pe_int))) rfl)) pss_nil))))
        (pss_one (ps_ret (pv 2))))), ?_⟩
    refine fun d hd => ?_
    have ndb : d ≠ b := fun e => by rw [e, hb] at hd; cases hd
    have ndl : d ≠ l := fun e => by rw [e, hl] at hd; cases hd
    refine ⟨_, rfl, l, rfl, ⟨_, SqL.of (by rw [upd_ne ndl.symm]; exact hl)⟩, for_it (walk_list (K := K) (a := l) (xs := zs.map V.str)) (fun i σ H' => ∃ x3 L' ss, σ = [some (.ref b), some (.ref l), some (.ref d), x3] ∧ SameB b H H' ∧ H' b = some (.lst (L'.map V.int)) ∧ BagOk L' ∧ SetU H' d ss ∧ ss.map (·.1) = zs.take i)
      ⟨_, L, [], rfl, SameB.of (Same.upd_new hd), by rw [upd_ne ndb.symm]; exact hb, okL, upd_same, rfl⟩ (fun i σ H' _ ⟨_, _, _, _, s, _⟩ => SqL.of (s _ _ nlb hl)) ?_ ?_⟩
    · rintro i v σ H2 H3 hi ⟨x3, L2, ss, rfl, s2, hb2, ok2, hd2, es⟩ ⟨rfl, hv⟩
      obtain ⟨n, hn, _, rfl⟩ := st_at hv
      have new : n ∉ ss.map (·.1) := by rw [es]; exact take_new nd hn
      have es2 : ∀ z : Int, (ss ++ [(n, z)]).map (·.1) = zs.take (i + 1) := fun z => by rw [List.map_append, es, take_snoc hn]; rfl
      have lss : (kvI ss).length ≤ 63 := by
        have := congrArg List.length es
        rw [List.length_map, List.length_take] at this
        unfold kvI
        rw [List.length_map]
        omega
      refine ⟨_, rfl, b, L2, 15, rfl, hb2, ok2, by decide, by decide, fun L3 r ok3 r0 r1 => ?_⟩
      have lt3 : (kvI ss).length < sizeLine := small1000 (by omega)
      have hd3 : upd H3 b (.lst (L3.map V.int)) d = some (.dK (kvI ss)) := by rw [upd_ne ndb]; exact hd2
      refine ⟨_, _, rfl, rfl, _, rfl, _, rfl, d, _, rfl, DPut.k (k := .inr n) hd3 lt3, ?_⟩
      rw [put_new _ (new_kvI new)]
      have s4 : SameB b H (upd (upd H3 b (.lst (L3.map V.int))) d (.dK (kvI ss ++ [(.inr n, V.int (r - 7))]))) := fun c o nc e => by
        rw [upd_ne (ne_of_none e hd), upd_ne nc]
        exact s2 _ _ nc e
      have hb4 : upd (upd H3 b (.lst (L3.map V.int))) d (.dK (kvI ss ++ [(.inr n, V.int (r - 7))])) b = some (.lst (L3.map V.int)) := by rw [upd_ne ndb.symm, upd_same]
      have hd4 := upd_same (H := upd H3 b (.lst (L3.map V.int))) (a := d) (o := .dK (kvI ss ++ [(.inr n, V.int (r - 7))]))
      generalize upd (upd H3 b (.lst (L3.map V.int))) d (.dK (kvI ss ++ [(.inr n, V.int (r - 7))])) = H4 at *
      refine ⟨_, rfl, b, L3, 5, rfl, hb4, ok3, by decide, by decide, fun L5 q ok5 q0 q1 => ?_⟩
      refine ⟨rfl, _, rfl, ?_⟩
      have hd5 : upd H4 b (.lst (L5.map V.int)) d = some (.dK (kvI ss ++ [(.inr n, V.int (r - 7))])) := by rw [upd_ne ndb]; exact hd4
      have s5 := s4.trans (SameB.upd (o := .lst (L5.map V.int)))
      have hb5 := upd_same (H := H4) (a := b) (o := .lst (L5.map V.int))
      generalize upd H4 b (.lst (L5.map V.int)) = H5 at *
      refine ite2 (fun c => ?_) fun c => ?_
      · refine ⟨_, rfl, 10, 25, rfl, rfl, ⟨by decide, by decide, by decide +kernel⟩, ?_⟩
        refine ⟨b, L5, 10 ^ 25, rfl, hb5, ok5, by decide +kernel, by decide +kernel, fun L6 x ok6 x0 x1 => ?_⟩
        have hd6 : upd H5 b (.lst (L6.map V.int)) d = some (.dK (kvI ss ++ [(.inr n, V.int (r - 7))])) := by rw [upd_ne ndb]; exact hd5
        refine ⟨10, 24, rfl, rfl, ⟨by decide, by decide, by decide +kernel⟩, 5, _, rfl, rfl, .inl (by decide), _, _, rfl, rfl, ?_⟩
        refine ⟨_, rfl, _, rfl, d, _, rfl, DPut.k (k := .inr n) hd6 (small1000 (by rw [List.length_append]; show _ + 1 ≤ _; omega)), ?_⟩
        rw [put_last (new_kvI new)]
        refine ⟨_, L6, ss ++ [(n, _)], rfl, fun c o nc e => ?_, by rw [upd_ne ndb.symm, upd_same], ok6, by unfold SetU; rw [kvI_snoc]; exact upd_same, es2 _⟩
        rw [upd_ne (ne_of_none e hd), upd_ne nc]
        exact s5 _ _ nc e
      · exact ⟨_, L5, ss ++ [(n, r - 7)], rfl, s5, hb5, ok5, by unfold SetU; rw [kvI_snoc]; exact hd5, es2 _⟩
    · rintro σ H2 ⟨x3, L2, ss, rfl, s2, hb2, ok2, hd2, es⟩
      rw [List.length_map, List.take_length] at es
      exact ⟨_, rfl, k H2 d L2 ss s2 hd hb2 ok2 hd2 es⟩
theorem scDStrs : FnScope ["_law_bag_here", "_law_lamps", "_law_stretches", "_law_lamp", "_law_low"] ["_law_bag_here", "_law_lamps"] (defScope sLawDrawnStretches) := ⟨rfl, rfl, rfl, by decide +kernel, rfl, by decide +kernel, by decide +kernel⟩
theorem ok_dstrs {f : Addr} {fd : FuncData} (F : Fun K "_law_drawn_stretches" "_law_drawn_stretches" sLawDrawnStretches f fd) (gT : Dfn P w K mg base CX0 1 "_law_take" ["_law_bag_here", "_law_size"] spTake) : FnOk P w K mg base CX0 2 f fd ["_law_bag_here", "_law_lamps"] (spDStrs K) := by
  obtain ⟨fT, dT, mTake, kTake, bTake, GTake⟩ := gT
  refine F.ok scDStrs (fun vs H Q E h => ?_) (fun cdv A outer s H vs Q E hr h => ?_)
  · obtain ⟨b, l, L, zs, rfl, _⟩ := h
    rfl
  · obtain ⟨b, l, L, zs, rfl, hb, okL, hl, nlb, nd, few, k⟩ := h
    have hr1 : Room 1 _ := hr.mono (by decide)
    refine ⟨_, (pss_cons (ps_set (i := 2) scDStrs.nd rfl (Or.inl rfl) pe_dnewK)
        (pss_cons (ps_for PassesOwn.never rfl (pi_list (pv 1)) (pg_name (i := 3) scDStrs.nd rfl (Or.inl rfl)) (pss_cons (ps_set (i := 4) scDStrs.nd rfl (Or.inl rfl) (pe_op op_sub (pe_call GTake hr1 (by rfl) mTake kTake bTake .nil pass0 (pa_cons (pv 0) (pa_cons pe_int pa_nil))) pe_int))
        (pss_cons (ps_dput (hu_of hr) (pv 2) (pv 3) (pe_tup (pa_cons (pv 4) (pa_cons (pe_op op_add (pv 4) (pe_call GTake hr1 (by rfl) mTake kTake bTake .nil pass0 (pa_cons (pv 0) (pa_cons pe_int pa_nil)))) pa_nil))) rfl)
        (pss_one (ps_if (pt_cmpR op_eq (pe_call GTake hr1 (by rfl) mTake kTake bTake .nil pass0 (pa_cons (pv 0) (pa_cons pe_int pa_nil))) pe_int (nomark _)) (pss_one (ps_dput (hu_of hr) (pv 2) (pv 3) pe_non rfl)) pss_nil)))))
        (pss_one (ps_ret (pv 2))))), ?_⟩
    refine fun d hd => ?_
    have ndb : d ≠ b := fun e => by rw [e, hb] at hd; cases hd
    have ndl : d ≠ l := fun e => by rw [e, hl] at hd; cases hd
    refine ⟨_, rfl, l, rfl, ⟨_, SqL.of (by rw [upd_ne ndl.symm]; exact hl)⟩, for_it (walk_list (K := K) (a := l) (xs := zs.map V.str)) (fun i σ H' => ∃ x3 x4 L' M, σ = [some (.ref b), some (.ref l), some (.ref d), x3, x4] ∧ SameB b H H' ∧ H' b = some (.lst (L'.map V.int)) ∧ BagOk L' ∧ H' d = some (.dK (kvS M)) ∧ M.map (·.1) = zs.take i ∧ SpansV K H' M)
      ⟨_, _, L, [], rfl, SameB.of (Same.upd_new hd), by rw [upd_ne ndb.symm]; exact hb, okL, upd_same, rfl, fun q hq => absurd hq (by simp)⟩ (fun i σ H' _ ⟨_, _, _, _, _, s, _⟩ => SqL.of (s _ _ nlb hl)) ?_ ?_⟩
    · rintro i v σ H2 H3 hi ⟨x3, x4, L2, M, rfl, s2, hb2, ok2, hd2, es, sv2⟩ ⟨rfl, hv⟩
      obtain ⟨n, hn, _, rfl⟩ := st_at hv
      have new : n ∉ M.map (·.1) := by rw [es]; exact take_new nd hn
      have es2 : ∀ (v : V) (o : Span), (M ++ [(n, v, o)]).map (·.1) = zs.take (i + 1) := fun v o => by rw [List.map_append, es, take_snoc hn]; rfl
      have lM : (kvS M).length ≤ 63 := by
        have := congrArg List.length es
        rw [List.length_map, List.length_take] at this
        unfold kvS
        rw [List.length_map]
        omega
      refine ⟨_, rfl, b, L2, 15, rfl, hb2, ok2, by decide, by decide, fun L3 r ok3 r0 r1 => ?_⟩
      have s3 := s2.trans (SameB.upd (o := .lst (L3.map V.int)))
      have hb3 := upd_same (H := H3) (a := b) (o := .lst (L3.map V.int))
      have hd3 : upd H3 b (.lst (L3.map V.int)) d = some (.dK (kvS M)) := by rw [upd_ne ndb]; exact hd2
      have sv3 := sv2.ofB (SameB.upd (o := .lst (L3.map V.int))) hb2
      generalize upd H3 b (.lst (L3.map V.int)) = H4 at *
      refine ⟨_, _, rfl, rfl, _, rfl, _, rfl, _, rfl, b, L3, 9, rfl, hb3, ok3, by decide, by decide, fun L5 q ok5 q0 q1 => ?_⟩
      have s5 := s3.trans (SameB.upd (o := .lst (L5.map V.int)))
      have hb5 := upd_same (H := H4) (a := b) (o := .lst (L5.map V.int))
      have hd5 : upd H4 b (.lst (L5.map V.int)) d = some (.dK (kvS M)) := by rw [upd_ne ndb]; exact hd3
      have sv5 := sv3.ofB (SameB.upd (o := .lst (L5.map V.int))) hb3
      generalize upd H4 b (.lst (L5.map V.int)) = H5 at *
      refine ⟨_, _, rfl, rfl, by show 2 ≤ sizeLine; decide, fun t ht => ?_⟩
      have ntd : t ≠ d := (ne_of_none hd5 ht).symm
      have ntb : t ≠ b := (ne_of_none hb5 ht).symm
      have s6 := s5.trans (SameB.of (Same.upd_new ht (o := .tup [.int (r - 7), .int (r - 7 + q)])))
      have st6 := Same.upd_new ht (o := .tup [.int (r - 7), .int (r - 7 + q)])
      have ht6 : SqT K (upd H5 t (.tup [.int (r - 7), .int (r - 7 + q)])) t [.int (r - 7), .int (r - 7 + q)] := SqT.of upd_same
      have hb6 := st6 _ _ hb5
      have hd6 := st6 _ _ hd5
      have sv6 := sv5.of st6
      refine ⟨_, rfl, _, rfl, d, _, rfl, DPut.k (k := .inr n) hd6 (small1000 (by omega)), ?_⟩
      generalize upd H5 t (.tup [.int (r - 7), .int (r - 7 + q)]) = H6 at *
      rw [put_new _ (new_kvS new)]
      have sD : ∀ kvs' : List (Key × V), SpansV K (upd H6 d (.dK kvs')) M := fun kvs' q hq => updD_span hd6 (sv6 q hq)
      have s7 : SameB b H (upd H6 d (.dK (kvS M ++ [(.inr n, V.ref t)]))) := fun c o nc e => by
        rw [upd_ne (ne_of_none e hd)]
        exact s6 _ _ nc e
      have hb7 : upd H6 d (.dK (kvS M ++ [(.inr n, V.ref t)])) b = some (.lst (L5.map V.int)) := by rw [upd_ne ndb.symm]; exact hb6
      have hd7 := upd_same (H := H6) (a := d) (o := .dK (kvS M ++ [(.inr n, V.ref t)]))
      have sv7 := sD (kvS M ++ [(.inr n, V.ref t)])
      have ht7 := updD_tup (kvs' := kvS M ++ [(.inr n, V.ref t)]) hd6 ht6
      generalize upd H6 d (.dK (kvS M ++ [(.inr n, V.ref t)])) = H7 at *
      refine ⟨_, rfl, b, L5, 4, rfl, hb7, ok5, by decide, by decide, fun L8 x ok8 x0 x1 => ?_⟩
      refine ⟨rfl, _, rfl, ?_⟩
      have s8 := s7.trans (SameB.upd (o := .lst (L8.map V.int)))
      have hb8 := upd_same (H := H7) (a := b) (o := .lst (L8.map V.int))
      have hd8 : upd H7 b (.lst (L8.map V.int)) d = some (.dK (kvS M ++ [(.inr n, V.ref t)])) := by rw [upd_ne ndb]; exact hd7
      have sv8 := sv7.ofB (SameB.upd (o := .lst (L8.map V.int))) hb7
      have ht8 := sameB_tup (SameB.upd (o := .lst (L8.map V.int))) hb7 ht7
      generalize upd H7 b (.lst (L8.map V.int)) = H8 at *
      refine ite2 (fun c => ?_) fun c => ?_
      · refine ⟨_, rfl, _, rfl, d, _, rfl, DPut.k (k := .inr n) hd8 (small1000 (by rw [List.length_append]; show _ + 1 ≤ _; omega)), ?_⟩
        rw [put_last (new_kvS new)]
        refine ⟨_, _, L8, M ++ [(n, .non, none)], rfl, fun c o nc e => ?_, by rw [upd_ne ndb.symm]; exact hb8, ok8, by rw [kvS_snoc]; exact upd_same, es2 _ _, fun q hq => ?_⟩
        · rw [upd_ne (ne_of_none e hd)]
          exact s8 _ _ nc e
        · rcases List.mem_append.mp hq with h | h
          · exact updD_span hd8 (sv8 q h)
          · rw [List.mem_singleton.mp h]; rfl
      · refine ⟨_, _, L8, M ++ [(n, .ref t, some (r - 7, r - 7 + q))], rfl, s8, hb8, ok8, by rw [kvS_snoc]; exact hd8, es2 _ _, fun q hq => ?_⟩
        rcases List.mem_append.mp hq with h | h
        · exact sv8 q h
        · rw [List.mem_singleton.mp h]; exact ⟨t, rfl, ht8⟩
    · rintro σ H2 ⟨x3, x4, L2, M, rfl, s2, hb2, ok2, hd2, es, sv2⟩
      rw [List.length_map, List.take_length] at es
      exact ⟨_, rfl, k H2 d L2 (tsOf M) s2 hd hb2 ok2 ⟨M, rfl, hd2, sv2⟩ (by rw [tsOf_keys]; exact es)⟩
end
end Dl

/-! _law_moved, _law_turned, _law_shifted -/
namespace Dl
open PySem PySem.Spec PyProof.Rows L2
theorem sameX_tup {K : PySem.W.Frag} {D a : Addr} {H H' : Hp} {xs : List V} {o : HO} (s : SameB D H H') (hD : H D = some o) (n1 : ∀ l, o ≠ .tup l) (n2 : ∀ ob l, o ≠ .frz ob (.tup l)) (h : SqT K H a xs) : SqT K H' a xs := by
  have ne : ∀ {u : HO}, H a = some u → u ≠ o → a ≠ D := fun e n q => by rw [q, hD] at e; exact n (Option.some.inj e).symm
  rcases h with (h | ⟨ob, h⟩) | h
  · exact .inl (.inl (s _ _ (ne h fun e => n1 _ e.symm) h))
  · exact .inl (.inr ⟨ob, s _ _ (ne h fun e => n2 _ _ e.symm) h⟩)
  · exact .inr h
theorem SpansV.ofX {K : PySem.W.Frag} {D : Addr} {H H' : Hp} {L : SpH} {o : HO} (s : SameB D H H') (hD : H D = some o) (n1 : ∀ l, o ≠ .tup l) (n2 : ∀ ob l, o ≠ .frz ob (.tup l)) (h : SpansV K H L) : SpansV K H' L := fun q hq => by
  have h := h q hq
  cases e : q.2.2 with
  | none => rw [e] at h; exact h
  | some r =>
    rw [e] at h
    obtain ⟨t, e, ht⟩ := h
    exact ⟨t, e, sameX_tup s hD n1 n2 ht⟩
theorem dk1 {kvs : List (Key × V)} : ∀ l, (HO.dK kvs) ≠ .tup l := fun l e => by cases e
theorem dk2 {kvs : List (Key × V)} : ∀ ob l, (HO.dK kvs) ≠ .frz ob (.tup l) := fun ob l e => by cases e
theorem fz1 {od : Obj} {kvs : List (Key × V)} : ∀ l, (HO.frz od (.dK kvs)) ≠ .tup l := fun l e => by cases e
theorem fz2 {od : Obj} {kvs : List (Key × V)} : ∀ ob l, (HO.frz od (.dK kvs)) ≠ .frz ob (.tup l) := fun ob l e => by injection e with _ e; cases e
/-- behind the lock -/
theorem unlocked {H H2 : Hp} {s g : Addr} {kvs : List (Key × V)} (hs : H s = some (.dK kvs)) (k : ∀ c o, c ≠ g → c ≠ s → H c = some o → H2 c = some o) (ng : H g = none) : Same H (upd H2 s (.dK kvs)) := fun c o e => by
  by_cases h : c = s
  · subst h
    rw [upd_same, ← hs]
    exact e
  · rw [upd_ne h]
    exact k c o (ne_of_none e ng) h e
def spLMoved (K : PySem.W.Frag) : Sp := fun vs H Q _ => ∃ s ts z, vs = [.ref s, .int z] ∧ SpanU K H s ts ∧ (ts.map (·.1)).Nodup ∧ ts.length < 64 ∧ ∀ H' g, Same H H' → H g = none → SpanU K H' g (mvL z ts) → Q (.ref g) H'
def spLTurned (K : PySem.W.Frag) : Sp := fun vs H Q _ => ∃ s ts, vs = [.ref s] ∧ SpanU K H s ts ∧ (ts.map (·.1)).Nodup ∧ ts.length < 64 ∧ ∀ H' g, Same H H' → H g = none → SpanU K H' g (tnL ts) → Q (.ref g) H'
def spLShifted : Sp := fun vs H Q _ => ∃ s ss x z, vs = [.ref s, .int x, .int z] ∧ SetU H s ss ∧ (x = 1 ∨ x = -1) ∧ (ss.map (·.1)).Nodup ∧ ss.length < 64 ∧ ∀ H' g, Same H H' → H g = none → SetU H' g (ss.map fun p => (p.1, x * p.2 + z)) → Q (.ref g) H'
section
variable {P : Program} {w : World} {K : PySem.W.Frag} {mg : Str → Option Value} {base : Heap} {C : Addr}
theorem scLawMoved : FnScope ["_law_stretches", "_law_by", "_law_found", "_law_lamp"] ["_law_stretches", "_law_by"] (defScope sLawMoved) := ⟨rfl, rfl, rfl, by decide +kernel, rfl, by decide +kernel, by decide +kernel⟩
theorem ok_lmoved {f : Addr} {fd : FuncData} (F : Fun K "_law_moved" "_law_moved" sLawMoved f fd) : FnOk P w K mg base CX0 1 f fd ["_law_stretches", "_law_by"] (spLMoved K) := by
  refine F.ok scLawMoved (fun vs H Q E h => ?_) (fun cdv A outer st H vs Q E hr h => ?_)
  · obtain ⟨s, ts, z, rfl, _⟩ := h
    rfl
  · obtain ⟨s, ts, z, rfl, ⟨L, rfl, hs, hL⟩, nd, few, k⟩ := h
    refine ⟨_, (pss_cons (ps_set (i := 2) scLawMoved.nd rfl (Or.inl rfl) pe_dnewK)
        (pss_cons (ps_lock (ps_for PassesOwn.never rfl (pi_keys (pv 0)) (pg_name (i := 3) scLawMoved.nd rfl (Or.inl rfl)) (pss_cons (ps_dput (hu_of hr) (pv 2) (pv 3) pe_non rfl)
        (pss_one (ps_if (pt_cmpR op_notN (pe_dget (hu_of hr) (pv 0) (pv 3) (fun _ _ => rfl)) pe_non (nomark _)) (pss_one (ps_dput (hu_of hr) (pv 2) (pv 3) (pe_tup (pa_cons (pe_op op_add (pe_ix ix_tup (pe_dget (hu_of hr) (pv 0) (pv 3) (fun _ _ => rfl)) pe_int (fun _ _ => rfl)) (pv 1)) (pa_cons (pe_op op_add (pe_ix ix_tup (pe_dget (hu_of hr) (pv 0) (pv 3) (fun _ _ => rfl)) pe_int (fun _ _ => rfl)) (pv 1)) pa_nil))) rfl)) pss_nil)))))
        (pss_one (ps_ret (pv 2))))), ?_⟩
    rw [tsOf_keys] at nd
    have few2 : L.length < 64 := by unfold tsOf at few; rw [List.length_map] at few; exact few
    refine fun g hg => ?_
    have nsg : s ≠ g := ne_of_none hs hg
    have s1 := Same.upd_new hg (o := .dK [])
    have hg1 := upd_same (H := H) (a := g) (o := .dK [])
    have hs1 := s1 _ _ hs
    have hL1 := hL.of s1
    refine ⟨s, _, hs1, True.intro, fun od => ?_⟩
    have kp0 : ∀ c o, c ≠ g → c ≠ s → H c = some o → upd (upd H g (.dK [])) s (.frz od (.dK (kvS L))) c = some o := fun c o n1 n2 e => by rw [upd_ne n2, upd_ne n1]; exact e
    have hg2 : upd (upd H g (.dK [])) s (.frz od (.dK (kvS L))) g = some (.dK []) := by rw [upd_ne nsg.symm]; exact hg1
    have hs2 := upd_same (H := upd H g (.dK [])) (a := s) (o := .frz od (.dK (kvS L)))
    have hL2 : SpansV K (upd (upd H g (.dK [])) s (.frz od (.dK (kvS L)))) L := hL1.ofX (SameB.upd (o := .frz od (.dK (kvS L)))) hs1 dk1 dk2
    generalize upd (upd H g (.dK [])) s (.frz od (.dK (kvS L))) = H1 at *
    clear hs1 hL1 hg1 s1
    refine ⟨_, rfl, s, od, rfl, .inl ⟨_, hs2, for_it (walk_keys (d := s) (o := od) (kvs := kvS L)) (fun i σ H' => ∃ x3, σ = [some (.ref s), some (.int z), some (.ref g), x3] ∧ SameB g H1 H' ∧ ∃ M, H' g = some (.dK (kvS M)) ∧ tsOf M = (mvL z (tsOf L)).take i ∧ SpansV K H' M)
      ⟨_, rfl, SameB.refl _ _, [], hg2, rfl, fun q hq => absurd hq (by simp)⟩ (fun i σ H' _ ⟨_, _, kp, _⟩ => kp _ _ nsg hs2) ?_ ?_⟩⟩
    · rintro i v σ H2 H3 hi ⟨x3, rfl, kp, M, hM, eM, sM⟩ ⟨rfl, k', v', hv, rfl⟩
      obtain ⟨q, hq, hqm, rfl, rfl⟩ := kv_at hv
      have eT : (mvL z (tsOf L)).take (i + 1) = (mvL z (tsOf L)).take i ++ [(q.1, mvSp z q.2.2)] := take_snoc (by unfold mvL tsOf; rw [List.map_map, List.getElem?_map, hq]; rfl)
      have lM : M.length ≤ 63 := by
        have := congrArg List.length eM
        unfold tsOf mvL at this
        rw [List.length_map, List.length_take, List.length_map, List.length_map] at this
        omega
      have new : q.1 ∉ M.map (·.1) := by
        have e : M.map (·.1) = (L.map (·.1)).take i := by
          have := congrArg (List.map (·.1)) eM
          rw [tsOf_keys] at this
          rw [this]
          unfold mvL tsOf
          rw [List.map_map, ← List.map_take, ← List.map_take, List.map_map]
          rfl
        rw [e]
        exact take_new nd (by rw [List.getElem?_map, hq]; rfl)
      have lk : (kvS M).length ≤ 63 := by unfold kvS; rw [List.length_map]; exact lM
      refine ⟨_, rfl, _, rfl, g, _, rfl, DPut.k (k := .inr q.1) hM (small1000 (by omega)), ?_⟩
      rw [put_new _ (new_kvS new)]
      have kp4 : SameB g H1 (upd H3 g (.dK (kvS M ++ [(.inr q.1, .non)]))) := kp.trans SameB.upd
      have hg4 := upd_same (H := H3) (a := g) (o := .dK (kvS M ++ [(.inr q.1, .non)]))
      have sM4 : SpansV K (upd H3 g (.dK (kvS M ++ [(.inr q.1, .non)]))) M := sM.ofX SameB.upd hM dk1 dk2
      generalize upd H3 g (.dK (kvS M ++ [(.inr q.1, .non)])) = H4 at *
      have hs4 := kp4 _ _ nsg hs2
      have sv := (hL2.ofX kp4 hg2 dk1 dk2) q hqm
      have get : DGet H4 s (kV (.inr q.1)) (some q.2.1) := .inl ⟨kvS L, .inr q.1, .inr ⟨od, hs4⟩, rfl, (val_kvS nd hqm).symm⟩
      refine ⟨_, rfl, _, rfl, s, q.2.1, rfl, get, rfl, ?_⟩
      cases ho : q.2.2 with
      | none =>
        rw [ho] at sv eT
        have e2 : q.2.1 = .non := sv
        rw [e2]
        refine ⟨_, rfl, iteZ rfl ⟨_, rfl, kp4, M ++ [(q.1, .non, none)], by rw [kvS_snoc]; exact hg4, ?_, fun r hr => ?_⟩⟩
        · rw [eT, ← eM]
          unfold tsOf
          rw [List.map_append]
          rfl
        · rcases List.mem_append.mp hr with h | h
          · exact sM4 r h
          · rw [List.mem_singleton.mp h]; rfl
      | some r =>
        rw [ho] at sv eT
        obtain ⟨t, e2, ht⟩ := sv
        rw [e2] at get ⊢
        refine ⟨true, rfl, iteT ?_⟩
        refine ⟨_, rfl, _, rfl, s, _, rfl, get, t, _, 0, _, rfl, rfl, ht, rfl, _, rfl, _, _, rfl, rfl, ?_⟩
        refine ⟨_, rfl, _, rfl, s, _, rfl, get, t, _, 1, _, rfl, rfl, ht, rfl, _, rfl, _, _, rfl, rfl, ?_⟩
        refine ⟨by show 2 ≤ sizeLine; decide, fun u hu => ?_⟩
        have st5 := Same.upd_new hu (o := .tup [.int (r.1 + z), .int (r.2 + z)])
        have hu5 : SqT K (upd H4 u (.tup [.int (r.1 + z), .int (r.2 + z)])) u [.int (r.1 + z), .int (r.2 + z)] := SqT.of upd_same
        have hg5 := st5 _ _ hg4
        have sM5 := sM4.of st5
        have kp5 : SameB g H1 (upd H4 u (.tup [.int (r.1 + z), .int (r.2 + z)])) := kp4.trans (SameB.of st5)
        generalize upd H4 u (.tup [.int (r.1 + z), .int (r.2 + z)]) = H5 at *
        refine ⟨_, rfl, _, rfl, g, _, rfl, DPut.k (k := .inr q.1) hg5 (small1000 (by rw [List.length_append]; show _ + 1 ≤ _; omega)), ?_⟩
        rw [put_last (new_kvS new)]
        refine ⟨_, rfl, kp5.trans SameB.upd, M ++ [(q.1, .ref u, mvSp z (some r))], by rw [kvS_snoc]; exact upd_same, ?_, fun r' hr => ?_⟩
        · rw [eT, ← eM]
          unfold tsOf
          rw [List.map_append]
          rfl
        · rcases List.mem_append.mp hr with h | h
          · exact (sM5.ofX SameB.upd hg5 dk1 dk2) r' h
          · rw [List.mem_singleton.mp h]; exact ⟨u, rfl, sameX_tup SameB.upd hg5 dk1 dk2 hu5⟩
    · rintro σ H2 ⟨x3, rfl, kp, M, hM, eM, sM⟩
      have hs3 := kp _ _ nsg hs2
      have le : (kvS L).length = (mvL z (tsOf L)).length := by unfold kvS mvL tsOf; rw [List.length_map, List.length_map, List.length_map]
      rw [le, List.take_length] at eM
      refine ⟨hs3, ?_⟩
      have un := unlocked (H2 := H2) hs (fun c o n1 n2 e => kp _ _ n1 (kp0 c o n1 n2 e)) hg
      exact ⟨_, rfl, k _ g un hg ⟨M, eM, by rw [upd_ne nsg.symm]; exact hM, sM.ofX SameB.upd hs3 fz1 fz2⟩⟩
theorem scLawTurned : FnScope ["_law_stretches", "_law_found", "_law_lamp"] ["_law_stretches"] (defScope sLawTurned) := ⟨rfl, rfl, rfl, by decide +kernel, rfl, by decide +kernel, by decide +kernel⟩
theorem ok_lturned {f : Addr} {fd : FuncData} (F : Fun K "_law_turned" "_law_turned" sLawTurned f fd) : FnOk P w K mg base CX0 1 f fd ["_law_stretches"] (spLTurned K) := by
  refine F.ok scLawTurned (fun vs H Q E h => ?_) (fun cdv A outer st H vs Q E hr h => ?_)
  · obtain ⟨s, ts, rfl, _⟩ := h
    rfl
  · obtain ⟨s, ts, rfl, ⟨L, rfl, hs, hL⟩, nd, few, k⟩ := h
    refine ⟨_, (pss_cons (ps_set (i := 1) scLawTurned.nd rfl (Or.inl rfl) pe_dnewK)
        (pss_cons (ps_lock (ps_for PassesOwn.never rfl (pi_keys (pv 0)) (pg_name (i := 2) scLawTurned.nd rfl (Or.inl rfl)) (pss_cons (ps_dput (hu_of hr) (pv 1) (pv 2) pe_non rfl)
        (pss_one (ps_if (pt_cmpR op_notN (pe_dget (hu_of hr) (pv 0) (pv 2) (fun _ _ => rfl)) pe_non (nomark _)) (pss_one (ps_dput (hu_of hr) (pv 1) (pv 2) (pe_tup (pa_cons (pe_un un_neg (pe_ix ix_tup (pe_dget (hu_of hr) (pv 0) (pv 2) (fun _ _ => rfl)) pe_int (fun _ _ => rfl))) (pa_cons (pe_un un_neg (pe_ix ix_tup (pe_dget (hu_of hr) (pv 0) (pv 2) (fun _ _ => rfl)) pe_int (fun _ _ => rfl))) pa_nil))) rfl)) pss_nil)))))
        (pss_one (ps_ret (pv 1))))), ?_⟩
    rw [tsOf_keys] at nd
    have few2 : L.length < 64 := by unfold tsOf at few; rw [List.length_map] at few; exact few
    refine fun g hg => ?_
    have nsg : s ≠ g := ne_of_none hs hg
    have s1 := Same.upd_new hg (o := .dK [])
    have hg1 := upd_same (H := H) (a := g) (o := .dK [])
    have hs1 := s1 _ _ hs
    have hL1 := hL.of s1
    refine ⟨s, _, hs1, True.intro, fun od => ?_⟩
    have kp0 : ∀ c o, c ≠ g → c ≠ s → H c = some o → upd (upd H g (.dK [])) s (.frz od (.dK (kvS L))) c = some o := fun c o n1 n2 e => by rw [upd_ne n2, upd_ne n1]; exact e
    have hg2 : upd (upd H g (.dK [])) s (.frz od (.dK (kvS L))) g = some (.dK []) := by rw [upd_ne nsg.symm]; exact hg1
    have hs2 := upd_same (H := upd H g (.dK [])) (a := s) (o := .frz od (.dK (kvS L)))
    have hL2 : SpansV K (upd (upd H g (.dK [])) s (.frz od (.dK (kvS L)))) L := hL1.ofX (SameB.upd (o := .frz od (.dK (kvS L)))) hs1 dk1 dk2
    generalize upd (upd H g (.dK [])) s (.frz od (.dK (kvS L))) = H1 at *
    clear hs1 hL1 hg1 s1
    refine ⟨_, rfl, s, od, rfl, .inl ⟨_, hs2, for_it (walk_keys (d := s) (o := od) (kvs := kvS L)) (fun i σ H' => ∃ x3, σ = [some (.ref s), some (.ref g), x3] ∧ SameB g H1 H' ∧ ∃ M, H' g = some (.dK (kvS M)) ∧ tsOf M = (tnL (tsOf L)).take i ∧ SpansV K H' M)
      ⟨_, rfl, SameB.refl _ _, [], hg2, rfl, fun q hq => absurd hq (by simp)⟩ (fun i σ H' _ ⟨_, _, kp, _⟩ => kp _ _ nsg hs2) ?_ ?_⟩⟩
    · rintro i v σ H2 H3 hi ⟨x3, rfl, kp, M, hM, eM, sM⟩ ⟨rfl, k', v', hv, rfl⟩
      obtain ⟨q, hq, hqm, rfl, rfl⟩ := kv_at hv
      have eT : (tnL (tsOf L)).take (i + 1) = (tnL (tsOf L)).take i ++ [(q.1, tnSp q.2.2)] := take_snoc (by unfold tnL tsOf; rw [List.map_map, List.getElem?_map, hq]; rfl)
      have lM : M.length ≤ 63 := by
        have := congrArg List.length eM
        unfold tsOf tnL at this
        rw [List.length_map, List.length_take, List.length_map, List.length_map] at this
        omega
      have new : q.1 ∉ M.map (·.1) := by
        have e : M.map (·.1) = (L.map (·.1)).take i := by
          have := congrArg (List.map (·.1)) eM
          rw [tsOf_keys] at this
          rw [this]
          unfold tnL tsOf
          rw [List.map_map, ← List.map_take, ← List.map_take, List.map_map]
          rfl
        rw [e]
        exact take_new nd (by rw [List.getElem?_map, hq]; rfl)
      have lk : (kvS M).length ≤ 63 := by unfold kvS; rw [List.length_map]; exact lM
      refine ⟨_, rfl, _, rfl, g, _, rfl, DPut.k (k := .inr q.1) hM (small1000 (by omega)), ?_⟩
      rw [put_new _ (new_kvS new)]
      have kp4 : SameB g H1 (upd H3 g (.dK (kvS M ++ [(.inr q.1, .non)]))) := kp.trans SameB.upd
      have hg4 := upd_same (H := H3) (a := g) (o := .dK (kvS M ++ [(.inr q.1, .non)]))
      have sM4 : SpansV K (upd H3 g (.dK (kvS M ++ [(.inr q.1, .non)]))) M := sM.ofX SameB.upd hM dk1 dk2
      generalize upd H3 g (.dK (kvS M ++ [(.inr q.1, .non)])) = H4 at *
      have hs4 := kp4 _ _ nsg hs2
      have sv := (hL2.ofX kp4 hg2 dk1 dk2) q hqm
      have get : DGet H4 s (kV (.inr q.1)) (some q.2.1) := .inl ⟨kvS L, .inr q.1, .inr ⟨od, hs4⟩, rfl, (val_kvS nd hqm).symm⟩
      refine ⟨_, rfl, _, rfl, s, q.2.1, rfl, get, rfl, ?_⟩
      cases ho : q.2.2 with
      | none =>
        rw [ho] at sv eT
        have e2 : q.2.1 = .non := sv
        rw [e2]
        refine ⟨_, rfl, iteZ rfl ⟨_, rfl, kp4, M ++ [(q.1, .non, none)], by rw [kvS_snoc]; exact hg4, ?_, fun r hr => ?_⟩⟩
        · rw [eT, ← eM]
          unfold tsOf
          rw [List.map_append]
          rfl
        · rcases List.mem_append.mp hr with h | h
          · exact sM4 r h
          · rw [List.mem_singleton.mp h]; rfl
      | some r =>
        rw [ho] at sv eT
        obtain ⟨t, e2, ht⟩ := sv
        rw [e2] at get ⊢
        refine ⟨true, rfl, iteT ?_⟩
        refine ⟨_, rfl, _, rfl, s, _, rfl, get, t, _, 1, _, rfl, rfl, ht, rfl, _, rfl, ?_⟩
        refine ⟨_, rfl, _, rfl, s, _, rfl, get, t, _, 0, _, rfl, rfl, ht, rfl, _, rfl, ?_⟩
        refine ⟨by show 2 ≤ sizeLine; decide, fun u hu => ?_⟩
        have st5 := Same.upd_new hu (o := .tup [.int (-r.2), .int (-r.1)])
        have hu5 : SqT K (upd H4 u (.tup [.int (-r.2), .int (-r.1)])) u [.int (-r.2), .int (-r.1)] := SqT.of upd_same
        have hg5 := st5 _ _ hg4
        have sM5 := sM4.of st5
        have kp5 : SameB g H1 (upd H4 u (.tup [.int (-r.2), .int (-r.1)])) := kp4.trans (SameB.of st5)
        generalize upd H4 u (.tup [.int (-r.2), .int (-r.1)]) = H5 at *
        refine ⟨_, rfl, _, rfl, g, _, rfl, DPut.k (k := .inr q.1) hg5 (small1000 (by rw [List.length_append]; show _ + 1 ≤ _; omega)), ?_⟩
        rw [put_last (new_kvS new)]
        refine ⟨_, rfl, kp5.trans SameB.upd, M ++ [(q.1, .ref u, tnSp (some r))], by rw [kvS_snoc]; exact upd_same, ?_, fun r' hr => ?_⟩
        · rw [eT, ← eM]
          unfold tsOf
          rw [List.map_append]
          rfl
        · rcases List.mem_append.mp hr with h | h
          · exact (sM5.ofX SameB.upd hg5 dk1 dk2) r' h
          · rw [List.mem_singleton.mp h]; exact ⟨u, rfl, sameX_tup SameB.upd hg5 dk1 dk2 hu5⟩
    · rintro σ H2 ⟨x3, rfl, kp, M, hM, eM, sM⟩
      have hs3 := kp _ _ nsg hs2
      have le : (kvS L).length = (tnL (tsOf L)).length := by unfold kvS tnL tsOf; rw [List.length_map, List.length_map, List.length_map]
      rw [le, List.take_length] at eM
      refine ⟨hs3, ?_⟩
      have un := unlocked (H2 := H2) hs (fun c o n1 n2 e => kp _ _ n1 (kp0 c o n1 n2 e)) hg
      exact ⟨_, rfl, k _ g un hg ⟨M, eM, by rw [upd_ne nsg.symm]; exact hM, sM.ofX SameB.upd hs3 fz1 fz2⟩⟩
theorem scLawShifted : FnScope ["_law_settings", "_law_sign", "_law_by", "_law_found", "_law_look"] ["_law_settings", "_law_sign", "_law_by"] (defScope sLawShifted) := ⟨rfl, rfl, rfl, by decide +kernel, rfl, by decide +kernel, by decide +kernel⟩
theorem ok_lshifted {f : Addr} {fd : FuncData} (F : Fun K "_law_shifted" "_law_shifted" sLawShifted f fd) : FnOk P w K mg base CX0 1 f fd ["_law_settings", "_law_sign", "_law_by"] spLShifted := by
  refine F.ok scLawShifted (fun vs H Q E h => ?_) (fun cdv A outer st H vs Q E hr h => ?_)
  · obtain ⟨s, ss, x, z, rfl, _⟩ := h
    rfl
  · obtain ⟨s, ss, x, z, rfl, hs, sg, nd, few, k⟩ := h
    refine ⟨_, (pss_cons (ps_set (i := 3) scLawShifted.nd rfl (Or.inl rfl) pe_dnewK)
        (pss_cons (ps_lock (ps_for PassesOwn.never rfl (pi_keys (pv 0)) (pg_name (i := 4) scLawShifted.nd rfl (Or.inl rfl)) (pss_one (ps_dput (hu_of hr) (pv 3) (pv 4) (pe_op op_add (pe_op op_mul (pv 1) (pe_dget (hu_of hr) (pv 0) (pv 4) (fun _ _ => rfl))) (pv 2)) rfl))))
        (pss_one (ps_ret (pv 3))))), ?_⟩
    have hs : H s = some (.dK (kvI ss)) := hs
    refine fun g hg => ?_
    have nsg : s ≠ g := ne_of_none hs hg
    have s1 := Same.upd_new hg (o := .dK [])
    have hg1 := upd_same (H := H) (a := g) (o := .dK [])
    have hs1 := s1 _ _ hs
    refine ⟨s, _, hs1, True.intro, fun od => ?_⟩
    have kp0 : ∀ c o, c ≠ g → c ≠ s → H c = some o → upd (upd H g (.dK [])) s (.frz od (.dK (kvI ss))) c = some o := fun c o n1 n2 e => by rw [upd_ne n2, upd_ne n1]; exact e
    have hg2 : upd (upd H g (.dK [])) s (.frz od (.dK (kvI ss))) g = some (.dK []) := by rw [upd_ne nsg.symm]; exact hg1
    have hs2 := upd_same (H := upd H g (.dK [])) (a := s) (o := .frz od (.dK (kvI ss)))
    generalize upd (upd H g (.dK [])) s (.frz od (.dK (kvI ss))) = H1 at *
    clear hs1 hg1 s1
    refine ⟨_, rfl, s, od, rfl, .inl ⟨_, hs2, for_it (walk_keys (d := s) (o := od) (kvs := kvI ss)) (fun i σ H' => ∃ x3, σ = [some (.ref s), some (.int x), some (.int z), some (.ref g), x3] ∧ SameB g H1 H' ∧ H' g = some (.dK (kvI ((ss.map fun p => (p.1, x * p.2 + z)).take i))))
      ⟨_, rfl, SameB.refl _ _, hg2⟩ (fun i σ H' _ ⟨_, _, kp, _⟩ => kp _ _ nsg hs2) ?_ ?_⟩⟩
    · rintro i v σ H2 H3 hi ⟨x3, rfl, kp, hM⟩ ⟨rfl, k', v', hv, rfl⟩
      obtain ⟨q, hq, hqm, rfl, rfl⟩ := kv_at hv
      have eT : (ss.map fun p => (p.1, x * p.2 + z)).take (i + 1) = (ss.map fun p => (p.1, x * p.2 + z)).take i ++ [(q.1, x * q.2 + z)] := take_snoc (by rw [List.getElem?_map, hq]; rfl)
      have new : q.1 ∉ ((ss.map fun p => (p.1, x * p.2 + z)).take i).map (·.1) := by
        have e : ((ss.map fun p => (p.1, x * p.2 + z)).take i).map (·.1) = (ss.map (·.1)).take i := by
          rw [← List.map_take, ← List.map_take, List.map_map]
          rfl
        rw [e]
        exact take_new nd (by rw [List.getElem?_map, hq]; rfl)
      have lk : (kvI ((ss.map fun p => (p.1, x * p.2 + z)).take i)).length ≤ 63 := by
        unfold kvI
        rw [List.length_map, List.length_take, List.length_map]
        omega
      have hs3 := kp _ _ nsg hs2
      refine ⟨_, rfl, _, rfl, _, rfl, s, _, rfl, .inl ⟨kvI ss, .inr q.1, .inr ⟨od, hs3⟩, rfl, (val_kvI nd hqm).symm⟩, _, _, rfl, rfl, .inl (by rcases sg with rfl | rfl <;> decide), _, rfl, _, _, rfl, rfl, ?_⟩
      refine ⟨_, rfl, _, rfl, g, _, rfl, DPut.k (k := .inr q.1) hM (small1000 (by omega)), ?_⟩
      rw [put_new _ (new_kvI new)]
      exact ⟨_, rfl, kp.trans SameB.upd, by rw [upd_same, eT, kvI_snoc]⟩
    · rintro σ H2 ⟨x3, rfl, kp, hM⟩
      have hs3 := kp _ _ nsg hs2
      have le : (kvI ss).length = (ss.map fun p => (p.1, x * p.2 + z)).length := by unfold kvI; rw [List.length_map, List.length_map]
      rw [le, List.take_length] at hM
      refine ⟨hs3, ?_⟩
      have un := unlocked (H2 := H2) hs (fun c o n1 n2 e => kp _ _ n1 (kp0 c o n1 n2 e)) hg
      exact ⟨_, rfl, k _ g un hg (by unfold SetU; rw [upd_ne nsg.symm]; exact hM)⟩
end
end Dl

/-! the law -/
namespace Dl
open PySem PySem.Spec PyProof.Rows L2
structure TxtL45 (mg : Str → Option Value) : Prop where
  list : mg "list" = none
  reversed : mg "reversed" = none
  isinstance : mg "isinstance" = none
  tuple : mg "tuple" = none
  dict : mg "dict" = none
structure EqF (K : PySem.W.Frag) (C : Addr) : Prop where
  ne : PySem.W.findIn K (.ref C) "__ne__" = some (some (.builtin "object.__ne__"))
  mro : PySem.W.mroIn K C (.type "object") = some true
  nf : ∀ t ∈ ["str", "dict", "tuple", "int", "NoneType"], PySem.W.notFirst K C (.type t) = true ∧ PySem.W.kitOne K (.type t) (.ref C) = some false
structure B45 (K : PySem.W.Frag) (C la lk st sp m : Addr) (zl zk : List Str) (ss : SetL) (ts : SpanL) (H : Hp) : Prop where
  hla : H la = some (.lst (zl.map V.str))
  hlk : H lk = some (.lst (zk.map V.str))
  set : SetU H st ss
  spn : SpanU K H sp ts
  arr : ArrAt K C H m ss ts
theorem B45.of {K : PySem.W.Frag} {C la lk st sp m : Addr} {zl zk : List Str} {ss : SetL} {ts : SpanL} {H H' : Hp} (s : Same H H') (h : B45 K C la lk st sp m zl zk ss ts H) : B45 K C la lk st sp m zl zk ss ts H' :=
  ⟨s _ _ h.hla, s _ _ h.hlk, h.set.of s, h.spn.of s, h.arr.of s⟩
theorem SqT.imp45 {K : PySem.W.Frag} {H H' : Hp} {a : Addr} {xs : List V} (k : ∀ a o, H a = some o → (∀ l, o ≠ .lst l) → (∀ l, o ≠ .dK l) → H' a = some o) (h : SqT K H a xs) : SqT K H' a xs := by
  rcases h with (h | ⟨ob, h⟩) | h
  · exact .inl (.inl (k _ _ h (fun _ e => by cases e) fun _ e => by cases e))
  · exact .inl (.inr ⟨ob, k _ _ h (fun _ e => by cases e) fun _ e => by cases e⟩)
  · exact .inr h
theorem SpansV.imp45 {K : PySem.W.Frag} {H H' : Hp} {L : SpH} (k : ∀ a o, H a = some o → (∀ l, o ≠ .lst l) → (∀ l, o ≠ .dK l) → H' a = some o) (h : SpansV K H L) : SpansV K H' L := fun q hq => by
  have h := h q hq
  cases e : q.2.2 with
  | none => rw [e] at h; exact h
  | some r =>
    rw [e] at h
    obtain ⟨t, e, ht⟩ := h
    exact ⟨t, e, SqT.imp45 k ht⟩
theorem ArrAt.imp45 {K : PySem.W.Frag} {C : Addr} {H H' : Hp} {p : Addr} {ss : SetL} {ts : SpanL} (k : ∀ a o, H a = some o → (∀ l, o ≠ .lst l) → (∀ l, o ≠ .dK l) → H' a = some o) (h : ArrAt K C H p ss ts) : ArrAt K C H' p ss ts := by
  obtain ⟨dx, a, b, h1, ⟨oa, h2⟩, L, ob, e, h3, h4⟩ := h.ex
  exact ⟨dx, a, b, k _ _ h1 (fun _ e => by cases e) (fun _ e => by cases e), ⟨oa, k _ _ h2 (fun _ e => by cases e) fun _ e => by cases e⟩, L, ob, e, k _ _ h3 (fun _ e => by cases e) (fun _ e => by cases e), h4.imp45 k⟩
theorem B45.put {K : PySem.W.Frag} {C la lk st sp m D : Addr} {zl zk : List Str} {ss : SetL} {ts : SpanL} {H : Hp} {o o' : HO} (h : B45 K C la lk st sp m zl zk ss ts H) (hD : H D = some o) (u : (∃ l, o = .lst l) ∨ ∃ l, o = .dK l) (n1 : la ≠ D) (n2 : lk ≠ D) (n3 : st ≠ D) (n4 : sp ≠ D) : B45 K C la lk st sp m zl zk ss ts (upd H D o') := by
  have k : ∀ a u, H a = some u → (∀ l, u ≠ .lst l) → (∀ l, u ≠ .dK l) → upd H D o' a = some u := fun a w e w1 w2 => by
    refine (upd_ne fun q => ?_).trans e
    rw [q, hD] at e
    rcases u with ⟨l, rfl⟩ | ⟨l, rfl⟩
    · exact w1 _ (Option.some.inj e).symm
    · exact w2 _ (Option.some.inj e).symm
  obtain ⟨L, eL, h1, h2⟩ := h.spn
  exact ⟨by rw [upd_ne n1]; exact h.hla, by rw [upd_ne n2]; exact h.hlk, by unfold SetU; rw [upd_ne n3]; exact h.set, ⟨L, eL, by rw [upd_ne n4]; exact h1, h2.imp45 k⟩, h.arr.imp45 k⟩
def ends (f : Int × Int → Int) (L : SpH) : List Int := L.filterMap fun q => q.2.2.map f
theorem ends_snoc (f : Int × Int → Int) (L : SpH) (q : Str × V × Span) : ends f (L ++ [q]) = ends f L ++ (q.2.2.map f).toList := by
  unfold ends
  rw [List.filterMap_append]
  congr 1
theorem arr_mk2 {K : PySem.W.Frag} {C : Addr} {H : Hp} {a b : Addr} {ss : SetL} {ts : SpanL} {Q : Addr → Hp → Prop} {E : XK} (ha : SetR H a ss) (hb : SpanR K H b ts) (k : ∀ H' r, Same H H' → H r = none → ArrAt K C H' r ss ts → Q r H') :
    ∀ x dx, H x = none → H dx = none → dx ≠ x → spArrInit K C (.ref x :: [.ref a, .ref b]) (upd (upd H dx (.own x)) x (.ins C dx [])) (fun v H2 => v = .non ∧ Q x H2) E := fun x dx nx ndx nex => by
  have sm : Same H (upd (upd H dx (.own x)) x (.ins C dx [])) := fun c o e => by rw [upd_ne (ne_of_none e nx), upd_ne (ne_of_none e ndx)]; exact e
  exact ⟨H, x, dx, a, b, ss, ts, rfl, sm, nx, upd_same, ha, hb, fun H' s at_ => ⟨rfl, k H' x s nx at_⟩⟩
theorem ends_len (f : Int × Int → Int) (L : SpH) : (ends f L).length ≤ L.length := List.length_filterMap_le _ _
abbrev S45 (a0 b la lk st sp : Addr) (d : Int) (o1 o2 m px : Addr) (x11 x12 x13 x14 x15 x16 x17 x18 : Option V) : _root_.L2.St :=
  [some (.ref a0), some (.ref b), some (.ref la), some (.ref lk), some (.ref st), some (.ref sp), some (.int d), some (.ref o1), some (.ref o2), some (.ref m), some (.ref px), x11, x12, x13, x14, x15, x16, x17, x18]
theorem insC_arr {K : PySem.W.Frag} {C : Addr} {H : Hp} {p : Addr} {ss : SetL} {ts : SpanL} (h : ArrAt K C H p ss ts) (X : Cx) : StX.InsC X H p C := by
  obtain ⟨dx, a, b, h, _⟩ := h.ex
  exact .inr ⟨dx, _, h⟩
structure F45 (zl zk : List Str) (ss : SetL) (ts : SpanL) : Prop where
  ks : ss.map (·.1) = zk
  kt : ts.map (·.1) = zl
  ns : (ss.map (·.1)).Nodup
  nt : (ts.map (·.1)).Nodup
  fs : ss.length < 64
  ft : ts.length < 64
  cl : ∀ z ∈ zl, canS z
theorem gcan {zl zk : List Str} {ss : SetL} {ts : SpanL} (F : F45 zl zk ss ts) {ys : List Str} {z : Int} (p : ys.Perm (glow ts z)) : ∀ y ∈ ys, canS y := fun y hy => by
  have m := p.mem_iff.mp hy
  unfold glow at m
  obtain ⟨q, hq, rfl⟩ := List.mem_map.mp m
  exact F.cl _ (by rw [← F.kt]; exact List.mem_map_of_mem (List.mem_filter.mp hq).1)
theorem F45.ms {zl zk : List Str} {ss : SetL} {ts : SpanL} (F : F45 zl zk ss ts) (g : Int → Int) : ((ss.map fun p => (p.1, g p.2)).map (·.1)).Nodup := by rw [keys_map]; exact F.ns
theorem F45.mt {zl zk : List Str} {ss : SetL} {ts : SpanL} (F : F45 zl zk ss ts) (g : Span → Span) : ((ts.map fun p => (p.1, g p.2)).map (·.1)).Nodup := by rw [keys_map]; exact F.nt
theorem F45.ls {zl zk : List Str} {ss : SetL} {ts : SpanL} (F : F45 zl zk ss ts) (g : Int → Int) : (ss.map fun p => (p.1, g p.2)).length < 64 := by rw [List.length_map]; exact F.fs
theorem F45.lt {zl zk : List Str} {ss : SetL} {ts : SpanL} (F : F45 zl zk ss ts) (g : Span → Span) : (ts.map fun p => (p.1, g p.2)).length < 64 := by rw [List.length_map]; exact F.ft
def same45 (d : Int) (ss : SetL) (ts : SpanL) : Bool := decide (d = 0) || (decide (ss = []) && decide (mvL d ts = ts))
theorem same_val {zl zk : List Str} {ss : SetL} {ts : SpanL} (F : F45 zl zk ss ts) (d : Int) : (deq (pdD pdI ss) (pdD pdI (shL d ss)) && deq (pdD pdO ts) (pdD pdO (mvL d ts))) = same45 d ss ts := by
  have q1 : deq (pdD pdI ss) (pdD pdI (shL d ss)) = decide (ss = shL d ss) := deq_keys pdI_eq (keys_map (fun i => i + d) ss).symm (F.ms fun i => i + d)
  have q2 : deq (pdD pdO ts) (pdD pdO (mvL d ts)) = decide (ts = mvL d ts) := deq_keys pdO_eq (keys_map (mvSp d) ts).symm (F.mt (mvSp d))
  rw [q1, q2]
  exact same_eq d ss ts
theorem rI (a : Int) : PyData.eqv (pdI a) (pdI a) = true := by rw [pdI_eq]; exact decide_eq_true rfl
theorem rO (a : Span) : PyData.eqv (pdO a) (pdO a) = true := by rw [pdO_eq]; exact decide_eq_true rfl
theorem deq_refl {α : Type} {pd : α → PyData} (refl : ∀ a, PyData.eqv (pd a) (pd a) = true) {ds : List (Str × α)} (nd : (ds.map (·.1)).Nodup) : deq (pdD pd ds) (pdD pd ds) = true := deq_perm refl (List.Perm.refl _) nd
theorem self_val {zl zk : List Str} {ss : SetL} {ts : SpanL} (F : F45 zl zk ss ts) : (deq (pdD pdI ss) (pdD pdI ss) && deq (pdD pdO ts) (pdD pdO ts)) = true := by
  rw [deq_refl rI F.ns, deq_refl rO F.nt]
  rfl
theorem nf45 (K : PySem.W.Frag) (C : Addr) : PySem.W.notFirst K C (.ref C) = true := by unfold PySem.W.notFirst; simp
theorem dropI (ss : SetL) (n : Str) : dropK (kvI ss) (.inr n) = kvI (ss.filter fun p => decide (p.1 ≠ n)) := by
  unfold dropK kvI
  rw [List.filter_map]
  congr 1
  refine List.filter_congr fun p _ => ?_
  show decide ((Sum.inr p.1 : Key) ≠ .inr n) = decide (p.1 ≠ n)
  exact decide_eq_decide.mpr ⟨fun h e => h (by rw [e]), fun h e => h (Sum.inr.inj e)⟩
theorem dropS (L : SpH) (n : Str) : dropK (kvS L) (.inr n) = kvS (L.filter fun p => decide (p.1 ≠ n)) := by
  unfold dropK kvS
  rw [List.filter_map]
  congr 1
  refine List.filter_congr fun p _ => ?_
  show decide ((Sum.inr p.1 : Key) ≠ .inr n) = decide (p.1 ≠ n)
  exact decide_eq_decide.mpr ⟨fun h e => h (by rw [e]), fun h e => h (Sum.inr.inj e)⟩
theorem less_len {α : Type} {l : List (Str × α)} {p : Str × α} (h : p ∈ l) : (l.filter fun q => decide (q.1 ≠ p.1)).length ≠ l.length := fun e => by
  have := List.length_filter_eq_length_iff.mp e p h
  simp at this
theorem at_key {α : Type} {l : List (Str × α)} {i : Nat} {n : Str} (h : (l.map (·.1))[i]? = some n) : ∃ p, l[i]? = some p ∧ p ∈ l ∧ n = p.1 := by
  rw [List.getElem?_map] at h
  cases e : l[i]? with
  | none => rw [e] at h; cases h
  | some q => rw [e] at h; exact ⟨q, rfl, List.mem_of_getElem? e, (Option.some.inj h).symm⟩
theorem shl_one (d : Int) (ss : SetL) : ss.map (fun p => (p.1, 1 * p.2 + d)) = shL d ss := List.map_congr_left fun p _ => by rw [Int.one_mul]
theorem shl_neg (ss : SetL) : ss.map (fun p => (p.1, -1 * p.2 + 0)) = ngL ss := List.map_congr_left fun p _ => by rw [Int.add_zero, Int.neg_mul, Int.one_mul]
theorem eqv_tup45 (a b : List Str) : PyData.eqv (.tuple (a.map PyData.str)) (.tuple (b.map PyData.str)) = decide (a = b) := by
  rw [PyData.eqv]
  exact eqvAll_strs a b
theorem shaped45 {zs : List Str} (h : ∀ z ∈ zs, canS z) : SeqAt.shaped (.tuple (zs.map PyData.str)) = true := by
  unfold SeqAt.shaped
  rw [Bool.and_eq_true, PyData.canLay0, PyData.depth, depthAll_strs]
  exact ⟨canAll_strs h, by decide⟩
def spLaw45 (K : PySem.W.Frag) : Sp := fun vs H Q _ => ∃ (a : Addr) (ns : List Int), vs = [.ref a] ∧ SqL K H a (ns.map V.int) ∧ ns.length ≤ 63 ∧ ∀ H', Q (.bl true) H'
section
variable {P : Program} {w : World} {K : PySem.W.Frag} {mg : Str → Option Value} {base : Heap} {C : Addr}
theorem scLaw45 : FnScope ["_law_script", "_law_bag_here", "_law_lamps", "_law_looks", "_law_settings", "_law_stretches", "_law_by", "_law_one", "_law_two", "_law_made", "_law_spots", "_law_spot", "_law_same", "_law_look", "_law_less", "_law_lamp", "_law_back", "_law_ends", "_law_other"] ["_law_script"] (defScope sLaw) := ⟨rfl, rfl, rfl, by decide +kernel, rfl, by decide +kernel, by decide +kernel⟩
theorem ok_law45 {f : Addr} {fd : FuncData} (F : Fun K "law" "law" sLaw f fd) (T : TxtL45 mg) (TA : ArrM P w K mg base C) (TF : EqF K C) (ic : C8.InsC K C) (A0 : AddF K C)
    (gB : Dfn P w K mg base CX0 1 "_law_bag" ["_law_script"] (spBag K)) (gT : Dfn P w K mg base CX0 1 "_law_take" ["_law_bag_here", "_law_size"] spTake)
    (gN : Dfn P w K mg base CX0 3 "_law_names" ["_law_bag_here", "_law_count"] spNames) (gS : Dfn P w K mg base CX0 2 "_law_drawn_settings" ["_law_bag_here", "_law_looks"] spDSets)
    (gD : Dfn P w K mg base CX0 2 "_law_drawn_stretches" ["_law_bag_here", "_law_lamps"] (spDStrs K)) (gI : Dfn P w K mg base CX0 1 "_law_is" ["_law_value", "_law_due"] spIs)
    (gG : Dfn P w K mg base CX0 1 "_law_glowing" ["_law_lamps", "_law_stretches", "_law_setting"] (spGlowing K)) (gIM : Dfn P w K mg base CX0 1 "_law_is_made" ["_law_made", "_law_settings", "_law_stretches"] (spIsMade K C))
    (gMv : Dfn P w K mg base CX0 1 "_law_moved" ["_law_stretches", "_law_by"] (spLMoved K)) (gTn : Dfn P w K mg base CX0 1 "_law_turned" ["_law_stretches"] (spLTurned K)) (gSh : Dfn P w K mg base CX0 1 "_law_shifted" ["_law_settings", "_law_sign", "_law_by"] spLShifted)
    (oA : OwnM P w K mg base C "__add__" 3 ["self", "other"] (spArrAdd K C)) (oR : OwnM P w K mg base C "__radd__" 4 ["self", "other"] (spArrAdd K C)) (oN : OwnM P w K mg base C "__neg__" 3 ["self"] (spArrNeg K C)) (oE : OwnM P w K mg base C "__eq__" 1 ["self", "other"] (spArrEq K C))
    (oC : ∃ g dC, StX.CallO K C g ∧ Binds K dC ["self", "setting"] [] ∧ FnOk P w K mg base CX0 2 g dC ["self", "setting"] (spArrCall K C)) :
    FnOk P w K mg base CX0 7 f fd ["_law_script"] (spLaw45 K) := by
  obtain ⟨fB, dB, mBag, kBag, bBag, GBag⟩ := gB
  obtain ⟨fT, dT, mTake, kTake, bTake, GTake⟩ := gT
  obtain ⟨fN, dN, mNames, kNames, bNames, GNames⟩ := gN
  obtain ⟨fS, dS, mDSets, kDSets, bDSets, GDSets⟩ := gS
  obtain ⟨fD, dD, mDStrs, kDStrs, bDStrs, GDStrs⟩ := gD
  obtain ⟨fIs, dIs, mIs, kIs, bIs, GIs⟩ := gI
  obtain ⟨fG, dG, mGlowing, kGlowing, bGlowing, GGlowing⟩ := gG
  obtain ⟨fM, dM, mIsMade, kIsMade, bIsMade, GIsMade⟩ := gIM
  obtain ⟨fV, dV, mMoved, kMoved, bMoved, GMoved⟩ := gMv
  obtain ⟨fU, dU, mTurned, kTurned, bTurned, GTurned⟩ := gTn
  obtain ⟨fH, dH, mShifted, kShifted, bShifted, GShifted⟩ := gSh
  obtain ⟨fA, dA, hAdd, iAdd, bAdd, GAdd⟩ := oA
  have hA := hAdd
  have hA : PySem.W.findIn K (.ref C) (PySem.dunder "add") = some (some (.ref fA)) := hAdd
  have hAdd : PySem.W.findIn K (.ref C) (PySem.dunder (Operator.info .Add).2) = some (some (.ref fA)) := hAdd
  obtain ⟨gR, dR, hR, iRad, bRad, GRad⟩ := oR
  have hR : PySem.W.findIn K (.ref C) (PySem.dunderR "add") = some (some (.ref gR)) := hR
  have hg : PySem.W.findIn K (.ref C) (PySem.dunderR (Operator.info .Add).2) = some (some (.ref gR)) := hR
  obtain ⟨fNe, dNe, hNeg, iNeg, bNeg, GNeg⟩ := oN
  obtain ⟨fE, dE, hEq, iEq, bEq, GEq⟩ := oE
  obtain ⟨gC, dC, cC, bC, GC0⟩ := oC
  have GC : FnR P w K mg base CX0 2 gC (spArrCall K C) := (GC0.raw bC .nil).imp fun vs H Q E h => by rw [List.append_nil]; exact h
  obtain ⟨o1, h1⟩ := A0.i1
  obtain ⟨o2, h2⟩ := A0.i2
  have h1 : PySem.W.findIn K (.type "int") (PySem.dunder (Operator.info .Add).2) = some o1 := h1
  have h2 : PySem.W.findIn K (.type "int") (PySem.dunderR (Operator.info .Add).2) = some o2 := h2
  obtain ⟨TT, fI, dI, MI, GI, bI⟩ := TA
  refine F.ok scLaw45 (fun vs H Q E h => ?_) (fun cdv A outer s H vs Q E hr h => ?_)
  · obtain ⟨a, ns, rfl, _⟩ := h
    rfl
  · obtain ⟨a0, ns, rfl, hS, hlen, k⟩ := h
    have hr4 : Room 4 _ := hr.mono (by decide)
    have hr3 : Room 3 _ := hr.mono (by decide)
    have hr2 : Room 2 _ := hr.mono (by decide)
    have hr1 : Room 1 _ := hr.mono (by decide)
    have h66 := room66 hr
    refine ⟨_, (pss_cons (ps_set (i := 1) scLaw45.nd rfl (Or.inl rfl) (pe_call GBag hr1 (by rfl) mBag kBag bBag .nil pass0 (pa_cons (pv 0) pa_nil)))
        (pss_cons (ps_set (i := 2) scLaw45.nd rfl (Or.inl rfl) (pe_call GNames hr3 (by rfl) mNames kNames bNames .nil pass0 (pa_cons (pv 1) (pa_cons (pe_call GTake hr1 (by rfl) mTake kTake bTake .nil pass0 (pa_cons (pv 1) (pa_cons pe_int pa_nil))) pa_nil))))
        (pss_cons (ps_set (i := 3) scLaw45.nd rfl (Or.inl rfl) (pe_call GNames hr3 (by rfl) mNames kNames bNames .nil pass0 (pa_cons (pv 1) (pa_cons (pe_call GTake hr1 (by rfl) mTake kTake bTake .nil pass0 (pa_cons (pv 1) (pa_cons pe_int pa_nil))) pa_nil))))
        (pss_cons (ps_set (i := 4) scLaw45.nd rfl (Or.inl rfl) (pe_call GDSets hr2 (by rfl) mDSets kDSets bDSets .nil pass0 (pa_cons (pv 1) (pa_cons (pv 3) pa_nil))))
        (pss_cons (ps_set (i := 5) scLaw45.nd rfl (Or.inl rfl) (pe_call GDStrs hr2 (by rfl) mDStrs kDStrs bDStrs .nil pass0 (pa_cons (pv 1) (pa_cons (pv 2) pa_nil))))
        (pss_cons (ps_set (i := 6) scLaw45.nd rfl (Or.inl rfl) (pe_op op_sub (pe_call GTake hr1 (by rfl) mTake kTake bTake .nil pass0 (pa_cons (pv 1) (pa_cons (pe_op op_pow pe_int pe_int) pa_nil))) (pe_op op_mul pe_int (pe_op op_pow pe_int pe_int))))
        (pss_cons (ps_set (i := 7) scLaw45.nd rfl (Or.inl rfl) (pe_callTy call_dictD (by rfl) T.dict (by decide +kernel) (pa_cons (pv 4) pa_nil)))
        (pss_cons (ps_set (i := 8) scLaw45.nd rfl (Or.inl rfl) (pe_callTy call_dictD (by rfl) T.dict (by decide +kernel) (pa_cons (pv 5) pa_nil)))
        (pss_cons (ps_set (i := 9) scLaw45.nd rfl (Or.inl rfl) (pe_make MI GI hr2 (by rfl) TT.gA bI .nil pass0 (pa_cons (pv 7) (pa_cons (pv 8) pa_nil))))
        (pss_cons (ps_expr (pe_dclear (pv 7)))
        (pss_cons (ps_expr (pe_dclear (pv 8)))
        (pss_cons (ps_set (i := 10) scLaw45.nd rfl (Or.inl rfl) (pe_op op_cat (pe_lst (pa_cons (pe_op op_sub (pe_call GTake hr1 (by rfl) mTake kTake bTake .nil pass0 (pa_cons (pv 1) (pa_cons pe_int pa_nil))) pe_int) pa_nil)) (pe_lc (own := [("_law_ends", 17)]) (g := gName 17) rfl scLaw45.nd (pi_list (pe_listVals rfl (by rfl) T.list (pv 5))) (blkOk_by (N := ["_law_script", "_law_bag_here", "_law_lamps", "_law_looks", "_law_settings", "_law_stretches", "_law_by", "_law_one", "_law_two", "_law_made", "_law_spots", "_law_spot", "_law_same", "_law_look", "_law_less", "_law_lamp", "_law_back", "_law_ends", "_law_other"]) (sc := defScope sLaw) (by decide +kernel)) (fun _ _ _ _ _ => (pg_name (i := 17) scLaw45.nd rfl (Or.inl rfl))) (fun _ _ _ _ _ => (pts_one (pt_cmpR op_notN (pv 17) pe_non (nomark _)))) (fun _ _ _ _ _ => (pe_ix (by exact ix_tup : IxR _ (rIxT K)) (pv 17) pe_int (fun _ _ => rfl))))))
        (pss_cons (ps_set (i := 10) scLaw45.nd rfl (Or.inl rfl) (pe_op op_cat (pv 10) (pe_lc (own := [("_law_ends", 17)]) (g := gName 17) rfl scLaw45.nd (pi_list (pe_listVals rfl (by rfl) T.list (pv 5))) (blkOk_by (N := ["_law_script", "_law_bag_here", "_law_lamps", "_law_looks", "_law_settings", "_law_stretches", "_law_by", "_law_one", "_law_two", "_law_made", "_law_spots", "_law_spot", "_law_same", "_law_look", "_law_less", "_law_lamp", "_law_back", "_law_ends", "_law_other"]) (sc := defScope sLaw) (by decide +kernel)) (fun _ _ _ _ _ => (pg_name (i := 17) scLaw45.nd rfl (Or.inl rfl))) (fun _ _ _ _ _ => (pts_one (pt_cmpR op_notN (pv 17) pe_non (nomark _)))) (fun _ _ _ _ _ => (pe_ix (by exact ix_tup : IxR _ (rIxT K)) (pv 17) pe_int (fun _ _ => rfl))))))
        (pss_cons (ps_for PassesOwn.never rfl (pi_list (pv 10)) (pg_name (i := 11) scLaw45.nd rfl (Or.inl rfl)) (pss_cons (ps_if (PW.pt (pw_or (pt_cmpR (op_neD hr.units) (StX.pe_callO (pv 9) cC GC hr2 pass0 (pa_cons (pv 11) pa_nil)) (pe_call GGlowing hr1 (by rfl) mGlowing kGlowing bGlowing .nil pass0 (pa_cons (pv 2) (pa_cons (pv 5) (pa_cons (pv 11) pa_nil)))) (nomark _)) (pw_or1 (pt_not (pt_val (pe_callB call_isi (by rfl) T.isinstance (by decide +kernel) (pa_cons (StX.pe_callO (pv 9) cC GC hr2 pass0 (pa_cons (pv 11) pa_nil)) (pa_cons (pe_bltn (v := .ty "tuple") (by rfl) T.tuple (by decide +kernel) rfl) pa_nil)))))))) (pss_one (ps_ret pe_bl)) pss_nil)
        (pss_one (ps_if (PW.pt (pw_or (pt_cmpR (op_neD hr.units) (StX.pe_callO (pe_op (op_binInt GAdd A0.selfF hAdd iAdd hg (.inr ⟨gR, rfl⟩) h1 h2 A0.s1 hr3 bAdd pass0) (pv 9) (pv 6)) cC GC hr2 pass0 (pa_cons (pe_op op_add (pv 11) (pv 6)) pa_nil)) (StX.pe_callO (pv 9) cC GC hr2 pass0 (pa_cons (pv 11) pa_nil)) (nomark _)) (pw_or1 (pt_cmpR (op_neD hr.units) (StX.pe_callO (pe_un (un_negOwn GNeg hNeg iNeg hr3 bNeg pass0) (pv 9)) cC GC hr2 pass0 (pa_cons (pe_un un_neg (pv 11)) pa_nil)) (StX.pe_callO (pv 9) cC GC hr2 pass0 (pa_cons (pv 11) pa_nil)) (nomark _))))) (pss_one (ps_ret pe_bl)) pss_nil))))
        (pss_cons (ps_if (pt_not (pt_val (pe_call GIsMade hr1 (by rfl) mIsMade kIsMade bIsMade .nil pass0 (pa_cons (pe_op (op_binInt GAdd A0.selfF hAdd iAdd hg (.inr ⟨gR, rfl⟩) h1 h2 A0.s1 hr3 bAdd pass0) (pv 9) (pv 6)) (pa_cons (pe_call GShifted hr1 (by rfl) mShifted kShifted bShifted .nil pass0 (pa_cons (pv 4) (pa_cons pe_int (pa_cons (pv 6) pa_nil)))) (pa_cons (pe_call GMoved hr1 (by rfl) mMoved kMoved bMoved .nil pass0 (pa_cons (pv 5) (pa_cons (pv 6) pa_nil))) pa_nil)))))) (pss_one (ps_ret pe_bl)) pss_nil)
        (pss_cons (ps_if (pt_not (pt_val (pe_call GIsMade hr1 (by rfl) mIsMade kIsMade bIsMade .nil pass0 (pa_cons (pe_op (op_intAdd GRad A0.selfF hA hR iRad A0.s2 hr4 bRad pass0) (pv 6) (pv 9)) (pa_cons (pe_call GShifted hr1 (by rfl) mShifted kShifted bShifted .nil pass0 (pa_cons (pv 4) (pa_cons pe_int (pa_cons (pv 6) pa_nil)))) (pa_cons (pe_call GMoved hr1 (by rfl) mMoved kMoved bMoved .nil pass0 (pa_cons (pv 5) (pa_cons (pv 6) pa_nil))) pa_nil)))))) (pss_one (ps_ret pe_bl)) pss_nil)
        (pss_cons (ps_if (pt_not (pt_val (pe_call GIsMade hr1 (by rfl) mIsMade kIsMade bIsMade .nil pass0 (pa_cons (pe_un (un_negOwn GNeg hNeg iNeg hr3 bNeg pass0) (pv 9)) (pa_cons (pe_call GShifted hr1 (by rfl) mShifted kShifted bShifted .nil pass0 (pa_cons (pv 4) (pa_cons (pe_un un_neg pe_int) (pa_cons pe_int pa_nil)))) (pa_cons (pe_call GTurned hr1 (by rfl) mTurned kTurned bTurned .nil pass0 (pa_cons (pv 5) pa_nil)) pa_nil)))))) (pss_one (ps_ret pe_bl)) pss_nil)
        (C8.pss_cut (ps_set (i := 12) scLaw45.nd rfl (Or.inl rfl) (pe_or (pe_cmpR op_eq (pv 6) pe_int (nomark _)) (pe_one (pe_and (pe_cmpR (op_eqDD h66) (pv 4) pe_dnewK (nomark _)) (pe_one (pe_cmpR (op_eqDD h66) (pe_call GMoved hr1 (by rfl) mMoved kMoved bMoved .nil pass0 (pa_cons (pv 5) (pa_cons (pv 6) pa_nil))) (pv 5) (nomark _)))))))
        (pss_cons (ps_if (PW.pt (pw_or (pt_not (pt_val (pe_call GIs hr1 (by rfl) mIs kIs bIs .nil pass0 (pa_cons (pe_cmpR (op_eqAny GEq hEq iEq hr1 bEq pass0) (pv 9) (pe_op (op_binInt GAdd A0.selfF hAdd iAdd hg (.inr ⟨gR, rfl⟩) h1 h2 A0.s1 hr3 bAdd pass0) (pv 9) (pv 6)) (nomark _)) (pa_cons (pv 12) pa_nil))))) (pw_or (pt_not (pt_val (pe_call GIs hr1 (by rfl) mIs kIs bIs .nil pass0 (pa_cons (pe_cmpR (op_eqAny GEq hEq iEq hr1 bEq pass0) (pv 9) (pe_un (un_negOwn GNeg hNeg iNeg hr3 bNeg pass0) (pe_un (un_negOwn GNeg hNeg iNeg hr3 bNeg pass0) (pv 9))) (nomark _)) (pa_cons pe_bl pa_nil))))) (pw_or1 (pt_not (pt_val (pe_call GIs hr1 (by rfl) mIs kIs bIs .nil pass0 (pa_cons (pe_cmpR (op_eqAny GEq hEq iEq hr1 bEq pass0) (pv 9) (pv 6) (nomark _)) (pa_cons pe_bl pa_nil))))))))) (pss_one (ps_ret pe_bl)) pss_nil)
        (pss_cons (ps_for PassesOwn.never rfl (pi_list (pv 3)) (pg_name (i := 13) scLaw45.nd rfl (Or.inl rfl)) (pss_cons (ps_set (i := 14) scLaw45.nd rfl (Or.inl rfl) (pe_callTy call_dictD (by rfl) T.dict (by decide +kernel) (pa_cons (pv 4) pa_nil)))
        (pss_cons (ps_expr (pe_dpop1 (pv 14) (pv 13) (by constructor <;> rfl)))
        (pss_one (ps_if (PW.pt (pw_or (pt_not (pt_val (pe_call GIs hr1 (by rfl) mIs kIs bIs .nil pass0 (pa_cons (pe_cmpR (op_eqAny GEq hEq iEq hr1 bEq pass0) (pe_make MI GI hr2 (by rfl) TT.gA bI .nil pass0 (pa_cons (pv 14) (pa_cons (pv 5) pa_nil))) (pv 9) (nomark _)) (pa_cons pe_bl pa_nil))))) (pw_or1 (pt_not (pt_val (pe_call GIs hr1 (by rfl) mIs kIs bIs .nil pass0 (pa_cons (pe_cmpR (op_eqAny GEq hEq iEq hr1 bEq pass0) (pv 9) (pe_make MI GI hr2 (by rfl) TT.gA bI .nil pass0 (pa_cons (pv 14) (pa_cons (pv 5) pa_nil))) (nomark _)) (pa_cons pe_bl pa_nil)))))))) (pss_one (ps_ret pe_bl)) pss_nil)))))
        (pss_cons (ps_for PassesOwn.never rfl (pi_list (pv 2)) (pg_name (i := 15) scLaw45.nd rfl (Or.inl rfl)) (pss_cons (ps_set (i := 14) scLaw45.nd rfl (Or.inl rfl) (pe_callTy call_dictD (by rfl) T.dict (by decide +kernel) (pa_cons (pv 5) pa_nil)))
        (pss_cons (ps_expr (pe_dpop1 (pv 14) (pv 15) (by constructor <;> rfl)))
        (pss_one (ps_if (PW.pt (pw_or (pt_not (pt_val (pe_call GIs hr1 (by rfl) mIs kIs bIs .nil pass0 (pa_cons (pe_cmpR (op_eqAny GEq hEq iEq hr1 bEq pass0) (pe_make MI GI hr2 (by rfl) TT.gA bI .nil pass0 (pa_cons (pv 4) (pa_cons (pv 14) pa_nil))) (pv 9) (nomark _)) (pa_cons pe_bl pa_nil))))) (pw_or1 (pt_not (pt_val (pe_call GIs hr1 (by rfl) mIs kIs bIs .nil pass0 (pa_cons (pe_cmpR (op_eqAny GEq hEq iEq hr1 bEq pass0) (pv 9) (pe_make MI GI hr2 (by rfl) TT.gA bI .nil pass0 (pa_cons (pv 4) (pa_cons (pv 14) pa_nil))) (nomark _)) (pa_cons pe_bl pa_nil)))))))) (pss_one (ps_ret pe_bl)) pss_nil)))))
        (pss_cons (ps_set (i := 16) scLaw45.nd rfl (Or.inl rfl) pe_dnewK)
        (pss_cons (ps_for PassesOwn.never rfl (pi_list (pe_listRev rfl (by rfl) T.list (by rfl) T.reversed (pe_callTy call_list_of (by rfl) T.list (by decide +kernel) (pa_cons (pv 3) pa_nil)))) (pg_name (i := 13) scLaw45.nd rfl (Or.inl rfl)) (pss_one (ps_dput (hu_of hr) (pv 16) (pv 13) (pe_dget (hu_of hr) (pv 4) (pv 13) (fun _ _ => rfl)) rfl)))
        (pss_cons (ps_set (i := 17) scLaw45.nd rfl (Or.inl rfl) pe_dnewK)
        (pss_cons (ps_for PassesOwn.never rfl (pi_list (pe_listRev rfl (by rfl) T.list (by rfl) T.reversed (pe_callTy call_list_of (by rfl) T.list (by decide +kernel) (pa_cons (pv 2) pa_nil)))) (pg_name (i := 15) scLaw45.nd rfl (Or.inl rfl)) (pss_one (ps_dput (hu_of hr) (pv 17) (pv 15) (pe_dget (hu_of hr) (pv 5) (pv 15) (fun _ _ => rfl)) rfl)))
        (pss_cons (ps_if (PW.pt (pw_or (pt_not (pt_val (pe_call GIs hr1 (by rfl) mIs kIs bIs .nil pass0 (pa_cons (pe_cmpR (op_eqAny GEq hEq iEq hr1 bEq pass0) (pe_make MI GI hr2 (by rfl) TT.gA bI .nil pass0 (pa_cons (pv 16) (pa_cons (pv 17) pa_nil))) (pv 9) (nomark _)) (pa_cons pe_bl pa_nil))))) (pw_or1 (pt_not (pt_val (pe_call GIs hr1 (by rfl) mIs kIs bIs .nil pass0 (pa_cons (pe_cmpR (op_eqAny GEq hEq iEq hr1 bEq pass0) (pv 9) (pe_make MI GI hr2 (by rfl) TT.gA bI .nil pass0 (pa_cons (pv 16) (pa_cons (pv 17) pa_nil))) (nomark _)) (pa_cons pe_bl pa_nil)))))))) (pss_one (ps_ret pe_bl)) pss_nil)
        (pss_cons (ps_for PassesOwn.never rfl (pi_list (pe_lst (pa_cons pe_non (pa_cons (pv 4) (pa_cons (pe_tup (pa_cons (pv 4) (pa_cons (pv 5) pa_nil))) (pa_cons pe_str pa_nil)))))) (pg_name (i := 18) scLaw45.nd rfl (Or.inl rfl)) (pss_one (ps_if (PW.pt (pw_or (pt_not (pt_val (pe_call GIs hr1 (by rfl) mIs kIs bIs .nil pass0 (pa_cons (pe_cmpR (op_eqAny GEq hEq iEq hr1 bEq pass0) (pv 9) (pv 18) (nomark _)) (pa_cons pe_bl pa_nil))))) (pw_or1 (pt_not (pt_val (pe_call GIs hr1 (by rfl) mIs kIs bIs .nil pass0 (pa_cons (pe_cmpR (op_neAny GEq TF.ne TF.mro hEq iEq hr2 bEq pass0) (pv 9) (pv 18) (nomark _)) (pa_cons pe_bl pa_nil)))))))) (pss_one (ps_ret pe_bl)) pss_nil)))
        (pss_one (ps_ret (pe_call GIsMade hr1 (by rfl) mIsMade kIsMade bIsMade .nil pass0 (pa_cons (pv 9) (pa_cons (pv 4) (pa_cons (pv 5) pa_nil))))))))))))))))))))))))))))))))), ?_⟩
    refine ⟨_, rfl, a0, ns, rfl, hS, hlen, fun H1 b L s1 hb0 hL hok => ?_⟩
    refine ⟨_, rfl, _, rfl, b, L, 6, rfl, hL, hok, by decide, by decide, fun L1 n ok1 n0 n1 => ⟨b, L1, n, rfl, upd_same, ok1, by omega, by omega, fun H2 la L2 zl s2 hla0 hla hb2 ok2 okl hzl => ?_⟩⟩
    have nlb : la ≠ b := fun e => by rw [e, upd_same] at hla0; cases hla0
    refine ⟨_, rfl, _, rfl, b, L2, 6, rfl, hb2, ok2, by decide, by decide, fun L3 n' ok3 n0' n1' => ⟨b, L3, n', rfl, upd_same, ok3, by omega, by omega, fun H4 lk L4 zk s4 hlk0 hlk hb4 ok4 okk hzk => ?_⟩⟩
    have nkb : lk ≠ b := fun e => by rw [e, upd_same] at hlk0; cases hlk0
    have hla4 : H4 la = some (.lst (zl.map V.str)) := s4 _ _ nlb (by rw [upd_ne nlb]; exact hla)
    have fl : zl.length ≤ 5 := by omega
    have fk : zk.length ≤ 5 := by omega
    clear hL hok s1 s2 ok1 hla0 n0 n1 hzl hzk s4 hlk0 n0' n1' hb0 hS hla hb2 ok2 ok3
    refine ⟨_, rfl, _, rfl, b, lk, L4, zk, rfl, hb4, ok4, hlk, nkb, okk.nd, by omega, fun H5 st L5 ss s5 hst0 hb5 ok5 hst ks => ?_⟩
    have hla5 := s5 _ _ nlb hla4
    have hlk5 := s5 _ _ nkb hlk
    have nsb : st ≠ b := fun e => by rw [e, hb4] at hst0; cases hst0
    clear hb4 s5 hla4 hlk hst0 ok4
    refine ⟨_, rfl, _, rfl, b, la, L5, zl, rfl, hb5, ok5, hla5, nlb, okl.nd, by omega, fun H6 sp L6 ts s6 hsp0 hb6 ok6 hsp kt => ?_⟩
    have hla6 := s6 _ _ nlb hla5
    have hlk6 := s6 _ _ nkb hlk5
    have hst6 : SetU H6 st ss := s6 _ _ nsb hst
    have npb : sp ≠ b := fun e => by rw [e, hb5] at hsp0; cases hsp0
    clear hb5 s6 hla5 hlk5 hst hsp0 ok5
    refine ⟨_, rfl, 10, 25, rfl, rfl, ⟨by decide, by decide, by decide +kernel⟩, b, L6, 10 ^ 25, rfl, hb6, ok6, by decide +kernel, by decide +kernel, fun L7 y ok7 y0 y1 => ⟨10, 24, rfl, rfl, ⟨by decide, by decide, by decide +kernel⟩, 5, _, rfl, rfl, .inl (by decide), _, _, rfl, rfl, ?_⟩⟩
    obtain ⟨d, ed⟩ : ∃ d : Int, d = y - 5 * 10 ^ Int.toNat 24 := ⟨_, rfl⟩
    show gName 6 (V.int (y - 5 * 10 ^ Int.toNat 24)) _ _ _
    rw [← ed]
    clear ed y0 y1 y
    obtain ⟨Lt, eLt, hsp, hLt⟩ := hsp
    have b6 := upd_same (H := H6) (a := b) (o := .lst (L7.map V.int))
    have hla7 : upd H6 b (.lst (L7.map V.int)) la = some (.lst (zl.map V.str)) := by rw [upd_ne nlb]; exact hla6
    have hlk7 : upd H6 b (.lst (L7.map V.int)) lk = some (.lst (zk.map V.str)) := by rw [upd_ne nkb]; exact hlk6
    have hst7 : upd H6 b (.lst (L7.map V.int)) st = some (.dK (kvI ss)) := by rw [upd_ne nsb]; exact hst6
    have hsp7 : upd H6 b (.lst (L7.map V.int)) sp = some (.dK (kvS Lt)) := by rw [upd_ne npb]; exact hsp
    have hLt7 := hLt.ofB (SameB.upd (o := .lst (L7.map V.int))) hb6
    generalize upd H6 b (.lst (L7.map V.int)) = H7 at *
    clear hla6 hlk6 hst6 hsp hLt hb6 ok6
    refine ⟨_, rfl, st, _, rfl, .inl hst7, fun o1 ho1 => ?_⟩
    have s8 := Same.upd_new ho1 (o := .dK (kvI ss))
    have e1 := upd_same (H := H7) (a := o1) (o := .dK (kvI ss))
    have ho1' := ho1
    have nst1 : st ≠ o1 := ne_of_none hst7 ho1
    have nsp1 : sp ≠ o1 := ne_of_none hsp7 ho1
    have nla1 : la ≠ o1 := ne_of_none hla7 ho1
    have nlk1 : lk ≠ o1 := ne_of_none hlk7 ho1
    have nb1 : b ≠ o1 := ne_of_none b6 ho1
    generalize upd H7 o1 (.dK (kvI ss)) = H8 at *
    refine ⟨_, rfl, sp, _, rfl, .inl (s8 _ _ hsp7), fun o2 ho2 => ?_⟩
    have s9 := Same.upd_new ho2 (o := .dK (kvS Lt))
    have e2 := upd_same (H := H8) (a := o2) (o := .dK (kvS Lt))
    have s79 := s8.trans s9
    have nst2 : st ≠ o2 := ne_of_none (s8 _ _ hst7) ho2
    have nsp2 : sp ≠ o2 := ne_of_none (s8 _ _ hsp7) ho2
    have nla2 : la ≠ o2 := ne_of_none (s8 _ _ hla7) ho2
    have nlk2 : lk ≠ o2 := ne_of_none (s8 _ _ hlk7) ho2
    have nb2 : b ≠ o2 := ne_of_none (s8 _ _ b6) ho2
    have n12 : o1 ≠ o2 := ne_of_none e1 ho2
    have e1 := s9 _ _ e1
    generalize upd H8 o2 (.dK (kvS Lt)) = H9 at *
    have hLt9 := hLt7.of s79
    refine ⟨_, rfl, _, rfl, arr_mk2 (ss := ss) (ts := ts) (.inl e1) ⟨Lt, eLt, .inl e2, hLt9⟩ fun H10 m s10 nm ar => ?_⟩
    have B := (⟨s10 _ _ (s79 _ _ hla7), s10 _ _ (s79 _ _ hlk7), s10 _ _ (s79 _ _ hst7), ⟨Lt, eLt, s10 _ _ (s79 _ _ hsp7), hLt9.of s10⟩, ar⟩ : B45 K C la lk st sp m zl zk ss ts H10)
    have e1 := s10 _ _ e1
    have e2 := s10 _ _ e2
    have hb10 := s10 _ _ (s79 _ _ b6)
    have nl : zl.length = zl.length := rfl
    clear s79 s8 s9 s10 hla7 hlk7 hst7 hsp7 hLt7 hLt9 b6 ar nm ho1 ho1' ho2
    refine ⟨_, rfl, .inr (.inr (.inl ⟨rfl, .inl ⟨_, e1⟩⟩)), o1, _, rfl, rfl, e1, ?_⟩
    have B1 := B.put (o' := .dK []) e1 (.inr ⟨_, rfl⟩) nla1 nlk1 nst1 nsp1
    have hb11 : upd H10 o1 (.dK []) b = some (.lst (L7.map V.int)) := by rw [upd_ne nb1]; exact hb10
    have e2 : upd H10 o1 (.dK []) o2 = some (.dK (kvS Lt)) := by rw [upd_ne n12.symm]; exact e2
    generalize upd H10 o1 (.dK []) = H11 at *
    clear B
    refine ⟨_, rfl, .inr (.inr (.inl ⟨rfl, .inl ⟨_, e2⟩⟩)), o2, _, rfl, rfl, e2, ?_⟩
    have B2 := B1.put (o' := .dK []) e2 (.inr ⟨_, rfl⟩) nla2 nlk2 nst2 nsp2
    have hb12 : upd H11 o2 (.dK []) b = some (.lst (L7.map V.int)) := by rw [upd_ne nb2]; exact hb11
    generalize upd H11 o2 (.dK []) = H12 at *
    clear B1
    clear e1 e2 hb10 hb11 nst1 nsp1 nla1 nlk1 nb1 nst2 nsp2 nla2 nlk2 nb2 n12
    refine ⟨_, rfl, b, L7, 21, rfl, hb12, ok7, by decide, by decide, fun L8 x ok8 x0 x1 => ?_⟩
    have B3 := B2.put (o' := .lst (L8.map V.int)) hb12 (.inl ⟨_, rfl⟩) nlb nkb nsb npb
    generalize upd H12 b (.lst (L8.map V.int)) = H13 at *
    clear B2
    clear hb12 ok8 x0 x1 ok7 nlb nkb nsb npb
    have FF : F45 zl zk ss ts := ⟨ks, kt, by rw [ks]; exact okk.nd, by rw [kt]; exact okl.nd, by have := congrArg List.length ks; rw [List.length_map] at this; omega, by have := congrArg List.length kt; rw [List.length_map] at this; omega, fun z hz => valid_can (okl.valid hz)⟩
    refine ⟨_, _, rfl, rfl, by show 1 ≤ sizeLine; decide, fun pX hpX => ?_⟩
    have BX := B3.of (Same.upd_new hpX (o := .lst [.int (x - 10)]))
    have hX : upd H13 pX (.lst [.int (x - 10)]) pX = some (.lst (([x - 10] : List Int).map V.int)) := upd_same
    generalize upd H13 pX (.lst [.int (x - 10)]) = HX at *
    obtain ⟨zs, ezs⟩ : ∃ zs : List Int, zs = [x - 10] := ⟨_, rfl⟩
    have lzs : zs.length ≤ 1 := by rw [ezs]; exact Nat.le_refl _
    rw [← ezs] at hX
    clear B3 hpX ezs
    obtain ⟨Lt, eLt, hsp, hLt⟩ := BX.spn
    have lLt : Lt.length < 64 := by have := FF.ft; rw [← eLt] at this; unfold tsOf at this; rw [List.length_map] at this; exact this

    refine ⟨_, rfl, sp, _, rfl, .inl hsp, fun v hv0 => ?_⟩
    rw [show (kvS Lt).map (·.2) = Lt.map (·.2.1) by unfold kvS; rw [List.map_map]; rfl]
    have sv0 := Same.upd_new hv0 (o := .lst (Lt.map (·.2.1)))
    have hv := upd_same (H := HX) (a := v) (o := .lst (Lt.map (·.2.1)))
    have hX := sv0 _ _ hX
    have BX := BX.of sv0
    have hLv := hLt.of sv0
    have hsp := sv0 _ _ hsp
    generalize upd HX v (.lst (Lt.map (·.2.1))) = HY at *
    clear sv0 hv0 hLt
    refine ⟨v, rfl, ⟨_, SqL.of hv⟩, fun D hD => lc_it (walk_list (K := K) (a := v) (xs := Lt.map (·.2.1))) (fun i H' => Same HY H' ∧ H' D = some (.lst ((ends Prod.fst (Lt.take i)).map V.int))) ⟨Same.upd_new hD, upd_same⟩ (fun i H' _ ⟨s, _⟩ => SqL.of (s _ _ hv)) ?_ ?_⟩
    · rintro i x H' H'' hi ⟨si, hDi⟩ ⟨rfl, hx⟩
      rw [List.getElem?_map] at hx
      obtain ⟨q, hq, rfl⟩ : ∃ q, Lt[i]? = some q ∧ x = q.2.1 := by
        cases e : Lt[i]? with
        | none => rw [e] at hx; cases hx
        | some q => rw [e] at hx; exact ⟨q, rfl, (Option.some.inj hx).symm⟩
      have sv := (hLv.of si) q (List.mem_of_getElem? hq)
      rw [take_snoc hq, ends_snoc]
      refine ⟨rfl, _, rfl, rfl, ?_⟩
      cases ho : q.2.2 with
      | none =>
        rw [ho] at sv
        rw [show q.2.1 = V.non from sv]
        exact ⟨_, rfl, iteZ rfl ⟨si, by rw [show (Option.map Prod.fst (none : Span)).toList = [] from rfl, List.append_nil]; exact hDi⟩⟩
      | some r =>
        rw [ho] at sv
        obtain ⟨t, e2, ht⟩ := sv
        rw [e2]
        refine ⟨_, rfl, iteY rfl ⟨_, rfl, t, _, 0, _, rfl, rfl, ht, rfl, _, hDi, ?_, fun c o e => ?_, ?_⟩⟩
        · rw [List.length_map]
          have := ends_len Prod.fst (Lt.take i)
          rw [List.length_take] at this
          exact small1000 (by omega)
        · rw [upd_ne (ne_of_none e hD)]
          exact si _ _ e
        · rw [upd_same, List.map_append]
          rfl
    rintro HZ ⟨sZ, hDZ⟩
    rw [List.length_map, List.take_length] at hDZ
    have el := ends_len Prod.fst Lt
    refine ⟨pX, D, _, _, rfl, rfl, sZ _ _ hX, hDZ, by rw [List.length_map, List.length_map]; exact Nat.le_of_lt (small1000 (by omega)), fun pN hpN => ?_⟩
    rw [← List.map_append]
    have BN := (BX.of sZ).of (Same.upd_new hpN (o := .lst ((zs ++ ends Prod.fst Lt).map V.int)))
    have hN := upd_same (H := HZ) (a := pN) (o := .lst ((zs ++ ends Prod.fst Lt).map V.int))
    generalize upd HZ pN (.lst ((zs ++ ends Prod.fst Lt).map V.int)) = HX2 at *
    have lz2 : (zs ++ ends Prod.fst Lt).length ≤ 64 := by rw [List.length_append]; omega
    clear BX hpN hDZ hv hLv hsp sZ hX lzs
    generalize zs ++ ends Prod.fst Lt = zs2 at *
    obtain ⟨Lt, eLt, hsp, hLt⟩ := BN.spn
    have lLt : Lt.length < 64 := by have := FF.ft; rw [← eLt] at this; unfold tsOf at this; rw [List.length_map] at this; exact this
    refine ⟨_, rfl, ?_⟩

    refine ⟨_, rfl, sp, _, rfl, .inl hsp, fun v hv0 => ?_⟩
    rw [show (kvS Lt).map (·.2) = Lt.map (·.2.1) by unfold kvS; rw [List.map_map]; rfl]
    have sv0 := Same.upd_new hv0 (o := .lst (Lt.map (·.2.1)))
    have hv := upd_same (H := HX2) (a := v) (o := .lst (Lt.map (·.2.1)))
    have hN := sv0 _ _ hN
    have BN := BN.of sv0
    have hLv := hLt.of sv0
    have hsp := sv0 _ _ hsp
    generalize upd HX2 v (.lst (Lt.map (·.2.1))) = HY2 at *
    clear sv0 hv0 hLt
    refine ⟨v, rfl, ⟨_, SqL.of hv⟩, fun D hD => lc_it (walk_list (K := K) (a := v) (xs := Lt.map (·.2.1))) (fun i H' => Same HY2 H' ∧ H' D = some (.lst ((ends Prod.snd (Lt.take i)).map V.int))) ⟨Same.upd_new hD, upd_same⟩ (fun i H' _ ⟨s, _⟩ => SqL.of (s _ _ hv)) ?_ ?_⟩
    · rintro i x H' H'' hi ⟨si, hDi⟩ ⟨rfl, hx⟩
      rw [List.getElem?_map] at hx
      obtain ⟨q, hq, rfl⟩ : ∃ q, Lt[i]? = some q ∧ x = q.2.1 := by
        cases e : Lt[i]? with
        | none => rw [e] at hx; cases hx
        | some q => rw [e] at hx; exact ⟨q, rfl, (Option.some.inj hx).symm⟩
      have sv := (hLv.of si) q (List.mem_of_getElem? hq)
      rw [take_snoc hq, ends_snoc]
      refine ⟨rfl, _, rfl, rfl, ?_⟩
      cases ho : q.2.2 with
      | none =>
        rw [ho] at sv
        rw [show q.2.1 = V.non from sv]
        exact ⟨_, rfl, iteZ rfl ⟨si, by rw [show (Option.map Prod.snd (none : Span)).toList = [] from rfl, List.append_nil]; exact hDi⟩⟩
      | some r =>
        rw [ho] at sv
        obtain ⟨t, e2, ht⟩ := sv
        rw [e2]
        refine ⟨_, rfl, iteY rfl ⟨_, rfl, t, _, 1, _, rfl, rfl, ht, rfl, _, hDi, ?_, fun c o e => ?_, ?_⟩⟩
        · rw [List.length_map]
          have := ends_len Prod.snd (Lt.take i)
          rw [List.length_take] at this
          exact small1000 (by omega)
        · rw [upd_ne (ne_of_none e hD)]
          exact si _ _ e
        · rw [upd_same, List.map_append]
          rfl
    rintro HW ⟨sZ, hDZ⟩
    rw [List.length_map, List.take_length] at hDZ
    have el := ends_len Prod.snd Lt
    refine ⟨pN, D, _, _, rfl, rfl, sZ _ _ hN, hDZ, by rw [List.length_map, List.length_map]; exact Nat.le_of_lt (small1000 (by omega)), fun pM hpM => ?_⟩
    rw [← List.map_append]
    have B0 := (BN.of sZ).of (Same.upd_new hpM (o := .lst ((zs2 ++ ends Prod.snd Lt).map V.int)))
    have hM := upd_same (H := HW) (a := pM) (o := .lst ((zs2 ++ ends Prod.snd Lt).map V.int))
    generalize upd HW pM (.lst ((zs2 ++ ends Prod.snd Lt).map V.int)) = H0 at *
    generalize zs2 ++ ends Prod.snd Lt = zs at *
    clear BN hpM hDZ hv hLv hsp sZ hN lz2
    refine ⟨_, rfl, pM, rfl, ⟨_, SqL.of hM⟩, for_it (walk_list (K := K) (a := pM) (xs := zs.map V.int)) (fun i σ H' => ∃ x, σ = S45 a0 b la lk st sp d o1 o2 m pM x none none none none none none none ∧ B45 K C la lk st sp m zl zk ss ts H' ∧ H' pM = some (.lst (zs.map V.int)))
      ⟨_, rfl, B0, hM⟩ (fun i σ H' _ ⟨_, _, _, h⟩ => SqL.of h) ?_ ?_⟩
    · rintro i v σ H1 H2 hi ⟨x, rfl, B, hM⟩ ⟨rfl, hv⟩
      obtain ⟨z, hz, rfl⟩ : ∃ z, zs[i]? = some z ∧ v = .int z := by
        rw [List.getElem?_map] at hv
        cases e : zs[i]? with
        | none => rw [e] at hv; cases hv
        | some q => rw [e] at hv; exact ⟨q, rfl, (Option.some.inj hv).symm⟩
      obtain ⟨dm, am, bm, hm, _, _⟩ := B.arr.ex
      refine ⟨_, rfl, m, rfl, _, rfl, insC_arr B.arr _, m, ss, ts, z, rfl, B.arr, FF.nt, FF.ft, fun H3 t3 y3 s3 h3 o3 p3 => ?_⟩
      have B := B.of s3
      refine ⟨_, rfl, _, rfl, _, rfl, la, sp, zl, ts, z, rfl, B.hla, B.spn, FF.kt.symm, FF.nt, FF.ft, fun H4 t4 y4 s4 h4 o4 p4 => ?_⟩
      have B := B.of s4
      have e34 : y3 = y4 := sortedS_uniq o3 o4 (p3.trans p4.symm)
      refine ⟨.tuple (y3.map PyData.str), .tuple (y4.map PyData.str), .tup (SqT.of (s4 _ _ h3)) (dpAll_strs _), .tup h4 (dpAll_strs _), shaped45 (gcan FF p3), shaped45 (gcan FF p4), ?_⟩
      rw [eqv_tup45, decide_eq_true e34]
      refine ⟨_, rfl, iteF ?_⟩
      have hm := s4 _ _ (s3 _ _ hm)
      have hM := s4 _ _ (s3 _ _ hM)
      clear s3 s4 h3 h4 o3 o4 p3 p4 e34
      refine ⟨_, rfl, m, rfl, _, rfl, insC_arr B.arr _, m, ss, ts, z, rfl, B.arr, FF.nt, FF.ft, fun H5 t5 y5 s5 h5 o5 p5 => ?_⟩
      refine ⟨_, _, _, _, true, rfl, ClsV.ty "tuple", .base (.tup h5), kit_ty (by decide +kernel), true, rfl, iteF ?_⟩
      have B := B.of s5
      have hm := s5 _ _ hm
      have hM := s5 _ _ hM
      clear s5 h5 o5 p5
      refine ⟨_, rfl, _, rfl, m, dm, _, d, rfl, hm, rfl, m, ss, ts, d, rfl, B.arr.of (Same.refl _), FF.ns, FF.nt, FF.fs, FF.ft, fun H6 r6 s6 n6 ar6 => ?_⟩
      have B := B.of s6
      have hm := s6 _ _ hm
      have hM := s6 _ _ hM
      refine ⟨r6, rfl, _, rfl, _, rfl, _, _, rfl, rfl, insC_arr ar6 _, r6, _, _, z + d, rfl, ar6, FF.mt (mvSp d), FF.lt (mvSp d), fun H7 t7 y7 s7 h7 o7 p7 => ?_⟩
      rw [glow_mv] at p7
      have B := B.of s7
      have hm := s7 _ _ hm
      have hM := s7 _ _ hM
      refine ⟨_, rfl, m, rfl, _, rfl, insC_arr B.arr _, m, ss, ts, z, rfl, B.arr, FF.nt, FF.ft, fun H8 t8 y8 s8 h8 o8 p8 => ?_⟩
      have B := B.of s8
      have hm := s8 _ _ hm
      have hM := s8 _ _ hM
      refine ⟨.tuple (y7.map PyData.str), .tuple (y8.map PyData.str), .tup (SqT.of (s8 _ _ h7)) (dpAll_strs _), .tup (SqT.of h8) (dpAll_strs _), shaped45 (gcan FF p7), shaped45 (gcan FF p8), ?_⟩
      rw [eqv_tup45, decide_eq_true (sortedS_uniq o7 o8 (p7.trans p8.symm))]
      refine ⟨_, rfl, iteF ?_⟩
      clear s6 s7 s8 n6 ar6 h7 h8 o7 o8 p7 p8
      refine ⟨_, rfl, m, dm, _, rfl, hm, m, ss, ts, rfl, B.arr, FF.ns, FF.nt, FF.fs, FF.ft, fun H9 r9 s9 n9 ar9 => ?_⟩
      have B := B.of s9
      have hm := s9 _ _ hm
      have hM := s9 _ _ hM
      refine ⟨r9, rfl, _, rfl, _, rfl, insC_arr ar9 _, r9, _, _, -z, rfl, ar9, FF.mt tnSp, FF.lt tnSp, fun H10 t10 y10 s10 h10 o10 p10 => ?_⟩
      rw [glow_tn] at p10
      have B := B.of s10
      have hm := s10 _ _ hm
      have hM := s10 _ _ hM
      refine ⟨_, rfl, m, rfl, _, rfl, insC_arr B.arr _, m, ss, ts, z, rfl, B.arr, FF.nt, FF.ft, fun H11 t11 y11 s11 h11 o11 p11 => ?_⟩
      have B := B.of s11
      have hM := s11 _ _ hM
      refine ⟨.tuple (y10.map PyData.str), .tuple (y11.map PyData.str), .tup (SqT.of (s11 _ _ h10)) (dpAll_strs _), .tup (SqT.of h11) (dpAll_strs _), shaped45 (gcan FF p10), shaped45 (gcan FF p11), ?_⟩
      rw [eqv_tup45, decide_eq_true (sortedS_uniq o10 o11 (p10.trans p11.symm))]
      exact ⟨_, rfl, iteF ⟨_, rfl, B, hM⟩⟩
    · rintro σ H1 ⟨x11, rfl, B, _⟩
      clear B0 hM
      obtain ⟨dm, am, bm, hm, _, _⟩ := B.arr.ex
      -- made + by
      refine ⟨_, rfl, _, rfl, m, dm, _, d, rfl, hm, rfl, m, ss, ts, d, rfl, B.arr, FF.ns, FF.nt, FF.fs, FF.ft, fun H2 r2 s2 n2 ar2 => ?_⟩
      have B := B.of s2
      refine ⟨_, rfl, _, rfl, st, ss, 1, d, rfl, B.set, .inl rfl, FF.ns, FF.fs, fun H3 g3 s3 n3 set3 => ?_⟩
      rw [shl_one] at set3
      have B := B.of s3
      refine ⟨_, rfl, _, rfl, sp, ts, d, rfl, B.spn, FF.nt, FF.ft, fun H4 g4 s4 n4 spn4 => ?_⟩
      have B := B.of s4
      refine ⟨r2, g3, g4, _, _, _, _, rfl, (ar2.of s3).of s4, set3.of s4, spn4, ?_⟩
      rw [show deq (pdD pdI (shL d ss)) (pdD pdI (shL d ss)) = true from deq_refl rI (FF.ms fun i => i + d), show deq (pdD pdO (mvL d ts)) (pdD pdO (mvL d ts)) = true from deq_refl rO (FF.mt (mvSp d))]
      refine ⟨true, rfl, iteF ?_⟩
      have hm := s4 _ _ (s3 _ _ (s2 _ _ hm))
      clear s2 s3 s4 n2 n3 n4 ar2 set3 spn4
      -- by + made
      refine ⟨_, rfl, _, rfl, m, dm, _, d, rfl, hm, rfl, m, ss, ts, d, rfl, B.arr, FF.ns, FF.nt, FF.fs, FF.ft, fun H5 r2 s2 n2 ar2 => ?_⟩
      have B := B.of s2
      refine ⟨_, rfl, _, rfl, st, ss, 1, d, rfl, B.set, .inl rfl, FF.ns, FF.fs, fun H6 g3 s3 n3 set3 => ?_⟩
      rw [shl_one] at set3
      have B := B.of s3
      refine ⟨_, rfl, _, rfl, sp, ts, d, rfl, B.spn, FF.nt, FF.ft, fun H7 g4 s4 n4 spn4 => ?_⟩
      have B := B.of s4
      refine ⟨r2, g3, g4, _, _, _, _, rfl, (ar2.of s3).of s4, set3.of s4, spn4, ?_⟩
      rw [show deq (pdD pdI (shL d ss)) (pdD pdI (shL d ss)) = true from deq_refl rI (FF.ms fun i => i + d), show deq (pdD pdO (mvL d ts)) (pdD pdO (mvL d ts)) = true from deq_refl rO (FF.mt (mvSp d))]
      refine ⟨true, rfl, iteF ?_⟩
      have hm := s4 _ _ (s3 _ _ (s2 _ _ hm))
      clear s2 s3 s4 n2 n3 n4 ar2 set3 spn4
      -- -made
      refine ⟨_, rfl, m, dm, _, rfl, hm, m, ss, ts, rfl, B.arr, FF.ns, FF.nt, FF.fs, FF.ft, fun H8 r2 s2 n2 ar2 => ?_⟩
      have B := B.of s2
      refine ⟨_, rfl, 1, rfl, st, ss, -1, 0, rfl, B.set, .inr rfl, FF.ns, FF.fs, fun H9 g3 s3 n3 set3 => ?_⟩
      rw [shl_neg] at set3
      have B := B.of s3
      refine ⟨_, rfl, sp, ts, rfl, B.spn, FF.nt, FF.ft, fun H10 g4 s4 n4 spn4 => ?_⟩
      have B := B.of s4
      refine ⟨r2, g3, g4, _, _, _, _, rfl, (ar2.of s3).of s4, set3.of s4, spn4, ?_⟩
      rw [show deq (pdD pdI (ngL ss)) (pdD pdI (ngL ss)) = true from deq_refl rI (FF.ms fun i => -i), show deq (pdD pdO (tnL ts)) (pdD pdO (tnL ts)) = true from deq_refl rO (FF.mt tnSp)]
      refine ⟨true, rfl, iteF ?_⟩
      have hm := s4 _ _ (s3 _ _ (s2 _ _ hm))
      clear s2 s3 s4 n2 n3 n4 ar2 set3 spn4
      -- the due answer
      refine ⟨fun σ H' => σ = S45 a0 b la lk st sp d o1 o2 m pM x11 (some (.bl (same45 d ss ts))) none none none none none none ∧ B45 K C la lk st sp m zl zk ss ts H', ?_, ?_⟩
      · refine ⟨_, rfl, rfl, _, rfl, ?_⟩
        by_cases h0 : d = 0
        · refine iteY (by rw [h0]; rfl) ⟨?_, B⟩
          unfold same45
          rw [decide_eq_true h0]
          rfl
        · refine iteZ (decide_eq_false fun e => h0 (by injection e)) ?_
          refine ⟨_, rfl, fun e he => ?_⟩
          have se := Same.upd_new he (o := .dK [])
          have he1 := upd_same (H := H10) (a := e) (o := .dK [])
          have B := B.of se
          generalize upd H10 e (.dK []) = H11 at *
          refine ⟨st, e, _, pdD pdI [], rfl, rfl, set_dd B.set.r, set_dd (ss := []) (.inl he1), ?_⟩
          have q1 : deq (pdD pdI ss) (pdD pdI []) = decide (ss = []) := by
            cases ss with
            | nil => rfl
            | cons p r => exact deq_len (by unfold pdD; simp)
          rw [q1]
          by_cases hs : ss = []
          · refine ⟨_, rfl, iteY (decide_eq_true hs) ?_⟩
            refine ⟨_, rfl, _, rfl, sp, ts, d, rfl, B.spn, FF.nt, FF.ft, fun H12 g4 s4 n4 spn4 => ?_⟩
            have B := B.of s4
            refine ⟨_, rfl, g4, sp, _, _, rfl, rfl, span_dd spn4.r, span_dd B.spn.r, ?_⟩
            rw [show deq (pdD pdO (mvL d ts)) (pdD pdO ts) = decide (mvL d ts = ts) from deq_keys pdO_eq (keys_map (mvSp d) ts) FF.nt]
            refine ⟨?_, B⟩
            unfold same45
            rw [decide_eq_false h0, decide_eq_true hs]
            rfl
          · refine ⟨_, rfl, iteZ (decide_eq_false hs) ⟨?_, B⟩⟩
            unfold same45
            rw [decide_eq_false h0, decide_eq_false hs]
            rfl
      clear B hm
      rintro σ H11 ⟨rfl, B⟩
      obtain ⟨dm, am, bm, hm, _, _⟩ := B.arr.ex
      refine ⟨_, rfl, _, rfl, _, rfl, m, dm, _, d, rfl, hm, rfl, m, ss, ts, d, rfl, B.arr, FF.ns, FF.nt, FF.fs, FF.ft, fun H2 r2 s2 n2 ar2 => ?_⟩
      have B := B.of s2
      have hm := s2 _ _ hm
      obtain ⟨d2, a2, b2, h2', _, _⟩ := ar2.ex
      refine ⟨m, dm, _, _, rfl, hm, TyOf.ins h2' ic.cl ic.ha ic.hn ic.htk ic.hm, nf45 K C, .inr ⟨m, r2, _, _, _, _, rfl, B.arr, ar2, ⟨_, rfl, _, rfl, _, _, rfl, same_val FF d, ⟨true, rfl, iteF ?_⟩⟩⟩⟩
      clear s2 n2 ar2 h2'
      refine ⟨_, rfl, _, rfl, m, dm, _, rfl, hm, m, ss, ts, rfl, B.arr, FF.ns, FF.nt, FF.fs, FF.ft, fun H3 r3 s3 n3 ar3 => ?_⟩
      have B := B.of s3
      have hm := s3 _ _ hm
      obtain ⟨d3, a3, b3, h3', _, _⟩ := ar3.ex
      refine ⟨r3, d3, _, rfl, h3', r3, _, _, rfl, ar3, FF.ms fun i => -i, FF.mt tnSp, FF.ls fun i => -i, FF.lt tnSp, fun H4 r4 s4 n4 ar4 => ?_⟩
      rw [ng_ng, tn_tn] at ar4
      have B := B.of s4
      have hm := s4 _ _ hm
      obtain ⟨d4, a4, b4, h4', _, _⟩ := ar4.ex
      refine ⟨m, dm, _, _, rfl, hm, TyOf.ins h4' ic.cl ic.ha ic.hn ic.htk ic.hm, nf45 K C, .inr ⟨m, r4, _, _, _, _, rfl, B.arr, ar4, ⟨_, rfl, _, _, rfl, self_val FF, ⟨true, rfl, iteF ?_⟩⟩⟩⟩
      clear s3 n3 ar3 h3' s4 n4 ar4 h4'
      refine ⟨_, rfl, _, rfl, m, dm, _, _, rfl, hm, TyOf.int d, (TF.nf "int" (by decide)).1, .inl ⟨m, .int d, _, rfl, TyOf.int d, (TF.nf "int" (by decide)).2, ⟨_, rfl, _, _, rfl, rfl, ⟨true, rfl, iteF ?_⟩⟩⟩⟩
      clear hm
      refine ⟨_, rfl, lk, rfl, ⟨_, SqL.of B.hlk⟩, for_it (walk_list (K := K) (a := lk) (xs := zk.map V.str)) (fun i σ H' => ∃ x13 x14 x15, σ = S45 a0 b la lk st sp d o1 o2 m pM x11 (some (.bl (same45 d ss ts))) x13 x14 x15 none none none ∧ B45 K C la lk st sp m zl zk ss ts H')
        ⟨_, _, _, rfl, B⟩ (fun i σ H' _ ⟨_, _, _, _, B⟩ => SqL.of B.hlk) ?_ ?_⟩
      · clear B
        rintro i v σ H1 H2 hi ⟨x13, x14, x15, rfl, B⟩ ⟨rfl, hv⟩
        obtain ⟨n, hn, _, rfl⟩ := st_at hv
        rw [← FF.ks] at hn
        obtain ⟨q, hq, hqm, rfl⟩ := at_key hn
        refine ⟨_, rfl, st, _, rfl, .inl B.set, fun D hD => ?_⟩
        refine ⟨_, rfl, D, rfl, .inl ⟨_, .inl upd_same⟩, _, rfl, kvI ss, .inr q.1, _, upd_same, rfl, val_kvI FF.ns hqm, ?_⟩
        rw [upd_upd, dropI]
        have sD := Same.upd_new hD (o := .dK (kvI (ss.filter fun p => decide (p.1 ≠ q.1))))
        have hD1 := upd_same (H := H2) (a := D) (o := .dK (kvI (ss.filter fun p => decide (p.1 ≠ q.1))))
        have B := B.of sD
        
        generalize upd H2 D (.dK (kvI (ss.filter fun p => decide (p.1 ≠ q.1)))) = H3 at *
        refine ⟨_, rfl, _, rfl, arr_mk2 (ss := ss.filter fun p => decide (p.1 ≠ q.1)) (ts := ts) (.inl hD1) B.spn.r fun H4 r4 s4 n4 ar4 => ?_⟩
        have B := B.of s4
        obtain ⟨dm, am, bm, hm, _, _⟩ := B.arr.ex
        obtain ⟨d4, a4, b4, h4, _, _⟩ := ar4.ex
        refine ⟨_, rfl, r4, d4, _, _, rfl, h4, TyOf.ins hm ic.cl ic.ha ic.hn ic.htk ic.hm, nf45 K C, .inr ⟨r4, m, _, _, _, _, rfl, ar4, B.arr, ⟨_, rfl, _, _, rfl, (by rw [deq_len (by unfold pdD; rw [List.length_map, List.length_map]; exact less_len hqm)]; rfl), ⟨true, rfl, iteF ?_⟩⟩⟩⟩
        have hD4 := s4 _ _ hD1
        refine ⟨_, rfl, _, rfl, _, rfl, arr_mk2 (ss := ss.filter fun p => decide (p.1 ≠ q.1)) (ts := ts) (.inl hD4) B.spn.r fun H5 r5 s5 n5 ar5 => ?_⟩
        have B := B.of s5
        obtain ⟨d5, a5, b5, h5, _, _⟩ := ar5.ex
        have hm := s5 _ _ hm
        refine ⟨m, dm, _, _, rfl, hm, TyOf.ins h5 ic.cl ic.ha ic.hn ic.htk ic.hm, nf45 K C, .inr ⟨m, r5, _, _, _, _, rfl, B.arr, ar5, ⟨_, rfl, _, _, rfl, (by rw [deq_len (by unfold pdD; rw [List.length_map, List.length_map]; exact (less_len hqm).symm)]; rfl), ⟨true, rfl, iteF ?_⟩⟩⟩⟩
        exact ⟨_, _, _, rfl, B⟩
      clear B
      rintro σ H11 ⟨x13, x14, x15, rfl, B⟩
      refine ⟨_, rfl, la, rfl, ⟨_, SqL.of B.hla⟩, for_it (walk_list (K := K) (a := la) (xs := zl.map V.str)) (fun i σ H' => ∃ x13 x14 x15, σ = S45 a0 b la lk st sp d o1 o2 m pM x11 (some (.bl (same45 d ss ts))) x13 x14 x15 none none none ∧ B45 K C la lk st sp m zl zk ss ts H')
        ⟨_, _, _, rfl, B⟩ (fun i σ H' _ ⟨_, _, _, _, B⟩ => SqL.of B.hla) ?_ ?_⟩
      · clear B
        rintro i v σ H1 H2 hi ⟨x13, x14, x15, rfl, B⟩ ⟨rfl, hv⟩
        obtain ⟨n, hn, _, rfl⟩ := st_at hv
        rw [← FF.kt] at hn
        obtain ⟨Lt, eLt, hsp, hLt⟩ := B.spn
        rw [← eLt, tsOf_keys] at hn
        obtain ⟨q, hq, hqm, rfl⟩ := at_key hn
        have nt : (Lt.map (·.1)).Nodup := by have := FF.nt; rw [← eLt, tsOf_keys] at this; exact this
        refine ⟨_, rfl, sp, _, rfl, .inl hsp, fun D hD => ?_⟩
        refine ⟨_, rfl, D, rfl, .inl ⟨_, .inl upd_same⟩, _, rfl, kvS Lt, .inr q.1, _, upd_same, rfl, val_kvS nt hqm, ?_⟩
        rw [upd_upd, dropS]
        have sD := Same.upd_new hD (o := .dK (kvS (Lt.filter fun p => decide (p.1 ≠ q.1))))
        have hD1 := upd_same (H := H2) (a := D) (o := .dK (kvS (Lt.filter fun p => decide (p.1 ≠ q.1))))
        have B := B.of sD
        have hL3 : SpansV K (upd H2 D (.dK (kvS (Lt.filter fun p => decide (p.1 ≠ q.1))))) (Lt.filter fun p => decide (p.1 ≠ q.1)) := fun r hr => (hLt r (List.mem_filter.mp hr).1).of sD
        have el : (tsOf (Lt.filter fun p => decide (p.1 ≠ q.1))).length ≠ ts.length := by
          rw [← eLt]
          unfold tsOf
          rw [List.length_map, List.length_map]
          exact less_len hqm
        generalize upd H2 D (.dK (kvS (Lt.filter fun p => decide (p.1 ≠ q.1)))) = H3 at *
        refine ⟨_, rfl, _, rfl, arr_mk2 (ss := ss) (ts := tsOf (Lt.filter fun p => decide (p.1 ≠ q.1))) B.set.r ⟨_, rfl, .inl hD1, hL3⟩ fun H4 r4 s4 n4 ar4 => ?_⟩
        have B := B.of s4
        obtain ⟨dm, am, bm, hm, _, _⟩ := B.arr.ex
        obtain ⟨d4, a4, b4, h4, _, _⟩ := ar4.ex
        refine ⟨_, rfl, r4, d4, _, _, rfl, h4, TyOf.ins hm ic.cl ic.ha ic.hn ic.htk ic.hm, nf45 K C, .inr ⟨r4, m, _, _, _, _, rfl, ar4, B.arr, ⟨_, rfl, _, _, rfl, (by rw [deq_len (ds := pdD pdO _) (by unfold pdD; rw [List.length_map, List.length_map]; exact el), Bool.and_false]), ⟨true, rfl, iteF ?_⟩⟩⟩⟩
        have hD4 := s4 _ _ hD1
        refine ⟨_, rfl, _, rfl, _, rfl, arr_mk2 (ss := ss) (ts := tsOf (Lt.filter fun p => decide (p.1 ≠ q.1))) B.set.r ⟨_, rfl, .inl hD4, hL3.of s4⟩ fun H5 r5 s5 n5 ar5 => ?_⟩
        have B := B.of s5
        obtain ⟨d5, a5, b5, h5, _, _⟩ := ar5.ex
        have hm := s5 _ _ hm
        refine ⟨m, dm, _, _, rfl, hm, TyOf.ins h5 ic.cl ic.ha ic.hn ic.htk ic.hm, nf45 K C, .inr ⟨m, r5, _, _, _, _, rfl, B.arr, ar5, ⟨_, rfl, _, _, rfl, (by rw [deq_len (ds := pdD pdO _) (by unfold pdD; rw [List.length_map, List.length_map]; exact el.symm), Bool.and_false]), ⟨true, rfl, iteF ?_⟩⟩⟩⟩
        exact ⟨_, _, _, rfl, B⟩
      clear B
      rintro σ H11 ⟨x13, x14, x15, rfl, B⟩
      refine fun D hD0 => ?_
      have sD := Same.upd_new hD0 (o := .dK [])
      have hD1 := upd_same (H := H11) (a := D) (o := .dK [])
      have a1 : la ≠ D := ne_of_none B.hla hD0
      have a2 : lk ≠ D := ne_of_none B.hlk hD0
      have a3 : st ≠ D := ne_of_none B.set hD0
      have a4 : sp ≠ D := by obtain ⟨Lt, _, h, _⟩ := B.spn; exact ne_of_none h hD0
      have B := B.of sD
      
      generalize upd H11 D (.dK []) = H12 at *
      refine ⟨_, rfl, lk, _, rfl, .inl (SqL.of B.hlk), fun l1 hl1 => ⟨l1, _, rfl, SqL.of upd_same, fun l2 hl2 => ?_⟩⟩
      rw [← List.map_reverse]
      have sl := (Same.upd_new hl1 (o := .lst (zk.map V.str))).trans (Same.upd_new hl2 (o := .lst (zk.reverse.map V.str)))
      have hl := upd_same (H := upd H12 l1 (.lst (zk.map V.str))) (a := l2) (o := .lst (zk.reverse.map V.str))
      have B := B.of sl
      have hD1 := sl _ _ hD1
      
      have nl2 : l2 ≠ D := (ne_of_none ((Same.upd_new hl1 (o := .lst (zk.map V.str))) _ _ (by assumption : H12 D = some (.dK []))) hl2).symm
      generalize upd (upd H12 l1 (.lst (zk.map V.str))) l2 (.lst (zk.reverse.map V.str)) = H13 at *
      refine ⟨l2, rfl, ⟨_, SqL.of hl⟩, for_it (walk_list (K := K) (a := l2) (xs := zk.reverse.map V.str)) (fun i σ H' => ∃ x13, σ = S45 a0 b la lk st sp d o1 o2 m pM x11 (some (.bl (same45 d ss ts))) x13 x14 x15 (some (.ref D)) none none ∧ B45 K C la lk st sp m zl zk ss ts H' ∧ SetU H' D (ss.reverse.take i) ∧ H' l2 = some (.lst (zk.reverse.map V.str)))
        ⟨_, rfl, B, hD1, hl⟩ (fun i σ H' _ ⟨_, _, _, _, h⟩ => SqL.of h) ?_ ?_⟩
      · clear B hl hD1
        rintro i v σ H1 H2 hi ⟨x13, rfl, B, hD, hl⟩ ⟨rfl, hv⟩
        obtain ⟨n, hn, _, rfl⟩ := st_at hv
        rw [← FF.ks, ← List.map_reverse] at hn
        obtain ⟨q, hq, hqm, rfl⟩ := at_key hn
        have ndr : (ss.reverse.map (·.1)).Nodup := by rw [List.map_reverse]; exact (List.reverse_perm _).nodup_iff.mpr FF.ns
        have new : q.1 ∉ (ss.reverse.take i).map (·.1) := by rw [List.map_take]; exact take_new ndr hn
        have hD' : H2 D = some (.dK (kvI (ss.reverse.take i))) := hD
        have lt : (kvI (ss.reverse.take i)).length < sizeLine := small1000 (by
          unfold kvI
          rw [List.length_map, List.length_take, List.length_reverse]
          have := FF.fs
          omega)
        refine ⟨_, rfl, _, rfl, st, .int q.2, rfl, .inl ⟨kvI ss, .inr q.1, .inl B.set, rfl, (val_kvI FF.ns (List.mem_reverse.mp hqm)).symm⟩, _, rfl, _, rfl, D, _, rfl, DPut.k (k := .inr q.1) hD' lt, ?_⟩
        rw [put_new _ (new_kvI new)]
        exact ⟨_, rfl, B.put hD' (.inr ⟨_, rfl⟩) a1 a2 a3 a4, by unfold SetU; rw [upd_same, take_snoc hq, kvI_snoc], by rw [upd_ne nl2]; exact hl⟩
      clear B hl hD1 nl2 hl1 hl2 sl sD hD0
      rintro σ H14 ⟨x13, rfl, B, hD, _⟩
      rw [List.length_map, List.length_reverse, show zk.length = ss.reverse.length by rw [← FF.ks, List.length_map, List.length_reverse], List.take_length] at hD
      obtain ⟨Lt, eLt, hsp, hLt⟩ := B.spn
      have nt : (Lt.map (·.1)).Nodup := by have := FF.nt; rw [← eLt, tsOf_keys] at this; exact this
      have lLt : Lt.length < 64 := by have := FF.ft; rw [← eLt] at this; unfold tsOf at this; rw [List.length_map] at this; exact this
      refine fun D2 hD0 => ?_
      have sD := Same.upd_new hD0 (o := .dK [])
      have hD1 := upd_same (H := H14) (a := D2) (o := .dK [])
      have c1 : la ≠ D2 := ne_of_none B.hla hD0
      have c2 : lk ≠ D2 := ne_of_none B.hlk hD0
      have c3 : st ≠ D2 := ne_of_none B.set hD0
      have c4 : sp ≠ D2 := by obtain ⟨Lt, _, h, _⟩ := B.spn; exact ne_of_none h hD0
      have B := B.of sD
      have nDD : D ≠ D2 := ne_of_none hD hD0
      have hD := hD.of sD
      have hsp := sD _ _ hsp
      have hLt := hLt.of sD
      generalize upd H14 D2 (.dK []) = H15 at *
      refine ⟨_, rfl, la, _, rfl, .inl (SqL.of B.hla), fun l1 hl1 => ⟨l1, _, rfl, SqL.of upd_same, fun l2 hl2 => ?_⟩⟩
      rw [← List.map_reverse]
      have sl := (Same.upd_new hl1 (o := .lst (zl.map V.str))).trans (Same.upd_new hl2 (o := .lst (zl.reverse.map V.str)))
      have hl := upd_same (H := upd H15 l1 (.lst (zl.map V.str))) (a := l2) (o := .lst (zl.reverse.map V.str))
      have B := B.of sl
      have hD1 := sl _ _ hD1
      have hD := hD.of sl
      have hsp := sl _ _ hsp
      have hLt := hLt.of sl
      have nl2 : l2 ≠ D2 := (ne_of_none ((Same.upd_new hl1 (o := .lst (zl.map V.str))) _ _ (by assumption : H15 D2 = some (.dK []))) hl2).symm
      generalize upd (upd H15 l1 (.lst (zl.map V.str))) l2 (.lst (zl.reverse.map V.str)) = H16 at *
      refine ⟨l2, rfl, ⟨_, SqL.of hl⟩, for_it (walk_list (K := K) (a := l2) (xs := zl.reverse.map V.str)) (fun i σ H' => ∃ x15, σ = S45 a0 b la lk st sp d o1 o2 m pM x11 (some (.bl (same45 d ss ts))) x13 x14 x15 (some (.ref D)) (some (.ref D2)) none ∧ B45 K C la lk st sp m zl zk ss ts H' ∧ H' D2 = some (.dK (kvS (Lt.reverse.take i))) ∧ H' l2 = some (.lst (zl.reverse.map V.str)) ∧ H' sp = some (.dK (kvS Lt)) ∧ SpansV K H' Lt ∧ SetU H' D ss.reverse)
        ⟨_, rfl, B, hD1, hl, hsp, hLt, hD⟩ (fun i σ H' _ ⟨_, _, _, _, h, _⟩ => SqL.of h) ?_ ?_⟩
      · clear B hl hD1 hsp hLt hD
        rintro i v σ H1 H2 hi ⟨x15, rfl, B, hD2, hl, hsp, hLt, hD⟩ ⟨rfl, hv⟩
        obtain ⟨n, hn, _, rfl⟩ := st_at hv
        rw [← FF.kt, ← eLt, tsOf_keys, ← List.map_reverse] at hn
        obtain ⟨q, hq, hqm, rfl⟩ := at_key hn
        have ndr : (Lt.reverse.map (·.1)).Nodup := by rw [List.map_reverse]; exact (List.reverse_perm _).nodup_iff.mpr nt
        have new : q.1 ∉ (Lt.reverse.take i).map (·.1) := by rw [List.map_take]; exact take_new ndr hn
        have lt : (kvS (Lt.reverse.take i)).length < sizeLine := small1000 (by
          unfold kvS
          rw [List.length_map, List.length_take, List.length_reverse]
          omega)
        refine ⟨_, rfl, _, rfl, sp, q.2.1, rfl, .inl ⟨kvS Lt, .inr q.1, .inl hsp, rfl, (val_kvS nt (List.mem_reverse.mp hqm)).symm⟩, _, rfl, _, rfl, D2, _, rfl, DPut.k (k := .inr q.1) hD2 lt, ?_⟩
        rw [put_new _ (new_kvS new)]
        exact ⟨_, rfl, B.put hD2 (.inr ⟨_, rfl⟩) c1 c2 c3 c4, by rw [upd_same, take_snoc hq, kvS_snoc], by rw [upd_ne nl2]; exact hl, by rw [upd_ne c4]; exact hsp, hLt.ofX SameB.upd hD2 dk1 dk2, by unfold SetU; rw [upd_ne nDD]; exact hD⟩
      clear B hl hD1 nl2 hl1 hl2 sl sD hD0 hsp hLt hD
      rintro σ H17 ⟨x15, rfl, B, hD2, _, hsp, hLt, hD⟩
      rw [List.length_map, List.length_reverse, show zl.length = Lt.reverse.length by rw [← FF.kt, ← eLt, tsOf_keys, List.length_map, List.length_reverse], List.take_length] at hD2
      have er : tsOf Lt.reverse = ts.reverse := by rw [← eLt]; unfold tsOf; rw [List.map_reverse]
      have spr : SpanR K H17 D2 ts.reverse := ⟨Lt.reverse, er, .inl hD2, fun r hr => hLt r (List.mem_reverse.mp hr)⟩
      have nsr : (ss.reverse.map (·.1)).Nodup := by rw [List.map_reverse]; exact (List.reverse_perm _).nodup_iff.mpr FF.ns
      have ntr : (ts.reverse.map (·.1)).Nodup := by rw [List.map_reverse]; exact (List.reverse_perm _).nodup_iff.mpr FF.nt
      obtain ⟨dm, am, bm, hm, _, _⟩ := B.arr.ex
      refine ⟨_, rfl, _, rfl, arr_mk2 (ss := ss.reverse) (ts := ts.reverse) hD.r spr fun H4 r4 s4 n4 ar4 => ?_⟩
      have B := B.of s4
      have hm := s4 _ _ hm
      obtain ⟨d4, a4', b4, h4, _, _⟩ := ar4.ex
      refine ⟨_, rfl, r4, d4, _, _, rfl, h4, TyOf.ins hm ic.cl ic.ha ic.hn ic.htk ic.hm, nf45 K C, .inr ⟨r4, m, _, _, _, _, rfl, ar4, B.arr, ⟨_, rfl, _, _, rfl, (by rw [deq_perm rI (List.reverse_perm ss) FF.ns, deq_perm rO (List.reverse_perm ts) FF.nt]; rfl), ⟨true, rfl, iteF ?_⟩⟩⟩⟩
      refine ⟨_, rfl, _, rfl, _, rfl, arr_mk2 (ss := ss.reverse) (ts := ts.reverse) (hD.r.of s4) (spr.of s4) fun H5 r5 s5 n5 ar5 => ?_⟩
      have B := B.of s5
      have hm := s5 _ _ hm
      obtain ⟨d5, a5, b5, h5, _, _⟩ := ar5.ex
      refine ⟨m, dm, _, _, rfl, hm, TyOf.ins h5 ic.cl ic.ha ic.hn ic.htk ic.hm, nf45 K C, .inr ⟨m, r5, _, _, _, _, rfl, B.arr, ar5, ⟨_, rfl, _, _, rfl, (by rw [deq_perm rI (List.reverse_perm ss).symm nsr, deq_perm rO (List.reverse_perm ts).symm ntr]; rfl), ⟨true, rfl, iteF ?_⟩⟩⟩⟩
      clear spr hD hD2 hsp hLt s4 s5 n4 n5 ar4 ar5 h4 h5
      refine ⟨_, rfl, _, rfl, _, rfl, by show 2 ≤ sizeLine; decide, fun tp htp => ⟨by show 4 ≤ sizeLine; decide, fun l hl0 => ?_⟩⟩
      have st5 := Same.upd_new htp (o := .tup [.ref st, .ref sp])
      have sl5 := Same.upd_new hl0 (o := .lst [.non, .ref st, .ref tp, .str "made"])
      have B := (B.of st5).of sl5
      have ht := sl5 _ _ (upd_same (H := H5) (a := tp) (o := .tup [.ref st, .ref sp]))
      have hl := upd_same (H := upd H5 tp (.tup [.ref st, .ref sp])) (a := l) (o := .lst [.non, .ref st, .ref tp, .str "made"])
      generalize upd (upd H5 tp (.tup [.ref st, .ref sp])) l (.lst [.non, .ref st, .ref tp, .str "made"]) = H6 at *
      clear st5 sl5 htp hl0 hm
      refine ⟨l, rfl, ⟨_, SqL.of hl⟩, for_it (walk_list (K := K) (a := l) (xs := [.non, .ref st, .ref tp, .str "made"])) (fun i σ H' => ∃ x18, σ = S45 a0 b la lk st sp d o1 o2 m pM x11 (some (.bl (same45 d ss ts))) x13 x14 x15 (some (.ref D)) (some (.ref D2)) x18 ∧ B45 K C la lk st sp m zl zk ss ts H' ∧ H' l = some (.lst [.non, .ref st, .ref tp, .str "made"]) ∧ H' tp = some (.tup [.ref st, .ref sp]))
        ⟨_, rfl, B, hl, ht⟩ (fun i σ H' _ ⟨_, _, _, h, _⟩ => SqL.of h) ?_ ?_⟩
      · clear B hl ht
        rintro i v σ H1 H2 hi ⟨x18, rfl, B, hl, ht⟩ ⟨rfl, hv⟩
        obtain ⟨dm, am, bm, hm, _, _⟩ := B.arr.ex
        obtain ⟨t, tm, ty⟩ : ∃ t ∈ (["str", "dict", "tuple", "int", "NoneType"] : List String), TyOf K H2 v (.type t) := by
          rcases i with _ | _ | _ | _ | i
          · cases (show some V.non = some v from hv); exact ⟨"NoneType", by decide, .non⟩
          · cases (show some (V.ref st) = some v from hv); exact ⟨"dict", by decide, .dK B.set⟩
          · cases (show some (V.ref tp) = some v from hv); exact ⟨"tuple", by decide, .tup ht⟩
          · cases (show some (V.str "made") = some v from hv); exact ⟨"str", by decide, .str _⟩
          · cases (show (none : Option V) = some v from hv)
        refine ⟨_, rfl, _, rfl, m, dm, _, _, rfl, hm, ty, (TF.nf t tm).1, .inl ⟨m, v, _, rfl, ty, (TF.nf t tm).2, ⟨_, rfl, _, _, rfl, rfl, ⟨true, rfl, iteF ?_⟩⟩⟩⟩
        refine ⟨_, rfl, _, rfl, m, dm, _, _, rfl, hm, ty, (TF.nf t tm).1, .inl ⟨m, v, _, rfl, ty, (TF.nf t tm).2, ⟨_, rfl, _, _, rfl, rfl, ⟨true, rfl, iteF ?_⟩⟩⟩⟩
        exact ⟨_, rfl, B, hl, ht⟩
      · clear B hl ht
        rintro σ H7 ⟨x18, rfl, B, _, _⟩
        refine ⟨_, rfl, _, rfl, _, rfl, m, st, sp, ss, ts, _, _, rfl, B.arr, B.set, B.spn, ?_⟩
        rw [self_val FF]
        exact k _
end
end Dl

namespace Dl
open PySem PySem.Spec PyProof.Rows L2
theorem all_mk {l : PySem.W.OpenLaw} {w : World} {K : PySem.W.Frag} {h : Heap} {mg : Str → Option Value} {fa f_contains f_moved f_turned f_law_bag f_law_take f_law_is f_law_name f_law_names f_law_glowing f_law_drawn_settings f_law_drawn_stretches f_law_moved f_law_turned f_law_shifted f_law_is_made f_law C_Arrangement f_Arrangement_init f_Arrangement_call f_Arrangement_add f_Arrangement_radd f_Arrangement_neg f_Arrangement_eq : Addr} (X : K.In h) (G : h.Ns mainGlobals mg) (hfa : mg "law" = some (.ref fa))
    {od_contains an_contains od_moved an_moved od_turned an_turned od_law_bag an_law_bag od_law_take an_law_take od_law_is an_law_is od_law_name an_law_name od_law_names an_law_names od_law_glowing an_law_glowing od_law_drawn_settings an_law_drawn_settings od_law_drawn_stretches an_law_drawn_stretches od_law_moved an_law_moved od_law_turned an_law_turned od_law_shifted an_law_shifted od_law_is_made an_law_is_made od_law an_law od_Arrangement_init an_Arrangement_init od_Arrangement_call an_Arrangement_call od_Arrangement_add an_Arrangement_add od_Arrangement_radd an_Arrangement_radd od_Arrangement_neg an_Arrangement_neg od_Arrangement_eq an_Arrangement_eq : Option Addr} {sl_contains sl_moved sl_turned sl_law_bag sl_law_take sl_law_is sl_law_name sl_law_names sl_law_glowing sl_law_drawn_settings sl_law_drawn_stretches sl_law_moved sl_law_turned sl_law_shifted sl_law_is_made sl_law sl_Arrangement_init sl_Arrangement_call sl_Arrangement_add sl_Arrangement_radd sl_Arrangement_neg sl_Arrangement_eq : Array (Option Value)} {oc_contains kV_contains dc_contains pm_contains cd_contains ct_contains oc_moved kV_moved dc_moved pm_moved cd_moved ct_moved oc_turned kV_turned dc_turned pm_turned cd_turned ct_turned oc_law_bag kV_law_bag dc_law_bag pm_law_bag cd_law_bag ct_law_bag oc_law_take kV_law_take dc_law_take pm_law_take cd_law_take ct_law_take oc_law_is kV_law_is dc_law_is pm_law_is cd_law_is ct_law_is oc_law_name kV_law_name dc_law_name pm_law_name cd_law_name ct_law_name oc_law_names kV_law_names dc_law_names pm_law_names cd_law_names ct_law_names oc_law_glowing kV_law_glowing dc_law_glowing pm_law_glowing cd_law_glowing ct_law_glowing oc_law_drawn_settings kV_law_drawn_settings dc_law_drawn_settings pm_law_drawn_settings cd_law_drawn_settings ct_law_drawn_settings oc_law_drawn_stretches kV_law_drawn_stretches dc_law_drawn_stretches pm_law_drawn_stretches cd_law_drawn_stretches ct_law_drawn_stretches oc_law_moved kV_law_moved dc_law_moved pm_law_moved cd_law_moved ct_law_moved oc_law_turned kV_law_turned dc_law_turned pm_law_turned cd_law_turned ct_law_turned oc_law_shifted kV_law_shifted dc_law_shifted pm_law_shifted cd_law_shifted ct_law_shifted oc_law_is_made kV_law_is_made dc_law_is_made pm_law_is_made cd_law_is_made ct_law_is_made oc_law kV_law dc_law pm_law cd_law ct_law oc_Arrangement_init kV_Arrangement_init dc_Arrangement_init pm_Arrangement_init cd_Arrangement_init ct_Arrangement_init oc_Arrangement_call kV_Arrangement_call dc_Arrangement_call pm_Arrangement_call cd_Arrangement_call ct_Arrangement_call oc_Arrangement_add kV_Arrangement_add dc_Arrangement_add pm_Arrangement_add cd_Arrangement_add ct_Arrangement_add oc_Arrangement_radd kV_Arrangement_radd dc_Arrangement_radd pm_Arrangement_radd cd_Arrangement_radd ct_Arrangement_radd oc_Arrangement_neg kV_Arrangement_neg dc_Arrangement_neg pm_Arrangement_neg cd_Arrangement_neg ct_Arrangement_neg oc_Arrangement_eq kV_Arrangement_eq dc_Arrangement_eq pm_Arrangement_eq cd_Arrangement_eq ct_Arrangement_eq : Value}
    (a_contains : PySem.W.nsIn K mainGlobals "_contains" = some (some (.ref f_contains)))
    (l_contains : K.lookup f_contains = some ⟨oc_contains, od_contains, .func (PySem.W.fnOf "_contains" "_contains" (defArgs sContains) (defBody sContains) (defScope sContains) .none kV_contains dc_contains pm_contains an_contains cd_contains ct_contains), sl_contains⟩)
    (c_contains : PySem.W.codeIn K cd_contains "_contains" = true)
    (k_contains : PySem.W.keepIn K (.ref f_contains) = true)
    (a_moved : PySem.W.nsIn K mainGlobals "_moved" = some (some (.ref f_moved)))
    (l_moved : K.lookup f_moved = some ⟨oc_moved, od_moved, .func (PySem.W.fnOf "_moved" "_moved" (defArgs sMoved) (defBody sMoved) (defScope sMoved) .none kV_moved dc_moved pm_moved an_moved cd_moved ct_moved), sl_moved⟩)
    (c_moved : PySem.W.codeIn K cd_moved "_moved" = true)
    (k_moved : PySem.W.keepIn K (.ref f_moved) = true)
    (a_turned : PySem.W.nsIn K mainGlobals "_turned" = some (some (.ref f_turned)))
    (l_turned : K.lookup f_turned = some ⟨oc_turned, od_turned, .func (PySem.W.fnOf "_turned" "_turned" (defArgs sTurned) (defBody sTurned) (defScope sTurned) .none kV_turned dc_turned pm_turned an_turned cd_turned ct_turned), sl_turned⟩)
    (c_turned : PySem.W.codeIn K cd_turned "_turned" = true)
    (k_turned : PySem.W.keepIn K (.ref f_turned) = true)
    (a_law_bag : PySem.W.nsIn K mainGlobals "_law_bag" = some (some (.ref f_law_bag)))
    (l_law_bag : K.lookup f_law_bag = some ⟨oc_law_bag, od_law_bag, .func (PySem.W.fnOf "_law_bag" "_law_bag" (defArgs sBag) (defBody sBag) (defScope sBag) .none kV_law_bag dc_law_bag pm_law_bag an_law_bag cd_law_bag ct_law_bag), sl_law_bag⟩)
    (c_law_bag : PySem.W.codeIn K cd_law_bag "_law_bag" = true)
    (k_law_bag : PySem.W.keepIn K (.ref f_law_bag) = true)
    (a_law_take : PySem.W.nsIn K mainGlobals "_law_take" = some (some (.ref f_law_take)))
    (l_law_take : K.lookup f_law_take = some ⟨oc_law_take, od_law_take, .func (PySem.W.fnOf "_law_take" "_law_take" (defArgs sTake) (defBody sTake) (defScope sTake) .none kV_law_take dc_law_take pm_law_take an_law_take cd_law_take ct_law_take), sl_law_take⟩)
    (c_law_take : PySem.W.codeIn K cd_law_take "_law_take" = true)
    (k_law_take : PySem.W.keepIn K (.ref f_law_take) = true)
    (a_law_is : PySem.W.nsIn K mainGlobals "_law_is" = some (some (.ref f_law_is)))
    (l_law_is : K.lookup f_law_is = some ⟨oc_law_is, od_law_is, .func (PySem.W.fnOf "_law_is" "_law_is" (defArgs sLawIs) (defBody sLawIs) (defScope sLawIs) .none kV_law_is dc_law_is pm_law_is an_law_is cd_law_is ct_law_is), sl_law_is⟩)
    (c_law_is : PySem.W.codeIn K cd_law_is "_law_is" = true)
    (k_law_is : PySem.W.keepIn K (.ref f_law_is) = true)
    (a_law_name : PySem.W.nsIn K mainGlobals "_law_name" = some (some (.ref f_law_name)))
    (l_law_name : K.lookup f_law_name = some ⟨oc_law_name, od_law_name, .func (PySem.W.fnOf "_law_name" "_law_name" (defArgs sLawName) (defBody sLawName) (defScope sLawName) .none kV_law_name dc_law_name pm_law_name an_law_name cd_law_name ct_law_name), sl_law_name⟩)
    (c_law_name : PySem.W.codeIn K cd_law_name "_law_name" = true)
    (k_law_name : PySem.W.keepIn K (.ref f_law_name) = true)
    (a_law_names : PySem.W.nsIn K mainGlobals "_law_names" = some (some (.ref f_law_names)))
    (l_law_names : K.lookup f_law_names = some ⟨oc_law_names, od_law_names, .func (PySem.W.fnOf "_law_names" "_law_names" (defArgs sLawNames) (defBody sLawNames) (defScope sLawNames) .none kV_law_names dc_law_names pm_law_names an_law_names cd_law_names ct_law_names), sl_law_names⟩)
    (c_law_names : PySem.W.codeIn K cd_law_names "_law_names" = true)
    (k_law_names : PySem.W.keepIn K (.ref f_law_names) = true)
    (a_law_glowing : PySem.W.nsIn K mainGlobals "_law_glowing" = some (some (.ref f_law_glowing)))
    (l_law_glowing : K.lookup f_law_glowing = some ⟨oc_law_glowing, od_law_glowing, .func (PySem.W.fnOf "_law_glowing" "_law_glowing" (defArgs sLawGlowing) (defBody sLawGlowing) (defScope sLawGlowing) .none kV_law_glowing dc_law_glowing pm_law_glowing an_law_glowing cd_law_glowing ct_law_glowing), sl_law_glowing⟩)
    (c_law_glowing : PySem.W.codeIn K cd_law_glowing "_law_glowing" = true)
    (k_law_glowing : PySem.W.keepIn K (.ref f_law_glowing) = true)
    (a_law_drawn_settings : PySem.W.nsIn K mainGlobals "_law_drawn_settings" = some (some (.ref f_law_drawn_settings)))
    (l_law_drawn_settings : K.lookup f_law_drawn_settings = some ⟨oc_law_drawn_settings, od_law_drawn_settings, .func (PySem.W.fnOf "_law_drawn_settings" "_law_drawn_settings" (defArgs sLawDrawnSettings) (defBody sLawDrawnSettings) (defScope sLawDrawnSettings) .none kV_law_drawn_settings dc_law_drawn_settings pm_law_drawn_settings an_law_drawn_settings cd_law_drawn_settings ct_law_drawn_settings), sl_law_drawn_settings⟩)
    (c_law_drawn_settings : PySem.W.codeIn K cd_law_drawn_settings "_law_drawn_settings" = true)
    (k_law_drawn_settings : PySem.W.keepIn K (.ref f_law_drawn_settings) = true)
    (a_law_drawn_stretches : PySem.W.nsIn K mainGlobals "_law_drawn_stretches" = some (some (.ref f_law_drawn_stretches)))
    (l_law_drawn_stretches : K.lookup f_law_drawn_stretches = some ⟨oc_law_drawn_stretches, od_law_drawn_stretches, .func (PySem.W.fnOf "_law_drawn_stretches" "_law_drawn_stretches" (defArgs sLawDrawnStretches) (defBody sLawDrawnStretches) (defScope sLawDrawnStretches) .none kV_law_drawn_stretches dc_law_drawn_stretches pm_law_drawn_stretches an_law_drawn_stretches cd_law_drawn_stretches ct_law_drawn_stretches), sl_law_drawn_stretches⟩)
    (c_law_drawn_stretches : PySem.W.codeIn K cd_law_drawn_stretches "_law_drawn_stretches" = true)
    (k_law_drawn_stretches : PySem.W.keepIn K (.ref f_law_drawn_stretches) = true)
    (a_law_moved : PySem.W.nsIn K mainGlobals "_law_moved" = some (some (.ref f_law_moved)))
    (l_law_moved : K.lookup f_law_moved = some ⟨oc_law_moved, od_law_moved, .func (PySem.W.fnOf "_law_moved" "_law_moved" (defArgs sLawMoved) (defBody sLawMoved) (defScope sLawMoved) .none kV_law_moved dc_law_moved pm_law_moved an_law_moved cd_law_moved ct_law_moved), sl_law_moved⟩)
    (c_law_moved : PySem.W.codeIn K cd_law_moved "_law_moved" = true)
    (k_law_moved : PySem.W.keepIn K (.ref f_law_moved) = true)
    (a_law_turned : PySem.W.nsIn K mainGlobals "_law_turned" = some (some (.ref f_law_turned)))
    (l_law_turned : K.lookup f_law_turned = some ⟨oc_law_turned, od_law_turned, .func (PySem.W.fnOf "_law_turned" "_law_turned" (defArgs sLawTurned) (defBody sLawTurned) (defScope sLawTurned) .none kV_law_turned dc_law_turned pm_law_turned an_law_turned cd_law_turned ct_law_turned), sl_law_turned⟩)
    (c_law_turned : PySem.W.codeIn K cd_law_turned "_law_turned" = true)
    (k_law_turned : PySem.W.keepIn K (.ref f_law_turned) = true)
    (a_law_shifted : PySem.W.nsIn K mainGlobals "_law_shifted" = some (some (.ref f_law_shifted)))
    (l_law_shifted : K.lookup f_law_shifted = some ⟨oc_law_shifted, od_law_shifted, .func (PySem.W.fnOf "_law_shifted" "_law_shifted" (defArgs sLawShifted) (defBody sLawShifted) (defScope sLawShifted) .none kV_law_shifted dc_law_shifted pm_law_shifted an_law_shifted cd_law_shifted ct_law_shifted), sl_law_shifted⟩)
    (c_law_shifted : PySem.W.codeIn K cd_law_shifted "_law_shifted" = true)
    (k_law_shifted : PySem.W.keepIn K (.ref f_law_shifted) = true)
    (a_law_is_made : PySem.W.nsIn K mainGlobals "_law_is_made" = some (some (.ref f_law_is_made)))
    (l_law_is_made : K.lookup f_law_is_made = some ⟨oc_law_is_made, od_law_is_made, .func (PySem.W.fnOf "_law_is_made" "_law_is_made" (defArgs sLawIsMade) (defBody sLawIsMade) (defScope sLawIsMade) .none kV_law_is_made dc_law_is_made pm_law_is_made an_law_is_made cd_law_is_made ct_law_is_made), sl_law_is_made⟩)
    (c_law_is_made : PySem.W.codeIn K cd_law_is_made "_law_is_made" = true)
    (k_law_is_made : PySem.W.keepIn K (.ref f_law_is_made) = true)
    (a_law : PySem.W.nsIn K mainGlobals "law" = some (some (.ref f_law)))
    (l_law : K.lookup f_law = some ⟨oc_law, od_law, .func (PySem.W.fnOf "law" "law" (defArgs sLaw) (defBody sLaw) (defScope sLaw) .none kV_law dc_law pm_law an_law cd_law ct_law), sl_law⟩)
    (c_law : PySem.W.codeIn K cd_law "law" = true)
    (k_law : PySem.W.keepIn K (.ref f_law) = true)
    (a_Arrangement : PySem.W.nsIn K mainGlobals "Arrangement" = some (some (.ref C_Arrangement)))
    (pg_Arrangement : PySem.W.plainGet K C_Arrangement Str.empty = true)
    (hd_Arrangement : PySem.W.hasDictIn K C_Arrangement = true)
    (po_Arrangement : PySem.W.plainOver K C_Arrangement = true)
    (sa_Arrangement : PySem.W.findIn K (.ref C_Arrangement) "__setattr__" = some (some (.builtin "object.__setattr__")))
    (mk_Arrangement : PySem.W.makesIn K C_Arrangement = true)
    (kc_Arrangement : PySem.W.keepIn K (.ref C_Arrangement) = true)
    (n_Arrangement_settings : PySem.W.findIn K (.ref C_Arrangement) "settings" = some none)
    (n_Arrangement_stretches : PySem.W.findIn K (.ref C_Arrangement) "stretches" = some none)
    (i_Arrangement_init : PySem.W.findIn K (.ref C_Arrangement) "__init__" = some (some (.ref f_Arrangement_init)))
    (fn_Arrangement_init : PySem.W.isFn K (.ref f_Arrangement_init) = true)
    (l_Arrangement_init : K.lookup f_Arrangement_init = some ⟨oc_Arrangement_init, od_Arrangement_init, .func (PySem.W.fnOf "__init__" "Arrangement.__init__" (defArgs sArrangementInit) (defBody sArrangementInit) (defScope sArrangementInit) .none kV_Arrangement_init dc_Arrangement_init pm_Arrangement_init an_Arrangement_init cd_Arrangement_init ct_Arrangement_init), sl_Arrangement_init⟩)
    (c_Arrangement_init : PySem.W.codeIn K cd_Arrangement_init "Arrangement.__init__" = true)
    (k_Arrangement_init : PySem.W.keepIn K (.ref f_Arrangement_init) = true)
    (i_Arrangement_call : PySem.W.findIn K (.ref C_Arrangement) "__call__" = some (some (.ref f_Arrangement_call)))
    (fn_Arrangement_call : PySem.W.isFn K (.ref f_Arrangement_call) = true)
    (l_Arrangement_call : K.lookup f_Arrangement_call = some ⟨oc_Arrangement_call, od_Arrangement_call, .func (PySem.W.fnOf "__call__" "Arrangement.__call__" (defArgs sArrangementCall) (defBody sArrangementCall) (defScope sArrangementCall) .none kV_Arrangement_call dc_Arrangement_call pm_Arrangement_call an_Arrangement_call cd_Arrangement_call ct_Arrangement_call), sl_Arrangement_call⟩)
    (c_Arrangement_call : PySem.W.codeIn K cd_Arrangement_call "Arrangement.__call__" = true)
    (k_Arrangement_call : PySem.W.keepIn K (.ref f_Arrangement_call) = true)
    (i_Arrangement_add : PySem.W.findIn K (.ref C_Arrangement) "__add__" = some (some (.ref f_Arrangement_add)))
    (fn_Arrangement_add : PySem.W.isFn K (.ref f_Arrangement_add) = true)
    (l_Arrangement_add : K.lookup f_Arrangement_add = some ⟨oc_Arrangement_add, od_Arrangement_add, .func (PySem.W.fnOf "__add__" "Arrangement.__add__" (defArgs sArrangementAdd) (defBody sArrangementAdd) (defScope sArrangementAdd) .none kV_Arrangement_add dc_Arrangement_add pm_Arrangement_add an_Arrangement_add cd_Arrangement_add ct_Arrangement_add), sl_Arrangement_add⟩)
    (c_Arrangement_add : PySem.W.codeIn K cd_Arrangement_add "Arrangement.__add__" = true)
    (k_Arrangement_add : PySem.W.keepIn K (.ref f_Arrangement_add) = true)
    (i_Arrangement_radd : PySem.W.findIn K (.ref C_Arrangement) "__radd__" = some (some (.ref f_Arrangement_radd)))
    (fn_Arrangement_radd : PySem.W.isFn K (.ref f_Arrangement_radd) = true)
    (l_Arrangement_radd : K.lookup f_Arrangement_radd = some ⟨oc_Arrangement_radd, od_Arrangement_radd, .func (PySem.W.fnOf "__radd__" "Arrangement.__radd__" (defArgs sArrangementRadd) (defBody sArrangementRadd) (defScope sArrangementRadd) .none kV_Arrangement_radd dc_Arrangement_radd pm_Arrangement_radd an_Arrangement_radd cd_Arrangement_radd ct_Arrangement_radd), sl_Arrangement_radd⟩)
    (c_Arrangement_radd : PySem.W.codeIn K cd_Arrangement_radd "Arrangement.__radd__" = true)
    (k_Arrangement_radd : PySem.W.keepIn K (.ref f_Arrangement_radd) = true)
    (i_Arrangement_neg : PySem.W.findIn K (.ref C_Arrangement) "__neg__" = some (some (.ref f_Arrangement_neg)))
    (fn_Arrangement_neg : PySem.W.isFn K (.ref f_Arrangement_neg) = true)
    (l_Arrangement_neg : K.lookup f_Arrangement_neg = some ⟨oc_Arrangement_neg, od_Arrangement_neg, .func (PySem.W.fnOf "__neg__" "Arrangement.__neg__" (defArgs sArrangementNeg) (defBody sArrangementNeg) (defScope sArrangementNeg) .none kV_Arrangement_neg dc_Arrangement_neg pm_Arrangement_neg an_Arrangement_neg cd_Arrangement_neg ct_Arrangement_neg), sl_Arrangement_neg⟩)
    (c_Arrangement_neg : PySem.W.codeIn K cd_Arrangement_neg "Arrangement.__neg__" = true)
    (k_Arrangement_neg : PySem.W.keepIn K (.ref f_Arrangement_neg) = true)
    (i_Arrangement_eq : PySem.W.findIn K (.ref C_Arrangement) "__eq__" = some (some (.ref f_Arrangement_eq)))
    (fn_Arrangement_eq : PySem.W.isFn K (.ref f_Arrangement_eq) = true)
    (l_Arrangement_eq : K.lookup f_Arrangement_eq = some ⟨oc_Arrangement_eq, od_Arrangement_eq, .func (PySem.W.fnOf "__eq__" "Arrangement.__eq__" (defArgs sArrangementEq) (defBody sArrangementEq) (defScope sArrangementEq) .none kV_Arrangement_eq dc_Arrangement_eq pm_Arrangement_eq an_Arrangement_eq cd_Arrangement_eq ct_Arrangement_eq), sl_Arrangement_eq⟩)
    (c_Arrangement_eq : PySem.W.codeIn K cd_Arrangement_eq "Arrangement.__eq__" = true)
    (k_Arrangement_eq : PySem.W.keepIn K (.ref f_Arrangement_eq) = true)
    (q_get : PySem.W.specialIn K (.builtin "object.__class__") "__get__" = some (some (.builtin "getset_descriptor.__get__")))
    (q_takes : PySem.W.takesIn K (.builtin "object.__class__") = some true)
    (q_cls : PySem.W.findIn K (.ref C_Arrangement) "__class__" = some (some (.builtin "object.__class__")))
    (q_mro : PySem.W.mroIn K C_Arrangement (.type "object") = some true)
    (q_me : PySem.W.kitOne K (.ref C_Arrangement) (.ref C_Arrangement) = some true)
    (q_ne : PySem.W.findIn K (.ref C_Arrangement) "__ne__" = some (some (.builtin "object.__ne__")))
    (q_self : PySem.W.selfFirst K C_Arrangement = true)
    (q_i1 : PySem.W.findIn K (.type "int") (PySem.dunder "add") = some (some (.builtin "int.__add__")))
    (q_i2 : PySem.W.findIn K (.type "int") (PySem.dunderR "add") = some (some (.builtin "int.__radd__")))
    (q_s2 : PySem.W.subIn K (.ref C_Arrangement) (.type "int") = some false)
    (q_fi : PySem.W.fnIn K f_Arrangement_call = true)
    (q_n_str : PySem.W.subIn K (.type "str") (.ref C_Arrangement) = some false)
    (q_n_dict : PySem.W.subIn K (.type "dict") (.ref C_Arrangement) = some false)
    (q_n_tuple : PySem.W.subIn K (.type "tuple") (.ref C_Arrangement) = some false)
    (q_n_int : PySem.W.subIn K (.type "int") (.ref C_Arrangement) = some false)
    (q_n_NoneType : PySem.W.subIn K (.type "NoneType") (.ref C_Arrangement) = some false)
    (q_k_str : PySem.W.kitOne K (.type "str") (.ref C_Arrangement) = some false)
    (q_k_dict : PySem.W.kitOne K (.type "dict") (.ref C_Arrangement) = some false)
    (q_k_tuple : PySem.W.kitOne K (.type "tuple") (.ref C_Arrangement) = some false)
    (q_k_int : PySem.W.kitOne K (.type "int") (.ref C_Arrangement) = some false)
    (q_k_NoneType : PySem.W.kitOne K (.type "NoneType") (.ref C_Arrangement) = some false)
    (z_len : PySem.W.nsIn K mainGlobals "len" = some none)
    (z_int : PySem.W.nsIn K mainGlobals "int" = some none)
    (z_abs : PySem.W.nsIn K mainGlobals "abs" = some none)
    (z_isinstance : PySem.W.nsIn K mainGlobals "isinstance" = some none)
    (z_str : PySem.W.nsIn K mainGlobals "str" = some none)
    (z_list : PySem.W.nsIn K mainGlobals "list" = some none)
    (z_range : PySem.W.nsIn K mainGlobals "range" = some none)
    (z_tuple : PySem.W.nsIn K mainGlobals "tuple" = some none)
    (z_bool : PySem.W.nsIn K mainGlobals "bool" = some none)
    (z_dict : PySem.W.nsIn K mainGlobals "dict" = some none)
    (z_sorted : PySem.W.nsIn K mainGlobals "sorted" = some none)
    (z_reversed : PySem.W.nsIn K mainGlobals "reversed" = some none) :
    ∃ fd : FuncData, (∀ (s : Shared) (v : Value), BindsTo s fd ⟨[v], []⟩ [("_law_script", v)]) ∧ ∀ base : Heap, K.In base → base.Ns mainGlobals mg → FnOk l.prog w K mg base CX0 7 fa fd ["_law_script"] (spLaw45 K) := by
  have e := hfa.symm.trans (PySem.W.mg_of X G a_law)
  cases e
  have n_len := PySem.W.mg_none_of X G z_len
  have n_int := PySem.W.mg_none_of X G z_int
  have n_abs := PySem.W.mg_none_of X G z_abs
  have n_isinstance := PySem.W.mg_none_of X G z_isinstance
  have n_str := PySem.W.mg_none_of X G z_str
  have n_list := PySem.W.mg_none_of X G z_list
  have n_range := PySem.W.mg_none_of X G z_range
  have n_tuple := PySem.W.mg_none_of X G z_tuple
  have n_bool := PySem.W.mg_none_of X G z_bool
  have n_dict := PySem.W.mg_none_of X G z_dict
  have n_sorted := PySem.W.mg_none_of X G z_sorted
  have n_reversed := PySem.W.mg_none_of X G z_reversed
  have TB : TxtB mg := ⟨n_len, n_int, n_abs⟩
  have TM : TxtM mg := ⟨n_range, n_len, n_str⟩
  have TS : TxtS mg := ⟨n_isinstance, n_bool, n_int, n_tuple, n_list, n_len⟩
  have TL : TxtL45 mg := ⟨n_list, n_reversed, n_isinstance, n_tuple, n_dict⟩
  have cl : Cls K C_Arrangement := ⟨pg_Arrangement, hd_Arrangement, po_Arrangement, sa_Arrangement⟩
  have ic : C8.InsC K C_Arrangement := ⟨cl, q_cls, q_get, q_takes, q_mro, q_me⟩
  have nf : ∀ {t : String}, PySem.W.subIn K (.type t) (.ref C_Arrangement) = some false → PySem.W.notFirst K C_Arrangement (.type t) = true := fun h => by unfold PySem.W.notFirst; rw [h]; simp
  have TF : EqF K C_Arrangement := ⟨q_ne, q_mro, by
    intro t ht
    simp only [List.mem_cons, List.not_mem_nil, or_false] at ht
    rcases ht with rfl | rfl | rfl | rfl | rfl
    · exact ⟨nf q_n_str, q_k_str⟩
    · exact ⟨nf q_n_dict, q_k_dict⟩
    · exact ⟨nf q_n_tuple, q_k_tuple⟩
    · exact ⟨nf q_n_int, q_k_int⟩
    · exact ⟨nf q_n_NoneType, q_k_NoneType⟩
    ⟩
  have A0 : AddF K C_Arrangement := ⟨q_self, ⟨_, i_Arrangement_radd⟩, ⟨_, q_i1⟩, ⟨_, q_i2⟩, q_n_int, q_s2⟩
  have TA : TxtA K mg C_Arrangement := ⟨cl, n_Arrangement_settings, n_Arrangement_stretches, PySem.W.mg_of X G a_Arrangement, n_dict, n_tuple, n_sorted, n_isinstance⟩
  have F_contains := fun_mk (st := sContains) l_contains c_contains k_contains
  have b_contains := F_contains.binds (ps := ["stretch", "setting"]) fun _ _ _ _ _ _ us hl => match us, hl with | [_, _], _ => rfl
  have F_moved := fun_mk (st := sMoved) l_moved c_moved k_moved
  have b_moved := F_moved.binds (ps := ["stretch", "distance"]) fun _ _ _ _ _ _ us hl => match us, hl with | [_, _], _ => rfl
  have F_turned := fun_mk (st := sTurned) l_turned c_turned k_turned
  have b_turned := F_turned.binds (ps := ["stretch"]) fun _ _ _ _ _ _ us hl => match us, hl with | [_], _ => rfl
  have F_law_bag := fun_mk (st := sBag) l_law_bag c_law_bag k_law_bag
  have b_law_bag := F_law_bag.binds (ps := ["_law_script"]) fun _ _ _ _ _ _ us hl => match us, hl with | [_], _ => rfl
  have F_law_take := fun_mk (st := sTake) l_law_take c_law_take k_law_take
  have b_law_take := F_law_take.binds (ps := ["_law_bag_here", "_law_size"]) fun _ _ _ _ _ _ us hl => match us, hl with | [_, _], _ => rfl
  have F_law_is := fun_mk (st := sLawIs) l_law_is c_law_is k_law_is
  have b_law_is := F_law_is.binds (ps := ["_law_value", "_law_due"]) fun _ _ _ _ _ _ us hl => match us, hl with | [_, _], _ => rfl
  have F_law_name := fun_mk (st := sLawName) l_law_name c_law_name k_law_name
  have b_law_name := F_law_name.binds (ps := ["_law_bag_here", "_law_used"]) fun _ _ _ _ _ _ us hl => match us, hl with | [_, _], _ => rfl
  have F_law_names := fun_mk (st := sLawNames) l_law_names c_law_names k_law_names
  have b_law_names := F_law_names.binds (ps := ["_law_bag_here", "_law_count"]) fun _ _ _ _ _ _ us hl => match us, hl with | [_, _], _ => rfl
  have F_law_glowing := fun_mk (st := sLawGlowing) l_law_glowing c_law_glowing k_law_glowing
  have b_law_glowing := F_law_glowing.binds (ps := ["_law_lamps", "_law_stretches", "_law_setting"]) fun _ _ _ _ _ _ us hl => match us, hl with | [_, _, _], _ => rfl
  have F_law_drawn_settings := fun_mk (st := sLawDrawnSettings) l_law_drawn_settings c_law_drawn_settings k_law_drawn_settings
  have b_law_drawn_settings := F_law_drawn_settings.binds (ps := ["_law_bag_here", "_law_looks"]) fun _ _ _ _ _ _ us hl => match us, hl with | [_, _], _ => rfl
  have F_law_drawn_stretches := fun_mk (st := sLawDrawnStretches) l_law_drawn_stretches c_law_drawn_stretches k_law_drawn_stretches
  have b_law_drawn_stretches := F_law_drawn_stretches.binds (ps := ["_law_bag_here", "_law_lamps"]) fun _ _ _ _ _ _ us hl => match us, hl with | [_, _], _ => rfl
  have F_law_moved := fun_mk (st := sLawMoved) l_law_moved c_law_moved k_law_moved
  have b_law_moved := F_law_moved.binds (ps := ["_law_stretches", "_law_by"]) fun _ _ _ _ _ _ us hl => match us, hl with | [_, _], _ => rfl
  have F_law_turned := fun_mk (st := sLawTurned) l_law_turned c_law_turned k_law_turned
  have b_law_turned := F_law_turned.binds (ps := ["_law_stretches"]) fun _ _ _ _ _ _ us hl => match us, hl with | [_], _ => rfl
  have F_law_shifted := fun_mk (st := sLawShifted) l_law_shifted c_law_shifted k_law_shifted
  have b_law_shifted := F_law_shifted.binds (ps := ["_law_settings", "_law_sign", "_law_by"]) fun _ _ _ _ _ _ us hl => match us, hl with | [_, _, _], _ => rfl
  have F_law_is_made := fun_mk (st := sLawIsMade) l_law_is_made c_law_is_made k_law_is_made
  have b_law_is_made := F_law_is_made.binds (ps := ["_law_made", "_law_settings", "_law_stretches"]) fun _ _ _ _ _ _ us hl => match us, hl with | [_, _, _], _ => rfl
  have F_Arrangement_init := fun_mk (st := sArrangementInit) l_Arrangement_init c_Arrangement_init k_Arrangement_init
  have b_Arrangement_init := F_Arrangement_init.binds (ps := ["self", "settings", "stretches"]) fun _ _ _ _ _ _ us hl => match us, hl with | [_, _, _], _ => rfl
  have F_Arrangement_call := fun_mk (st := sArrangementCall) l_Arrangement_call c_Arrangement_call k_Arrangement_call
  have b_Arrangement_call := F_Arrangement_call.binds (ps := ["self", "setting"]) fun _ _ _ _ _ _ us hl => match us, hl with | [_, _], _ => rfl
  have F_Arrangement_add := fun_mk (st := sArrangementAdd) l_Arrangement_add c_Arrangement_add k_Arrangement_add
  have b_Arrangement_add := F_Arrangement_add.binds (ps := ["self", "other"]) fun _ _ _ _ _ _ us hl => match us, hl with | [_, _], _ => rfl
  have F_Arrangement_radd := fun_mk (st := sArrangementRadd) l_Arrangement_radd c_Arrangement_radd k_Arrangement_radd
  have b_Arrangement_radd := F_Arrangement_radd.binds (ps := ["self", "other"]) fun _ _ _ _ _ _ us hl => match us, hl with | [_, _], _ => rfl
  have F_Arrangement_neg := fun_mk (st := sArrangementNeg) l_Arrangement_neg c_Arrangement_neg k_Arrangement_neg
  have b_Arrangement_neg := F_Arrangement_neg.binds (ps := ["self"]) fun _ _ _ _ _ _ us hl => match us, hl with | [_], _ => rfl
  have F_Arrangement_eq := fun_mk (st := sArrangementEq) l_Arrangement_eq c_Arrangement_eq k_Arrangement_eq
  have b_Arrangement_eq := F_Arrangement_eq.binds (ps := ["self", "other"]) fun _ _ _ _ _ _ us hl => match us, hl with | [_, _], _ => rfl
  have main : ∀ base : Heap, ArrM l.prog w K mg base C_Arrangement := fun base => ⟨TA, _, _, ⟨mk_Arrangement, i_Arrangement_init, fn_Arrangement_init, kc_Arrangement⟩, ok_arrinit F_Arrangement_init TA, b_Arrangement_init⟩
  have oA : ∀ base : Heap, OwnM l.prog w K mg base C_Arrangement "__add__" 3 ["self", "other"] (spArrAdd K C_Arrangement) := fun base => ⟨_, _, i_Arrangement_add, fn_Arrangement_add, b_Arrangement_add, ok_arradd F_Arrangement_add (main base) ⟨_, _, PySem.W.mg_of X G a_moved, F_moved.kp, b_moved, ok_moved F_moved⟩⟩
  refine ⟨_, fun s v => .of_eq rfl, fun base _ _ => ok_law45 (fun_mk (st := sLaw) l_law c_law k_law) TL (main base) TF ic A0 ?_ ?_ ?_ ?_ ?_ ?_ ?_ ?_ ?_ ?_ ?_ (oA base) ?_ ?_ ?_ ?_⟩
  · exact ⟨_, _, PySem.W.mg_of X G a_law_bag, F_law_bag.kp, b_law_bag, ok_bag F_law_bag TB⟩
  · exact ⟨_, _, PySem.W.mg_of X G a_law_take, F_law_take.kp, b_law_take, ok_take F_law_take TB⟩
  · have gT : Dfn l.prog w K mg base CX0 1 "_law_take" ["_law_bag_here", "_law_size"] spTake := ⟨_, _, PySem.W.mg_of X G a_law_take, F_law_take.kp, b_law_take, ok_take F_law_take TB⟩
    have g1 : Dfn l.prog w K mg base CX0 2 "_law_name" ["_law_bag_here", "_law_used"] spName := ⟨_, _, PySem.W.mg_of X G a_law_name, F_law_name.kp, b_law_name, ok_name F_law_name TM gT⟩
    exact ⟨_, _, PySem.W.mg_of X G a_law_names, F_law_names.kp, b_law_names, ok_names F_law_names TM g1⟩
  · have gT : Dfn l.prog w K mg base CX0 1 "_law_take" ["_law_bag_here", "_law_size"] spTake := ⟨_, _, PySem.W.mg_of X G a_law_take, F_law_take.kp, b_law_take, ok_take F_law_take TB⟩
    exact ⟨_, _, PySem.W.mg_of X G a_law_drawn_settings, F_law_drawn_settings.kp, b_law_drawn_settings, ok_dsets F_law_drawn_settings gT⟩
  · have gT : Dfn l.prog w K mg base CX0 1 "_law_take" ["_law_bag_here", "_law_size"] spTake := ⟨_, _, PySem.W.mg_of X G a_law_take, F_law_take.kp, b_law_take, ok_take F_law_take TB⟩
    exact ⟨_, _, PySem.W.mg_of X G a_law_drawn_stretches, F_law_drawn_stretches.kp, b_law_drawn_stretches, ok_dstrs F_law_drawn_stretches gT⟩
  · exact ⟨_, _, PySem.W.mg_of X G a_law_is, F_law_is.kp, b_law_is, ok_is F_law_is TS⟩
  · exact ⟨_, _, PySem.W.mg_of X G a_law_glowing, F_law_glowing.kp, b_law_glowing, ok_glowing F_law_glowing TA⟩
  · exact ⟨_, _, PySem.W.mg_of X G a_law_is_made, F_law_is_made.kp, b_law_is_made, ok_ismade F_law_is_made TA ic⟩
  · exact ⟨_, _, PySem.W.mg_of X G a_law_moved, F_law_moved.kp, b_law_moved, ok_lmoved F_law_moved⟩
  · exact ⟨_, _, PySem.W.mg_of X G a_law_turned, F_law_turned.kp, b_law_turned, ok_lturned F_law_turned⟩
  · exact ⟨_, _, PySem.W.mg_of X G a_law_shifted, F_law_shifted.kp, b_law_shifted, ok_lshifted F_law_shifted⟩
  · exact ⟨_, _, i_Arrangement_radd, fn_Arrangement_radd, b_Arrangement_radd, ok_arrradd F_Arrangement_radd A0 (oA base)⟩
  · exact ⟨_, _, i_Arrangement_neg, fn_Arrangement_neg, b_Arrangement_neg, ok_arrneg F_Arrangement_neg (main base) ⟨_, _, PySem.W.mg_of X G a_turned, F_turned.kp, b_turned, ok_turned F_turned⟩⟩
  · exact ⟨_, _, i_Arrangement_eq, fn_Arrangement_eq, b_Arrangement_eq, ok_arreq F_Arrangement_eq TA ic⟩
  · exact ⟨_, _, ⟨i_Arrangement_call, fn_Arrangement_call, q_fi⟩, b_Arrangement_call, ok_arrcall F_Arrangement_call TA ⟨_, _, PySem.W.mg_of X G a_contains, F_contains.kp, b_contains, ok_contains F_contains⟩⟩
theorem walk {l : PySem.W.OpenLaw} {q : Program} {loose : List Str} {XP : (Str → Option Value) → Heap → Prop} {YP : World → Heap → Prop} {d : DefRec} {K : Params → PySem.W.Frag} (hn : l.most = some 63) (hdf : d.params.defaults = [])
    (hY : ∀ (w : World) (h : Heap), YP w h → (K w.params).In h)
    (F : ∀ (w : World) (mg : Str → Option Value) (fa : Addr) (h : Heap), (K w.params).In h → h.Ns mainGlobals mg → mg d.name = some (.ref fa) →
      ∃ fd : FuncData, (∀ (s : Shared) (u : Value), BindsTo s fd ⟨[u], []⟩ [("_law_script", u)]) ∧ ∀ base : Heap, (K w.params).In base → base.Ns mainGlobals mg → FnOk l.prog w (K w.params) mg base CX0 7 fa fd ["_law_script"] (spLaw45 (K w.params))) :
    PySem.W.WalkO q loose XP YP l.row.toRowW d [] (fun f vs => PySem.call f vs) :=
  walk_of (n := 63) (k := 7) (x := "_law_script") (CX := fun _ => CX0) (sp := fun w => spLaw45 (K w.params)) hn (by decide) hdf ⟨rfl, by decide, by decide⟩ hY F
    (fun _ _ a ns hl _ hS => ⟨a, ns, rfl, hS, hl, fun _ => rfl⟩) fun _ _ _ _ _ z => z
end Dl

open PySem PySem.W PyProof.Rows in
set_option maxRecDepth 100000 in
set_option maxHeartbeats 0 in
theorem PySem.Challenge.cw_dimmerlog_k45_arrangements_holds : PySem.Challenge.rw_dimmerlog_k45_arrangements.Holds := by
  w_on; o_law; k_head; (case hw => w_witness2)
  k_fill
  refine Dl.walk (l := PySem.Challenge.rw_dimmerlog_k45_arrangements) rfl rfl (fun w h Y => PySem.W.kIn_of Y) ?F
  case F =>
    intro w mg fa h KX G hmg
    refine' Dl.all_mk KX G hmg ?a_contains ?l_contains ?c_contains ?k_contains ?a_moved ?l_moved ?c_moved ?k_moved ?a_turned ?l_turned ?c_turned ?k_turned ?a_law_bag ?l_law_bag ?c_law_bag ?k_law_bag ?a_law_take ?l_law_take ?c_law_take ?k_law_take ?a_law_is ?l_law_is ?c_law_is ?k_law_is ?a_law_name ?l_law_name ?c_law_name ?k_law_name ?a_law_names ?l_law_names ?c_law_names ?k_law_names ?a_law_glowing ?l_law_glowing ?c_law_glowing ?k_law_glowing ?a_law_drawn_settings ?l_law_drawn_settings ?c_law_drawn_settings ?k_law_drawn_settings ?a_law_drawn_stretches ?l_law_drawn_stretches ?c_law_drawn_stretches ?k_law_drawn_stretches ?a_law_moved ?l_law_moved ?c_law_moved ?k_law_moved ?a_law_turned ?l_law_turned ?c_law_turned ?k_law_turned ?a_law_shifted ?l_law_shifted ?c_law_shifted ?k_law_shifted ?a_law_is_made ?l_law_is_made ?c_law_is_made ?k_law_is_made ?a_law ?l_law ?c_law ?k_law ?a_Arrangement ?pg_Arrangement ?hd_Arrangement ?po_Arrangement ?sa_Arrangement ?mk_Arrangement ?kc_Arrangement ?n_Arrangement_settings ?n_Arrangement_stretches ?i_Arrangement_init ?fn_Arrangement_init ?l_Arrangement_init ?c_Arrangement_init ?k_Arrangement_init ?i_Arrangement_call ?fn_Arrangement_call ?l_Arrangement_call ?c_Arrangement_call ?k_Arrangement_call ?i_Arrangement_add ?fn_Arrangement_add ?l_Arrangement_add ?c_Arrangement_add ?k_Arrangement_add ?i_Arrangement_radd ?fn_Arrangement_radd ?l_Arrangement_radd ?c_Arrangement_radd ?k_Arrangement_radd ?i_Arrangement_neg ?fn_Arrangement_neg ?l_Arrangement_neg ?c_Arrangement_neg ?k_Arrangement_neg ?i_Arrangement_eq ?fn_Arrangement_eq ?l_Arrangement_eq ?c_Arrangement_eq ?k_Arrangement_eq ?q_get ?q_takes ?q_cls ?q_mro ?q_me ?q_ne ?q_self ?q_i1 ?q_i2 ?q_s2 ?q_fi ?q_n_str ?q_n_dict ?q_n_tuple ?q_n_int ?q_n_NoneType ?q_k_str ?q_k_dict ?q_k_tuple ?q_k_int ?q_k_NoneType ?z_len ?z_int ?z_abs ?z_isinstance ?z_str ?z_list ?z_range ?z_tuple ?z_bool ?z_dict ?z_sorted ?z_reversed
    (case a_contains => k_is)
    (case l_contains => k_is)
    (case c_contains => k_is)
    (case k_contains => k_is)
    (case a_moved => k_is)
    (case l_moved => k_is)
    (case c_moved => k_is)
    (case k_moved => k_is)
    (case a_turned => k_is)
    (case l_turned => k_is)
    (case c_turned => k_is)
    (case k_turned => k_is)
    (case a_law_bag => k_is)
    (case l_law_bag => k_is)
    (case c_law_bag => k_is)
    (case k_law_bag => k_is)
    (case a_law_take => k_is)
    (case l_law_take => k_is)
    (case c_law_take => k_is)
    (case k_law_take => k_is)
    (case a_law_is => k_is)
    (case l_law_is => k_is)
    (case c_law_is => k_is)
    (case k_law_is => k_is)
    (case a_law_name => k_is)
    (case l_law_name => k_is)
    (case c_law_name => k_is)
    (case k_law_name => k_is)
    (case a_law_names => k_is)
    (case l_law_names => k_is)
    (case c_law_names => k_is)
    (case k_law_names => k_is)
    (case a_law_glowing => k_is)
    (case l_law_glowing => k_is)
    (case c_law_glowing => k_is)
    (case k_law_glowing => k_is)
    (case a_law_drawn_settings => k_is)
    (case l_law_drawn_settings => k_is)
    (case c_law_drawn_settings => k_is)
    (case k_law_drawn_settings => k_is)
    (case a_law_drawn_stretches => k_is)
    (case l_law_drawn_stretches => k_is)
    (case c_law_drawn_stretches => k_is)
    (case k_law_drawn_stretches => k_is)
    (case a_law_moved => k_is)
    (case l_law_moved => k_is)
    (case c_law_moved => k_is)
    (case k_law_moved => k_is)
    (case a_law_turned => k_is)
    (case l_law_turned => k_is)
    (case c_law_turned => k_is)
    (case k_law_turned => k_is)
    (case a_law_shifted => k_is)
    (case l_law_shifted => k_is)
    (case c_law_shifted => k_is)
    (case k_law_shifted => k_is)
    (case a_law_is_made => k_is)
    (case l_law_is_made => k_is)
    (case c_law_is_made => k_is)
    (case k_law_is_made => k_is)
    (case a_law => k_is)
    (case l_law => k_is)
    (case c_law => k_is)
    (case k_law => k_is)
    (case a_Arrangement => k_is)
    (case pg_Arrangement => k_is)
    (case hd_Arrangement => k_is)
    (case po_Arrangement => k_is)
    (case sa_Arrangement => k_is)
    (case mk_Arrangement => k_is)
    (case kc_Arrangement => k_is)
    (case n_Arrangement_settings => k_is)
    (case n_Arrangement_stretches => k_is)
    (case i_Arrangement_init => k_is)
    (case fn_Arrangement_init => k_is)
    (case l_Arrangement_init => k_is)
    (case c_Arrangement_init => k_is)
    (case k_Arrangement_init => k_is)
    (case i_Arrangement_call => k_is)
    (case fn_Arrangement_call => k_is)
    (case l_Arrangement_call => k_is)
    (case c_Arrangement_call => k_is)
    (case k_Arrangement_call => k_is)
    (case i_Arrangement_add => k_is)
    (case fn_Arrangement_add => k_is)
    (case l_Arrangement_add => k_is)
    (case c_Arrangement_add => k_is)
    (case k_Arrangement_add => k_is)
    (case i_Arrangement_radd => k_is)
    (case fn_Arrangement_radd => k_is)
    (case l_Arrangement_radd => k_is)
    (case c_Arrangement_radd => k_is)
    (case k_Arrangement_radd => k_is)
    (case i_Arrangement_neg => k_is)
    (case fn_Arrangement_neg => k_is)
    (case l_Arrangement_neg => k_is)
    (case c_Arrangement_neg => k_is)
    (case k_Arrangement_neg => k_is)
    (case i_Arrangement_eq => k_is)
    (case fn_Arrangement_eq => k_is)
    (case l_Arrangement_eq => k_is)
    (case c_Arrangement_eq => k_is)
    (case k_Arrangement_eq => k_is)
    (case q_get => (first | k_is | rfl))
    (case q_takes => (first | k_is | rfl))
    (case q_cls => k_is)
    (case q_mro => (first | k_is | rfl))
    (case q_me => (first | k_is | rfl))
    (case q_ne => (first | k_is | rfl))
    (case q_self => (first | k_is | rfl))
    (case q_i1 => (first | k_is | rfl))
    (case q_i2 => (first | k_is | rfl))
    (case q_s2 => (first | k_is | rfl))
    (case q_fi => (first | k_is | rfl))
    (case q_n_str => (first | k_is | rfl))
    (case q_n_dict => (first | k_is | rfl))
    (case q_n_tuple => (first | k_is | rfl))
    (case q_n_int => (first | k_is | rfl))
    (case q_n_NoneType => (first | k_is | rfl))
    (case q_k_str => (first | k_is | rfl))
    (case q_k_dict => (first | k_is | rfl))
    (case q_k_tuple => (first | k_is | rfl))
    (case q_k_int => (first | k_is | rfl))
    (case q_k_NoneType => (first | k_is | rfl))
    (case z_len => k_is)
    (case z_int => k_is)
    (case z_abs => k_is)
    (case z_isinstance => k_is)
    (case z_str => k_is)
    (case z_list => k_is)
    (case z_range => k_is)
    (case z_tuple => k_is)
    (case z_bool => k_is)
    (case z_dict => k_is)
    (case z_sorted => k_is)
    (case z_reversed => k_is)
