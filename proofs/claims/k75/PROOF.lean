import PyProof.Rows.All
import Wide.All
import OpenK.AllK
import Wide.FinOn
import HandS.ForMost
import HandS.Exc
import HandS.TryOnly
import HandS.ExcOwn
import HandS.WordsExc
import HandS.ExcInit
import HandS.ExcField
import HandS.IsInst
import HandS.Walk
import HandS.Conv
import HandS.Wide
import HandS.TryMany
import HandS.CallSlots
import HandS.Flow
import HandS.Deep
import HandS.Star
import HandS.MethStar
import HandS.ExcIs
import HandS.Rev
import HandS.More
import KE.GoesEnum
import KE.GoesMore
import HandS.ListEq
import HandS.DictEq
import HandS.DeepEq
import HandS.OwnEq
import HandS.Codes
import KE.KExcIs
import PySem.Challenge.RW_dimmerlog_k75_refused_looks
set_option Elab.async false
set_option linter.all false
set_option maxRecDepth 100000
set_option maxHeartbeats 4000000
namespace Dl
open PySem L2
def top (i : Nat) : Stmt := PySem.Challenge.pw_dimmerlog_k75_refused_looks.main.body.getD i (.Pass ⟨0, 0, 0, 0⟩)
abbrev sWall : Stmt := top 0
abbrev sInv : Stmt := inClass (top 3) 0
abbrev sDup : Stmt := inClass (top 4) 0
abbrev sUnk : Stmt := inClass (top 5) 0
abbrev sLine : Stmt := inClass (top 6) 0
abbrev sMany : Stmt := inClass (top 7) 0
abbrev sIsName : Stmt := top 11
abbrev sCheckName : Stmt := top 12
abbrev sCheckNew : Stmt := top 13
abbrev sCheckKnown : Stmt := top 14
abbrev sCheckAll : Stmt := top 15
abbrev sDistinct : Stmt := top 16
abbrev sTabInit : Stmt := inClass (top 19) 0
abbrev sTableRead : Stmt := inClass (top 19) 1
abbrev sTableStr : Stmt := inClass (top 19) 2
abbrev sTableGetitem : Stmt := inClass (top 19) 3
abbrev sTableIter : Stmt := inClass (top 19) 4
abbrev sTableLen : Stmt := inClass (top 19) 5
abbrev sTableEq : Stmt := inClass (top 19) 6
abbrev sTableShown : Stmt := inClass (top 19) 7
abbrev sTableSeen : Stmt := inClass (top 19) 8
abbrev sTableRows : Stmt := inClass (top 19) 9
abbrev sTableWithout : Stmt := inClass (top 19) 10
abbrev sTableOnly : Stmt := inClass (top 19) 11
abbrev sTableWithLook : Stmt := inClass (top 19) 12
abbrev sTableExchanged : Stmt := inClass (top 19) 13
abbrev sTableAlike : Stmt := inClass (top 19) 14
abbrev sTableGroups : Stmt := inClass (top 19) 15
abbrev sCheckShown : Stmt := top 20
abbrev sChosen : Stmt := top 21
abbrev sReadLamps : Stmt := top 22
abbrev sReadLook : Stmt := top 23
abbrev sBag : Stmt := top 25
abbrev sTake : Stmt := top 26
abbrev sLawName : Stmt := top 27
abbrev sLawNames : Stmt := top 28
abbrev sLawFault : Stmt := top 29
abbrev sLawNamesDue : Stmt := top 30
abbrev sLawDue : Stmt := top 31
abbrev sLawOddName : Stmt := top 32
abbrev sLawWidened : Stmt := top 33
abbrev sLawTold : Stmt := top 34
abbrev sLaw : Stmt := top 35
end Dl

/-! The bag of draws: _law_bag, _law_take. -/
namespace Dl
open PySem L2

/-! ### the mathematics of the bag -/
structure BagOk (L : List Int) : Prop where
  ex : ∃ (s d : Int) (r : List Int), L = s :: d :: r ∧ 0 ≤ s ∧ s < 2147483647 ∧ 0 ≤ d ∧ ∀ x ∈ r, 0 ≤ x
theorem BagOk.put0 {d : Int} {r : List Int} (x : Int) (hd : 0 ≤ d) (hr : ∀ x ∈ r, 0 ≤ x) : BagOk (x % 2147483647 :: d :: r) :=
  ⟨_, _, _, rfl, Int.emod_nonneg _ (by decide), Int.emod_lt_of_pos _ (by decide), hd, hr⟩

/-- the names that the two defs read -/
structure TxtB (mg : Str → Option Value) : Prop where
  len : mg "len" = none
  int : mg "int" = none
  abs : mg "abs" = none

def spTake : Sp := fun vs H Q _ => ∃ (b : Addr) (L : List Int) (n : Int), vs = [.ref b, .int n] ∧ H b = some (.lst (L.map V.int)) ∧ BagOk L ∧ 1 ≤ n ∧ n < 1000000 ∧
  ∀ (L' : List Int) (r : Int), BagOk L' → 0 ≤ r → r < n → Q (.int r) (upd H b (.lst (L'.map V.int)))
section
variable {P : Program} {w : World} {K : PySem.W.Frag} {mg : Str → Option Value} {base : Heap}
theorem scTake : FnScope ["_law_bag_here", "_law_size", "_law_cell", "_law_digit"] ["_law_bag_here", "_law_size"] (defScope sTake) := ⟨rfl, rfl, rfl, by decide +kernel, rfl, by decide +kernel, by decide +kernel⟩
theorem upd_upd {H : Hp} {a : Addr} {o u : HO} : upd (upd H a o) a u = upd H a u := by
  funext b
  by_cases h : b = a
  · subst h; rw [upd_same, upd_same]
  · rw [upd_ne h, upd_ne h, upd_ne h]
theorem upd_id {H : Hp} {a : Addr} {o : HO} (h : H a = some o) : upd H a o = H := by
  funext b
  by_cases e : b = a
  · subst e; rw [upd_same, h]
  · rw [upd_ne e]
theorem ix_at {n j : Nat} (h : j < n) : ixN n (j : Int) = some j := by
  unfold ixN
  rw [if_pos (by omega), if_pos (by omega)]; simp
theorem ok_take {f : Addr} {fd : FuncData} (F : Fun K "_law_take" "_law_take" sTake f fd) (T : TxtB mg) : FnOk P w K mg base CX0 1 f fd ["_law_bag_here", "_law_size"] spTake := by
  refine F.ok scTake (fun vs H Q E h => ?_) (fun cdv A outer s H vs Q E hr h => ?_)
  · obtain ⟨b, L, n, rfl, _⟩ := h
    rfl
  · obtain ⟨b, L, n, rfl, hb, ⟨z, d, r, rfl, hz0, hz1, hd0, hr0⟩, hn1, hn2, k⟩ := h
    refine ⟨_, pss_cons (ps_if (PW.pt (pw_and (pt_cmpR op_eq (pe_ix ix_list (pv 0) pe_int (fun _ _ => rfl)) pe_int (nomark _)) (pw_and1 (pt_cmpR op_gt (pe_callB call_len_seq (by rfl) T.len PySem.boot_len (pa_cons (pv 0) pa_nil)) pe_int (nomark _)))))
        (pss_cons (ps_set (i := 2) scTake.nd rfl (Or.inl rfl) (pe_bm PySem.F.plainAttrs_list PySem.F.slot_list_pop PySem.F.type_list_pop mt_popAt (pv 0) (pa_cons pe_int pa_nil)))
        (pss_one (ps_if (pt_cmpR op_ge (pv 2) (pe_op op_pow pe_int pe_int) (nomark _))
          (pss_one (ps_asg (pv 2) (pg_sub (pv 0) pe_int set_list)))
          (pss_cons (ps_asg (pe_op op_mod (pe_callTy call_int1 (by rfl) T.int (by decide +kernel) (pa_cons (pe_op op_add (pe_op op_add (pe_op op_mul (pe_ix ix_list (pv 0) pe_int (fun _ _ => rfl)) pe_int) (pe_op op_mul (pv 2) pe_int)) pe_int) pa_nil)) pe_int) (pg_sub (pv 0) pe_int set_list))
          (pss_one (ps_ret (pe_op op_mod (pe_callTy call_int1 (by rfl) T.int (by decide +kernel) (pa_cons (pe_op op_fdiv (pe_op op_add (pe_op op_mul (pe_ix ix_list (pv 0) pe_int (fun _ _ => rfl)) pe_int) pe_int) pe_int) pa_nil)) (pv 1))))))))
        pss_nil)
      (pss_cons (ps_if (pt_cmpR op_gt (pe_ix ix_list (pv 0) pe_int (fun _ _ => rfl)) pe_int (nomark _))
        (pss_cons (ps_set (i := 3) scTake.nd rfl (Or.inl rfl) (pe_op op_mod (pe_callTy call_int1 (by rfl) T.int (by decide +kernel) (pa_cons (pe_ix ix_list (pv 0) pe_int (fun _ _ => rfl)) pa_nil)) (pv 1)))
        (pss_cons (ps_asg (pe_op op_fdivW (pe_ix ix_list (pv 0) pe_int (fun _ _ => rfl)) (pv 1)) (pg_sub (pv 0) pe_int set_list))
        (pss_one (ps_ret (pv 3)))))
        pss_nil)
      (pss_cons (ps_asg (pe_op op_mod (pe_callTy call_int1 (by rfl) T.int (by decide +kernel) (pa_cons (pe_op op_mul (pe_ix ix_list (pv 0) pe_int (fun _ _ => rfl)) pe_int) pa_nil)) pe_int) (pg_sub (pv 0) pe_int set_list))
      (pss_one (ps_ret (pe_op op_mod (pe_callTy call_int1 (by rfl) T.int (by decide +kernel) (pa_cons (pe_op op_fdiv (pe_ix ix_list (pv 0) pe_int (fun _ _ => rfl)) pe_int) pa_nil)) (pv 1)))))), ?_⟩
    -- bag[1] == 0 and len(bag) > 2
    refine ⟨_, rfl, b, _, _, _, rfl, rfl, SqL.of hb, (atI_nat (j := 1) rfl), rfl, _, rfl, ?_⟩
    refine ite2 (fun e => ?_) (fun e => ?_)
    · refine ⟨_, rfl, b, _, rfl, .inl (SqL.of hb), _, _, rfl, rfl, _, rfl, ?_⟩
      refine ite2 (fun e2 => ?_) (fun e2 => ?_)
      · -- cell = bag.pop(2)
        have hl : 2 < (z :: d :: r).length := by
          have q := of_decide_eq_true e2
          have q2 : ((2 : Int) < (((z :: d :: r).map V.int).length : Nat)) := q
          rw [List.length_map] at q2
          omega
        match r, hr0, hb, k, hl with
        | [], _, _, _, hl => exact absurd hl (by simp)
        | c :: r, hr0, hb, k, _ =>
        have hc0 : 0 ≤ c := hr0 c (List.mem_cons_self ..)
        have hr1 : ∀ x ∈ r, 0 ≤ x := fun x hx => hr0 x (List.mem_cons_of_mem _ hx)
        have hsq : seqIndex? (2 : Int) ((z :: d :: c :: r).map V.int).length = some 2 := by
          have q : ((z :: d :: c :: r).map V.int).length = r.length + 3 := by simp
          rw [q]
          unfold seqIndex?
          simp
          omega
        refine ⟨_, rfl, .inl ⟨rfl, _, SqL.of hb⟩, b, _, 2, 2, _, rfl, rfl, hb, by decide, by decide, hsq, rfl, ?_⟩
        refine ⟨_, rfl, _, _, rfl, rfl, ⟨by decide, by decide, by decide⟩, _, _, rfl, rfl, _, rfl, ?_⟩
        refine ite2 (fun e4 => ?_) (fun e4 => ?_)
        · refine ⟨_, rfl, _, rfl, b, _, _, 1, rfl, rfl, upd_same, ix_at (j := 1) (by simp), ?_⟩
          have hd1 : 0 ≤ c := hc0
          have hz1' := hz0
          have hz1'' := hz1
          have k1 : ∀ (L' : List Int) (x : Int), BagOk L' → 0 ≤ x → x < n → Q (.int x) (upd (upd (upd H b (HO.lst ((z :: d :: r).map V.int))) b (HO.lst ((z :: c :: r).map V.int))) b (.lst (L'.map V.int))) := fun L' x h1 h2 h3 => by
            rw [upd_upd, upd_upd]
            exact k L' x h1 h2 h3
          have hb1 : (upd (upd H b (HO.lst ((z :: d :: r).map V.int))) b (HO.lst ((z :: c :: r).map V.int))) b = some (.lst ((z :: c :: r).map V.int)) := upd_same
          refine ⟨_, rfl, b, _, _, _, rfl, rfl, SqL.of hb1, (atI_nat (j := 1) rfl), _, _, rfl, rfl, _, rfl, ?_⟩
          refine ite2 (fun e3 => ?_) (fun e3 => ?_)
          · refine ⟨_, rfl, b, _, _, _, rfl, rfl, SqL.of hb1, (atI_nat (j := 1) rfl), .inl ⟨_, rfl, ?_⟩⟩
            refine ⟨_, rfl, _, _, rfl, rfl, (by show (0 : Int) < n; omega), ?_⟩
            refine ⟨_, rfl, b, _, _, _, rfl, rfl, SqL.of hb1, (atI_nat (j := 1) rfl), _, rfl, _, _, rfl, rfl, wide_div (b := 20) (by show (0 : Int) < n; omega) (by show n.natAbs < 2 ^ 20; omega) (by decide) (by decide), ?_⟩
            refine ⟨_, rfl, b, _, _, 1, rfl, rfl, hb1, ix_at (j := 1) (by simp), ?_⟩
            refine ⟨_, rfl, ?_⟩
            exact k1 (z :: (c / n) :: r) _ ⟨_, _, _, rfl, hz1', hz1'', Int.ediv_nonneg hd1 (by omega), hr1⟩ (Int.emod_nonneg _ (by omega)) (Int.emod_lt_of_pos _ (by omega))
          · refine ⟨_, rfl, b, _, _, _, rfl, rfl, SqL.of hb1, (atI_nat (j := 0) rfl), _, _, rfl, rfl, .inl ⟨by show -(2 ^ 64) < z; omega, by show z < 2 ^ 64; omega⟩, .inl ⟨_, rfl, ?_⟩⟩
            refine ⟨_, _, rfl, rfl, (by show (0 : Int) < 2147483647; decide), ?_⟩
            refine ⟨_, rfl, b, _, _, 0, rfl, rfl, hb1, ix_at (j := 0) (by simp), ?_⟩
            refine ⟨_, rfl, b, _, _, _, rfl, rfl, SqL.of upd_same, (atI_nat (j := 0) rfl), _, _, rfl, rfl, ⟨by decide, by decide⟩, .inl ⟨_, rfl, ?_⟩⟩
            refine ⟨_, rfl, _, _, rfl, rfl, (by show (0 : Int) < n; omega), ?_⟩
            exact k1 (z * 48271 % 2147483647 :: c :: r) _ (BagOk.put0 _ hd1 hr1) (Int.emod_nonneg _ (by omega)) (Int.emod_lt_of_pos _ (by omega))
        · have hc1 : c < 10 ^ 18 := by
            have q := of_decide_eq_false (p := ((10 : Int) ^ (18 : Int).toNat ≤ c)) (by simpa using e4)
            have q2 : (10 : Int) ^ (18 : Int).toNat = 1000000000000000000 := by decide
            omega
          refine ⟨_, rfl, b, _, _, _, rfl, rfl, SqL.of upd_same, (atI_nat (j := 0) rfl), _, _, rfl, rfl, .inl ⟨by show -(2 ^ 64) < z; omega, by show z < 2 ^ 64; omega⟩, ?_⟩
          refine ⟨_, rfl, _, _, rfl, rfl, .inl ⟨by show -(2 ^ 64) < c; omega, by show c < 2 ^ 64; omega⟩, _, _, rfl, rfl, _, _, rfl, rfl, .inl ⟨_, rfl, ?_⟩⟩
          refine ⟨_, _, rfl, rfl, (by show (0 : Int) < 2147483647; decide), ?_⟩
          refine ⟨_, rfl, b, _, _, 0, rfl, rfl, upd_same, ix_at (j := 0) (by simp), ?_⟩
          refine ⟨_, rfl, b, _, _, _, rfl, rfl, SqL.of upd_same, (atI_nat (j := 0) rfl), _, _, rfl, rfl, .inl ⟨?_, ?_⟩, _, _, rfl, rfl, _, _, rfl, rfl, ⟨by decide, by decide⟩, .inl ⟨_, rfl, ?_⟩⟩
          · have q := Int.emod_nonneg (z * 48271 + c * 69621 + 11) (show (2147483647 : Int) ≠ 0 by decide)
            show -(2 ^ 64) < (z * 48271 + c * 69621 + 11) % 2147483647
            omega
          · have q := Int.emod_lt_of_pos (z * 48271 + c * 69621 + 11) (show (0 : Int) < 2147483647 by decide)
            show (z * 48271 + c * 69621 + 11) % 2147483647 < 2 ^ 64
            omega
          refine ⟨_, rfl, _, _, rfl, rfl, (by show (0 : Int) < n; omega), ?_⟩
          have q := k ((z * 48271 + c * 69621 + 11) % 2147483647 :: d :: r) _ (BagOk.put0 _ hd0 hr1) (Int.emod_nonneg (((z * 48271 + c * 69621 + 11) % 2147483647 * 16807 + 7919) / 16) (show n ≠ 0 by omega)) (Int.emod_lt_of_pos _ (by omega))
          rw [← upd_upd] at q
          exact q
      · have hb1 := hb
        have k1 := k
        have hz1' := hz0
        have hz1'' := hz1
        have hd1 := hd0
        have hr1 := hr0
        refine ⟨_, rfl, b, _, _, _, rfl, rfl, SqL.of hb1, (atI_nat (j := 1) rfl), _, _, rfl, rfl, _, rfl, ?_⟩
        refine ite2 (fun e3 => ?_) (fun e3 => ?_)
        · refine ⟨_, rfl, b, _, _, _, rfl, rfl, SqL.of hb1, (atI_nat (j := 1) rfl), .inl ⟨_, rfl, ?_⟩⟩
          refine ⟨_, rfl, _, _, rfl, rfl, (by show (0 : Int) < n; omega), ?_⟩
          refine ⟨_, rfl, b, _, _, _, rfl, rfl, SqL.of hb1, (atI_nat (j := 1) rfl), _, rfl, _, _, rfl, rfl, wide_div (b := 20) (by show (0 : Int) < n; omega) (by show n.natAbs < 2 ^ 20; omega) (by decide) (by decide), ?_⟩
          refine ⟨_, rfl, b, _, _, 1, rfl, rfl, hb1, ix_at (j := 1) (by simp), ?_⟩
          refine ⟨_, rfl, ?_⟩
          exact k1 (z :: (d / n) :: r) _ ⟨_, _, _, rfl, hz1', hz1'', Int.ediv_nonneg hd1 (by omega), hr1⟩ (Int.emod_nonneg _ (by omega)) (Int.emod_lt_of_pos _ (by omega))
        · refine ⟨_, rfl, b, _, _, _, rfl, rfl, SqL.of hb1, (atI_nat (j := 0) rfl), _, _, rfl, rfl, .inl ⟨by show -(2 ^ 64) < z; omega, by show z < 2 ^ 64; omega⟩, .inl ⟨_, rfl, ?_⟩⟩
          refine ⟨_, _, rfl, rfl, (by show (0 : Int) < 2147483647; decide), ?_⟩
          refine ⟨_, rfl, b, _, _, 0, rfl, rfl, hb1, ix_at (j := 0) (by simp), ?_⟩
          refine ⟨_, rfl, b, _, _, _, rfl, rfl, SqL.of upd_same, (atI_nat (j := 0) rfl), _, _, rfl, rfl, ⟨by decide, by decide⟩, .inl ⟨_, rfl, ?_⟩⟩
          refine ⟨_, rfl, _, _, rfl, rfl, (by show (0 : Int) < n; omega), ?_⟩
          exact k1 (z * 48271 % 2147483647 :: d :: r) _ (BagOk.put0 _ hd1 hr1) (Int.emod_nonneg _ (by omega)) (Int.emod_lt_of_pos _ (by omega))
    · have hb1 := hb
      have k1 := k
      have hz1' := hz0
      have hz1'' := hz1
      have hd1 := hd0
      have hr1 := hr0
      refine ⟨_, rfl, b, _, _, _, rfl, rfl, SqL.of hb1, (atI_nat (j := 1) rfl), _, _, rfl, rfl, _, rfl, ?_⟩
      refine ite2 (fun e3 => ?_) (fun e3 => ?_)
      · refine ⟨_, rfl, b, _, _, _, rfl, rfl, SqL.of hb1, (atI_nat (j := 1) rfl), .inl ⟨_, rfl, ?_⟩⟩
        refine ⟨_, rfl, _, _, rfl, rfl, (by show (0 : Int) < n; omega), ?_⟩
        refine ⟨_, rfl, b, _, _, _, rfl, rfl, SqL.of hb1, (atI_nat (j := 1) rfl), _, rfl, _, _, rfl, rfl, wide_div (b := 20) (by show (0 : Int) < n; omega) (by show n.natAbs < 2 ^ 20; omega) (by decide) (by decide), ?_⟩
        refine ⟨_, rfl, b, _, _, 1, rfl, rfl, hb1, ix_at (j := 1) (by simp), ?_⟩
        refine ⟨_, rfl, ?_⟩
        exact k1 (z :: (d / n) :: r) _ ⟨_, _, _, rfl, hz1', hz1'', Int.ediv_nonneg hd1 (by omega), hr1⟩ (Int.emod_nonneg _ (by omega)) (Int.emod_lt_of_pos _ (by omega))
      · refine ⟨_, rfl, b, _, _, _, rfl, rfl, SqL.of hb1, (atI_nat (j := 0) rfl), _, _, rfl, rfl, .inl ⟨by show -(2 ^ 64) < z; omega, by show z < 2 ^ 64; omega⟩, .inl ⟨_, rfl, ?_⟩⟩
        refine ⟨_, _, rfl, rfl, (by show (0 : Int) < 2147483647; decide), ?_⟩
        refine ⟨_, rfl, b, _, _, 0, rfl, rfl, hb1, ix_at (j := 0) (by simp), ?_⟩
        refine ⟨_, rfl, b, _, _, _, rfl, rfl, SqL.of upd_same, (atI_nat (j := 0) rfl), _, _, rfl, rfl, ⟨by decide, by decide⟩, .inl ⟨_, rfl, ?_⟩⟩
        refine ⟨_, rfl, _, _, rfl, rfl, (by show (0 : Int) < n; omega), ?_⟩
        exact k1 (z * 48271 % 2147483647 :: d :: r) _ (BagOk.put0 _ hd1 hr1) (Int.emod_nonneg _ (by omega)) (Int.emod_lt_of_pos _ (by omega))
end
end Dl

namespace Dl
open PySem L2
theorem Same.upd_new {H : Hp} {a : Addr} {o : HO} (h : H a = none) : Same H (upd H a o) := fun b u e => by
  rw [upd_ne (ne_of_none e h)]; exact e
def spBag (K : PySem.W.Frag) : Sp := fun vs H Q _ => ∃ (a : Addr) (ns : List Int), vs = [.ref a] ∧ SqL K H a (ns.map V.int) ∧ ns.length ≤ 63 ∧
  ∀ (H' : Hp) (p : Addr) (L : List Int), Same H H' → H p = none → H' p = some (.lst (L.map V.int)) → BagOk L → Q (.ref p) H'
section
variable {P : Program} {w : World} {K : PySem.W.Frag} {mg : Str → Option Value} {base : Heap}
theorem scBag : FnScope ["_law_script", "_law_cell"] ["_law_script"] (defScope sBag) := ⟨rfl, rfl, rfl, by decide +kernel, rfl, by decide +kernel, by decide +kernel⟩
theorem ok_bag {f : Addr} {fd : FuncData} (F : Fun K "_law_bag" "_law_bag" sBag f fd) (T : TxtB mg) : FnOk P w K mg base CX0 1 f fd ["_law_script"] (spBag K) := by
  refine F.ok scBag (fun vs H Q E h => ?_) (fun cdv A outer s H vs Q E hr h => ?_)
  · obtain ⟨b, L, rfl, _⟩ := h
    rfl
  · obtain ⟨a, ns, rfl, hS, hlen, k⟩ := h
    refine ⟨_, pss_one (ps_ret (pe_op op_cat (pe_lst (pa_cons pe_int (pa_cons pe_int pa_nil)))
      (pe_lc (own := [("_law_cell", 1)]) (g := gName 1) (tt := tYes) rfl scBag.nd (pi_list (pe_slice sl_list (pv 0) po_none (po_some pe_int))) (blkOk_by (N := ["_law_script", "_law_cell"]) (sc := defScope sBag) (by decide +kernel))
        (fun _ _ _ _ _ => pg_name (i := 1) scBag.nd rfl (Or.inl rfl)) (fun _ _ _ _ _ => pts_nil) (fun _ _ _ _ _ => pe_callB call_abs (by rfl) T.abs (by decide +kernel) (pa_cons (pv 1) pa_nil))))), ?_⟩
    refine ⟨by show 2 ≤ sizeLine; decide, fun l hl => ?_⟩
    refine ⟨_, rfl, 63, rfl, a, _, rfl, Same.seq (Same.upd_new hl) hS, fun q hq => ?_⟩
    have hcut : ∃ ms : List Int, cutV (ns.map V.int) none (some 63) = ms.map V.int ∧ ms.length ≤ 63 := by
      refine ⟨(ns.drop (HT.sIx (ns.map V.int).length 0 none)).take (HT.sIx (ns.map V.int).length (ns.map V.int).length (some 63) - HT.sIx (ns.map V.int).length 0 none), ?_, ?_⟩
      · unfold cutV
        rw [← List.map_drop, ← List.map_take]
      · rw [List.length_take, List.length_drop]
        omega
    obtain ⟨ms, em, hm⟩ := hcut
    rw [em]
    refine ⟨q, rfl, ⟨_, SqL.of upd_same⟩, fun D hD => lc_list (xs := ms.map V.int) (fun i H' => ∃ M : List Int, H' = upd (upd (upd H l (.lst [.int 0, .int 0])) q (.lst (ms.map V.int))) D (.lst (M.map V.int)) ∧ M.length = i ∧ ∀ x ∈ M, 0 ≤ x)
      ⟨[], rfl, rfl, fun x hx => absurd hx (by simp)⟩ ?_ ?_ ?_⟩
    · rintro i H' _ ⟨M, rfl, _, _⟩
      have nqD : q ≠ D := ne_of_none (H := upd (upd H l (.lst [.int 0, .int 0])) q (.lst (ms.map V.int))) upd_same hD
      exact SqL.of (by rw [upd_ne nqD]; exact upd_same)
    · rintro i x H' hi ⟨M, rfl, hM, hx⟩
      rw [List.getElem?_map] at hi
      cases e : ms[i]? with
      | none => rw [e] at hi; cases hi
      | some u =>
      rw [e] at hi
      obtain rfl : V.int u = x := Option.some.inj hi
      refine ⟨rfl, _, rfl, u, rfl, _, upd_same, ?_, M ++ [if u < 0 then -u else u], ?_, ?_, ?_⟩
      · rw [List.length_map, hM]
        have := (List.getElem?_eq_some_iff.mp e).1
        exact small1000 (by omega)
      · rw [upd_upd, List.map_append]
        rfl
      · rw [List.length_append, hM]
        rfl
      · intro y hy
        rcases List.mem_append.mp hy with h | h
        · exact hx y h
        · obtain rfl := List.mem_singleton.mp h
          split <;> omega
    · rintro H' ⟨M, rfl, hM, hx⟩
      have nlq : l ≠ q := fun e => by rw [e, upd_same] at hq; cases hq
      have nlD : l ≠ D := fun e => by rw [← e, upd_ne nlq, upd_same] at hD; cases hD
      rw [List.length_map] at hM
      refine ⟨l, D, _, _, rfl, rfl, by rw [upd_ne nlD, upd_ne nlq, upd_same], upd_same, ?_, fun p hp => ?_⟩
      · rw [List.length_map]
        exact Nat.le_of_lt (small1000 (by simp; omega))
      · have hp0 : H p = none := by
          have npD : p ≠ D := fun e => by rw [e, upd_same] at hp; cases hp
          have npq : p ≠ q := fun e => by rw [upd_ne npD, e, upd_same] at hp; cases hp
          have npl : p ≠ l := fun e => by rw [upd_ne npD, upd_ne npq, e, upd_same] at hp; cases hp
          rw [upd_ne npD, upd_ne npq, upd_ne npl] at hp
          exact hp
        have s1 : Same H (upd H l (.lst [.int 0, .int 0])) := Same.upd_new hl
        refine k _ p (0 :: 0 :: M) ((s1.trans (Same.upd_new hq)).trans ((Same.upd_new hD).trans (Same.upd_new hp))) hp0 (by rw [upd_same]; rfl) ⟨0, 0, M, rfl, by decide, by decide, by decide, hx⟩
end
end Dl

namespace Dl
open PySem L2
/-! ### the own errors: class C, its __init__ at fI, its one field f -/
structure ErrC (K : PySem.W.Frag) (mg : Str → Option Value) (x f : Str) (C fI : Addr) : Prop where
  oex : OexC K C
  gC : mg x = some (.ref C)
  iC : PySem.W.findIn K (.ref C) "__init__" = some (some (.ref fI))
  tI : PySem.W.typeIn K (.ref fI) = some (.type "function")
  no : PySem.W.findIn K (.ref C) f = some none
/-- self.f = v -/
def spEI (K : PySem.W.Frag) (C : Addr) (f : Str) : Sp := fun vs H Q _ => ∃ (a : Addr) (v : V), vs = [.ref a, v] ∧ H a = some (exo a C none) ∧ ∀ dx, H dx = none → dx ≠ a → Q .non (upd (upd H dx (exd dx [(f, v)])) a (exo a C (some dx)))
section
variable {P : Program} {w : World} {K : PySem.W.Frag} {mg : Str → Option Value} {base : Heap}
theorem scInv : FnScope ["self", "name"] ["self", "name"] (defScope sInv) := ⟨rfl, rfl, rfl, by decide +kernel, rfl, by decide +kernel, by decide +kernel⟩
theorem ok_einv {C fI : Addr} {fd : FuncData} {x : Str} (F : Fun K "__init__" "InvalidName.__init__" sInv fI fd) (T : ErrC K mg x "name" C fI) : FnOk P w K mg base CX0 1 fI fd ["self", "name"] (spEI K C "name") := by
  refine F.ok scInv (fun vs H Q E h => ?_) (fun cdv A outer s H vs Q E hr h => ?_)
  · obtain ⟨b, n, rfl, _⟩ := h
    rfl
  · obtain ⟨a, v, rfl, ha, k⟩ := h
    exact ⟨_, pss_one (ps_ost (pv 0) (pv 1)), _, rfl, _, rfl, a, C, rfl, T.oex, T.no, .inl ⟨ha, fun dx h1 h2 => k dx h1 h2⟩⟩
theorem scDup : FnScope ["self", "name"] ["self", "name"] (defScope sDup) := ⟨rfl, rfl, rfl, by decide +kernel, rfl, by decide +kernel, by decide +kernel⟩
theorem ok_edup {C fI : Addr} {fd : FuncData} {x : Str} (F : Fun K "__init__" "DuplicateName.__init__" sDup fI fd) (T : ErrC K mg x "name" C fI) : FnOk P w K mg base CX0 1 fI fd ["self", "name"] (spEI K C "name") := by
  refine F.ok scDup (fun vs H Q E h => ?_) (fun cdv A outer s H vs Q E hr h => ?_)
  · obtain ⟨b, n, rfl, _⟩ := h
    rfl
  · obtain ⟨a, v, rfl, ha, k⟩ := h
    exact ⟨_, pss_one (ps_ost (pv 0) (pv 1)), _, rfl, _, rfl, a, C, rfl, T.oex, T.no, .inl ⟨ha, fun dx h1 h2 => k dx h1 h2⟩⟩
theorem scUnk : FnScope ["self", "name"] ["self", "name"] (defScope sUnk) := ⟨rfl, rfl, rfl, by decide +kernel, rfl, by decide +kernel, by decide +kernel⟩
theorem ok_eunk {C fI : Addr} {fd : FuncData} {x : Str} (F : Fun K "__init__" "UnknownName.__init__" sUnk fI fd) (T : ErrC K mg x "name" C fI) : FnOk P w K mg base CX0 1 fI fd ["self", "name"] (spEI K C "name") := by
  refine F.ok scUnk (fun vs H Q E h => ?_) (fun cdv A outer s H vs Q E hr h => ?_)
  · obtain ⟨b, n, rfl, _⟩ := h
    rfl
  · obtain ⟨a, v, rfl, ha, k⟩ := h
    exact ⟨_, pss_one (ps_ost (pv 0) (pv 1)), _, rfl, _, rfl, a, C, rfl, T.oex, T.no, .inl ⟨ha, fun dx h1 h2 => k dx h1 h2⟩⟩
theorem scMany : FnScope ["self", "limit"] ["self", "limit"] (defScope sMany) := ⟨rfl, rfl, rfl, by decide +kernel, rfl, by decide +kernel, by decide +kernel⟩
theorem ok_emany {C fI : Addr} {fd : FuncData} {x : Str} (F : Fun K "__init__" "TooMany.__init__" sMany fI fd) (T : ErrC K mg x "limit" C fI) : FnOk P w K mg base CX0 1 fI fd ["self", "limit"] (spEI K C "limit") := by
  refine F.ok scMany (fun vs H Q E h => ?_) (fun cdv A outer s H vs Q E hr h => ?_)
  · obtain ⟨b, n, rfl, _⟩ := h
    rfl
  · obtain ⟨a, v, rfl, ha, k⟩ := h
    exact ⟨_, pss_one (ps_ost (pv 0) (pv 1)), _, rfl, _, rfl, a, C, rfl, T.oex, T.no, .inl ⟨ha, fun dx h1 h2 => k dx h1 h2⟩⟩
end
/-- the way out of raise C(v): what is to be shown for the error's reading, from what the def's promise says -/
theorem raise_end {C : Addr} {f : Str} {K : PySem.W.Frag} {H : Hp} {v : V} {Q : XK} (q : ∀ d H', Same H H' → H d = none → H' d = some (.xd [(f, v)]) → Q (.ref C) (some d) H') :
    ([v] : List V).length ≤ 1000 ∧ ∀ a, H a = none → spEI K C f (.ref a :: ([v] ++ [])) (upd H a (exo a C none))
      (fun u H2 => u = .non ∧ ∃ (d : Addr) (fs : List (Str × V)), H2 a = some (exo a C (some d)) ∧ H2 d = some (exd d fs) ∧ H d = none ∧ Q (.ref C) (some d) (upd (del H2 a) d (.xd fs))) (fun _ _ _ => False) := by
  refine ⟨by simp, fun a ha => ⟨a, v, rfl, upd_same, fun dx hx ne => ⟨rfl, dx, [(f, v)], upd_same, ?_, ?_, ?_⟩⟩⟩
  · rw [upd_ne ne, upd_same]
  · rw [upd_ne ne] at hx
    exact hx
  · rw [upd_ne ne] at hx
    refine q dx _ (fun b o e => ?_) hx upd_same
    have nb : b ≠ dx := ne_of_none e hx
    have na : b ≠ a := ne_of_none e ha
    rw [upd_ne nb, del_ne na, upd_ne na, upd_ne nb, upd_ne na]
    exact e
end Dl

namespace Dl
open PySem L2
/-! ### names -/
def SG : Str := "abcdefghijklmnopqrstuvwxyz0123456789"
def validN (z : Str) : Bool := decide (1 ≤ z.length) && (decide (z.length ≤ 12) && z.cps.toList.all fun c => decide (c ∈ SG.cps.toList))
def isNm : V → Bool
  | .str z => validN z
  | _ => false
/-- what may be passed as a name: a text, an int, None, a list -/
def NmOk (H : Hp) : V → Prop
  | .str z => z.length ≤ sizeLine
  | .int _ => True
  | .non => True
  | .ref p => ∃ xs, H p = some (.lst xs)
  | _ => False
structure TxtN (mg : Str → Option Value) : Prop where
  isi : mg "isinstance" = none
  str : mg "str" = none
  len : mg "len" = none
  all : mg "all" = none
  longest : ∃ t, mg "LONGEST" = some (.int 12 t)
  signs : ∃ t, mg "SIGNS" = some (.str SG t)
theorem nm_type (K : PySem.W.Frag) {H : Hp} {v : V} (hv : NmOk H v) : ∃ (ty : String) (b : Bool), TyX K H v (.type ty) ∧ PySem.W.kitOne K (.type ty) (.type "str") = some b ∧ ((b = false ∧ isNm v = false ∧ ∀ z, v ≠ .str z) ∨ (b = true ∧ ∃ z, v = .str z ∧ z.length ≤ sizeLine)) := by
  cases v with
  | int i => exact ⟨"int", false, .base (.int i), kit_ty (by decide +kernel), .inl ⟨rfl, rfl, fun z h => by cases h⟩⟩
  | non => exact ⟨"NoneType", false, .base .non, kit_ty (by decide +kernel), .inl ⟨rfl, rfl, fun z h => by cases h⟩⟩
  | ref p => obtain ⟨xs, hp⟩ := hv; exact ⟨"list", false, .base (.lst hp), kit_ty (by decide +kernel), .inl ⟨rfl, rfl, fun z h => by cases h⟩⟩
  | str z => exact ⟨"str", true, .base (.str z), kit_ty (by decide +kernel), .inr ⟨rfl, z, rfl, hv⟩⟩
  | bl _ => exact hv.elim
  | byt _ => exact hv.elim
  | flt _ => exact hv.elim
  | ty _ => exact hv.elim
def spIsName (K : PySem.W.Frag) : Sp := fun vs H Q _ => ∃ v : V, vs = [v] ∧ NmOk H v ∧ ∀ H', Same H H' → Q (.bl (isNm v)) H'
theorem int_le_nat {a b : Nat} : decide ((a : Int) ≤ (b : Int)) = decide (a ≤ b) := by simp
section
variable {P : Program} {w : World} {K : PySem.W.Frag} {mg : Str → Option Value} {base : Heap}
theorem scIsName : FnScope ["value", "sign"] ["value"] (defScope sIsName) := ⟨rfl, rfl, rfl, by decide +kernel, rfl, by decide +kernel, by decide +kernel⟩
theorem ok_isname {f : Addr} {fd : FuncData} (F : Fun K "is_name" "is_name" sIsName f fd) (T : TxtN mg) : FnOk P w K mg base CX0 1 f fd ["value"] (spIsName K) := by
  refine F.ok scIsName (fun vs H Q E h => ?_) (fun cdv A outer s H vs Q E hr h => ?_)
  · obtain ⟨b, rfl, _⟩ := h
    rfl
  · obtain ⟨v, rfl, hv, k⟩ := h
    obtain ⟨t1, hL⟩ := T.longest
    obtain ⟨t2, hG⟩ := T.signs
    refine ⟨_, pss_cons (ps_if (PW.pt (pw_or (pt_not (pt_val (pe_callB call_isi (by rfl) T.isi (by decide +kernel) (pa_cons (pv 0) (pa_cons (pe_bltn (v := .ty "str") (by rfl) T.str (by decide +kernel) rfl) pa_nil)))))
        (pw_or1 (pt_not (pt_chain op_le op_le pe_int (pe_callB call_len_str (by rfl) T.len PySem.boot_len (pa_cons (pv 0) pa_nil)) (pe_glob (v := .int 12) (by rfl) hL ⟨_, rfl⟩))))))
        (pss_one (ps_ret pe_bl)) pss_nil)
      (pss_one (ps_ret (pe_callB (cr_all rfl) (by rfl) T.all (by decide +kernel) (pa_cons
        (pe_lc (own := [("sign", 1)]) (g := gName 1) (tt := tYes) rfl scIsName.nd (pi_str (pv 0)) (blkOk_by (N := ["value", "sign"]) (sc := defScope sIsName) (by decide +kernel))
          (fun _ _ _ _ _ => pg_name (i := 1) scIsName.nd rfl (Or.inl rfl)) (fun _ _ _ _ _ => pts_nil) (fun _ _ _ _ _ => pe_cmpR op_in_sign (pv 1) (pe_glob (v := .str SG) (by rfl) hG ⟨_, rfl⟩) (by rfl)))
        pa_nil)))), ?_⟩
    obtain ⟨ty, b, h1, h2, h3⟩ := nm_type K hv
    refine ⟨_, rfl, v, _, _, _, b, rfl, ClsV.ty "str", h1, h2, b, rfl, ?_⟩
    rcases h3 with ⟨rfl, h3, _⟩ | ⟨rfl, z, rfl, hz⟩
    · refine iteT (?_)
      show Q (.bl false) H
      rw [← h3]
      exact k H (Same.refl H)
    · refine iteF (?_)
      refine ⟨_, rfl, z, rfl, hz, _, _, rfl, rfl, _, rfl, ?_⟩
      refine ite2 (fun e1 => ?_) (fun e1 => ?_)
      · have e1' : (1 : Nat) ≤ z.length := by
          have q : (1 : Int) ≤ (z.length : Nat) := of_decide_eq_true e1
          omega
        refine ⟨_, _, rfl, rfl, _, rfl, ?_⟩
        by_cases e2 : z.length ≤ 12
        · have e2' : decide (((z.length : Nat) : Int) ≤ (12 : Int)) = true := decide_eq_true (by omega)
          rw [e2']
          refine iteF (?_)
          refine ⟨_, rfl, z, rfl, fun D hD => lc_it (w := walk_str) (fun i H' => H' = upd H D (.lst (((z.cps.toList.take i).map fun c => decide (c ∈ SG.cps.toList)).map V.bl)) ∧ True) ⟨rfl, trivial⟩ (fun _ _ _ _ => trivial) ?_ ?_⟩
          · rintro i x H' H2 hi ⟨rfl, _⟩ ⟨rfl, c, hc, rfl⟩
            refine ⟨rfl, _, rfl, c, SG, rfl, rfl, _, upd_same, ?_, ?_, trivial⟩
            · rw [List.length_map, List.length_map, List.length_take]
              have ez : z.cps.size = z.length := rfl
              exact small1000 (by omega)
            · have hc2 : z.cps.toList[i]? = some c := by rw [Array.getElem?_toList]; exact hc
              rw [upd_upd, List.take_succ, hc2]
              simp
          · rintro H' ⟨rfl, _⟩
            refine ⟨D, _, rfl, SqL.of upd_same, ?_⟩
            have q := k _ (Same.upd_new hD (o := .lst (((z.cps.toList.take z.cps.size).map fun c => decide (c ∈ SG.cps.toList)).map V.bl)))
            have e : isNm (.str z) = ((z.cps.toList.take z.cps.size).map fun c => decide (c ∈ SG.cps.toList)).all id := by
              show validN z = _
              unfold validN
              rw [decide_eq_true e1', decide_eq_true e2, List.take_of_length_le (by simp)]
              simp [List.all_map]
            rw [e] at q
            exact q
        · have e2' : decide (((z.length : Nat) : Int) ≤ (12 : Int)) = false := decide_eq_false (by omega)
          rw [e2']
          refine iteT (?_)
          have q := k H (Same.refl H)
          have e : isNm (.str z) = false := by
            show validN z = _
            unfold validN
            rw [decide_eq_false e2]
            simp
          rw [e] at q
          exact q
      · have q := k H (Same.refl H)
        have e1' : ¬ (1 : Nat) ≤ z.length := fun x => e1 (decide_eq_true (by
          show (1 : Int) ≤ (z.length : Nat)
          omega))
        have e : isNm (.str z) = false := by
          show validN z = _
          unfold validN
          rw [decide_eq_false e1']
          rfl
        rw [e] at q
        exact ⟨_, rfl, iteT q⟩
end
end Dl

namespace Dl
open PySem L2
/-- a def that stands at a global name and keeps its promise -/
def Dfn (P : Program) (w : World) (K : PySem.W.Frag) (mg : Str → Option Value) (base : Heap) (CX : CXT) (k : Nat) (x : Str) (ps : List Str) (sp : Sp) : Prop :=
  ∃ f fd, mg x = some (.ref f) ∧ PySem.W.keepIn K (.ref f) = true ∧ Binds K fd ps [] ∧ FnOk P w K mg base CX k f fd ps sp
/-- an own error with its __init__ -/
def Ex (P : Program) (w : World) (K : PySem.W.Frag) (mg : Str → Option Value) (base : Heap) (x f : Str) (C : Addr) : Prop :=
  ∃ fI fd, ErrC K mg x f C fI ∧ Binds K fd ["self", f] [] ∧ FnOk P w K mg base CX0 1 fI fd ["self", f] (spEI K C f)
/-- the classes of the errors -/
structure Cs where
  inv : Addr
  dup : Addr
  unk : Addr
  many : Addr
inductive Er where
  | inv (v : V)
  | dup (v : V)
  | unk (v : V)
  | many
/-- an error with one field leaves: what the caller wants of it -/
def Out1 (C : Addr) (f : Str) (v : V) (H : Hp) (E : XK) : Prop := ∀ d H', Same H H' → H d = none → H' d = some (.xd [(f, v)]) → E (.ref C) (some d) H'
def Out (C : Cs) (H : Hp) (E : XK) : Er → Prop
  | .inv v => Out1 C.inv "name" v H E
  | .dup v => Out1 C.dup "name" v H E
  | .unk v => Out1 C.unk "name" v H E
  | .many => Out1 C.many "limit" (.int 24) H E
theorem Out1.of {C : Addr} {f : Str} {v : V} {H H1 : Hp} {E : XK} (s : Same H H1) (h : Out1 C f v H E) : Out1 C f v H1 E := fun d H' s' n e => h d H' (s.trans s') (s.free n) e
theorem Out.of {C : Cs} {H H1 : Hp} {E : XK} {e : Er} (s : Same H H1) (h : Out C H E e) : Out C H1 E e := by
  cases e <;> exact Out1.of s h
theorem Out1.imp {C : Addr} {f : Str} {v : V} {H : Hp} {E E' : XK} (i : ∀ c d H', E c d H' → E' c d H') (h : Out1 C f v H E) : Out1 C f v H E' := fun d H' s' n e => i _ _ _ (h d H' s' n e)
/-- check_new's word -/
def chkNew (v : V) (es : List Str) : Option Er :=
  match v with
  | .str z => if validN z then (if z ∈ es then some (.dup v) else none) else some (.inv v)
  | _ => some (.inv v)
/-- earlier is a list, a tuple or a dict of texts -/
def spNewL (K : PySem.W.Frag) (C : Cs) : Sp := fun vs H Q E => ∃ (v : V) (p : Addr) (es : List Str), vs = [v, .ref p] ∧ NmOk H v ∧ H p = some (.lst (es.map V.str)) ∧ (∀ H', Same H H' → chkNew v es = none → Q .non H') ∧ ∀ e, chkNew v es = some e → Out C H E e
def spNewD (K : PySem.W.Frag) (C : Cs) : Sp := fun vs H Q E => ∃ (v : V) (p : Addr) (kvs : List (Key × V)) (es : List Str), vs = [v, .ref p] ∧ NmOk H v ∧ H p = some (.dK kvs) ∧ kvs.map (·.1) = es.map Sum.inr ∧ (∀ H', Same H H' → chkNew v es = none → Q .non H') ∧ ∀ e, chkNew v es = some e → Out C H E e
theorem inV_str {z : Str} {es : List Str} : inV (.str z) (es.map V.str) = decide (z ∈ es) := by
  unfold inV
  rw [List.any_map]
  induction es with
  | nil => simp
  | cons a r ih =>
    rw [List.any_cons, ih]
    have e : ((fun y => eqV y (V.str z)) ∘ V.str) a = decide (a = z) := by
      show eqV (V.str a) (V.str z) = decide (a = z)
      unfold eqV
      first | rfl | simp
    rw [e]
    by_cases h : a = z
    · subst h; simp
    · have h2 : ¬ z = a := fun q => h q.symm
      simp [h, h2]
theorem flat_strs (es : List Str) : (es.map V.str).all flatV = true := by
  rw [List.all_map]
  induction es with
  | nil => rfl
  | cons a r ih => rw [List.all_cons, ih]; rfl
/-- check_name(name): nothing happens if it is a valid name, else InvalidName -/
def spCheckName (C : Cs) : Sp := fun vs H Q E => ∃ v : V, vs = [v] ∧ NmOk H v ∧ (∀ H', Same H H' → isNm v = true → Q .non H') ∧ (isNm v = false → Out C H E (.inv v))
section
variable {P : Program} {w : World} {K : PySem.W.Frag} {mg : Str → Option Value} {base : Heap} {C : Cs}
theorem scCheckName : FnScope ["name"] ["name"] (defScope sCheckName) := ⟨rfl, rfl, rfl, by decide +kernel, rfl, by decide +kernel, by decide +kernel⟩
theorem ok_checkname {f : Addr} {fd : FuncData} (F : Fun K "check_name" "check_name" sCheckName f fd) (gN : Dfn P w K mg base CX0 1 "is_name" ["value"] (spIsName K)) (xI : Ex P w K mg base "InvalidName" "name" C.inv) :
    FnOk P w K mg base (L2.CX P w) 3 f fd ["name"] (spCheckName C) := by
  obtain ⟨fN, dN, mN, kN, bN, GN⟩ := gN
  obtain ⟨fI, dI, TI, bI, GI⟩ := xI
  refine F.okX scCheckName (fun vs H Q E h => ?_) (fun cdv A outer s H vs Q E hr h => ?_)
  · obtain ⟨b, rfl, _⟩ := h
    rfl
  · obtain ⟨v, rfl, hv, k, kx⟩ := h
    have hr1 : Room 1 _ := hr.mono (by decide)
    have hr2 : Room 2 _ := hr.mono (by decide)
    refine ⟨_, pss_one (ps_if (pt_not (pt_val (pe_call GN hr1 (by rfl) mN kN bN .nil pass0 (pa_cons (pv 0) pa_nil))))
        (pss_one (ps_raise rfl (takes_of rfl rfl rfl rfl) (pmk_oex TI.oex TI.iC TI.tI GI hr2 bI .nil pass0 (by rfl) TI.gC (pa_cons (pv 0) pa_nil)))) pss_nil), ?_⟩
    refine ⟨_, rfl, v, rfl, hv, fun H1 s1 => ⟨_, rfl, ?_⟩⟩
    by_cases hn : isNm v = true
    · rw [hn]
      exact iteF (k H1 s1 hn)
    · have hn' : isNm v = false := by simpa using hn
      rw [hn']
      exact iteT ⟨_, rfl, raise_end (Out.of s1 (kx hn'))⟩
theorem scCheckNew : FnScope ["name", "earlier"] ["name", "earlier"] (defScope sCheckNew) := ⟨rfl, rfl, rfl, by decide +kernel, rfl, by decide +kernel, by decide +kernel⟩
theorem isNm_str {v : V} (h : isNm v = true) : ∃ z, v = .str z ∧ validN z = true := by
  cases v with
  | str z => exact ⟨z, rfl, h⟩
  | _ => cases h
theorem isSome_valV {kvs : List (Key × V)} {es : List Str} (h : kvs.map (·.1) = es.map Sum.inr) {z : Str} : (valV kvs (Sum.inr z)).isSome = decide (z ∈ es) := by
  unfold valV
  rw [Option.isSome_map, List.isSome_find?]
  have e : kvs.any (fun kv => decide (kv.1 = (Sum.inr z : Key))) = (kvs.map (·.1)).any (fun k => decide (k = (Sum.inr z : Key))) := by rw [List.any_map]; rfl
  rw [e, h, List.any_map]
  clear h e
  induction es with
  | nil => simp
  | cons a r ih =>
    rw [List.any_cons, ih]
    by_cases q : a = z
    · subst q; simp
    · have q2 : ¬ z = a := fun x => q x.symm
      simp [q, q2]
theorem ok_newL {f : Addr} {fd : FuncData} (F : Fun K "check_new" "check_new" sCheckNew f fd) (gN : Dfn P w K mg base (L2.CX P w) 3 "check_name" ["name"] (spCheckName C)) (xD : Ex P w K mg base "DuplicateName" "name" C.dup) :
    FnOk P w K mg base (L2.CX P w) 4 f fd ["name", "earlier"] (spNewL K C) := by
  obtain ⟨fN, dN, mN, kN, bN, GN⟩ := gN
  obtain ⟨fD, dD, TD, bD, GD⟩ := xD
  refine F.okX scCheckNew (fun vs H Q E h => ?_) (fun cdv A outer s H vs Q E hr h => ?_)
  · obtain ⟨b, n, es, rfl, _⟩ := h
    rfl
  · obtain ⟨v, p, es, rfl, hv, hp, k, kx⟩ := h
    have hr3 : Room 3 _ := hr.mono (by decide)
    have hr2 : Room 2 _ := hr.mono (by decide)
    refine ⟨_, pss_cons (ps_expr (pe_call GN hr3 (by rfl) mN kN bN .nil (passes_call (takes_of rfl rfl rfl rfl) (fun _ _ _ _ h => h)) (pa_cons (pv 0) pa_nil)))
      (pss_one (ps_if (pt_cmpR op_in_seq (pv 0) (pv 1) (by rfl))
        (pss_one (ps_raise rfl (takes_of rfl rfl rfl rfl) (pmk_oex TD.oex TD.iC TD.tI GD hr2 bD .nil pass0 (by rfl) TD.gC (pa_cons (pv 0) pa_nil)))) pss_nil)), ?_⟩
    refine ⟨_, rfl, v, rfl, hv, fun H1 s1 hn => ?_, fun hn' => ?_⟩
    · obtain ⟨z, rfl, hz⟩ := isNm_str hn
      refine ⟨_, rfl, _, rfl, p, _, rfl, .inl (SqL.of (s1 _ _ hp)), rfl, flat_strs es, _, rfl, ?_⟩
      show if (inV (.str z) (es.map V.str)) = true then _ else _
      by_cases hm : z ∈ es
      · rw [inV_str, decide_eq_true hm]
        refine iteT (?_)
        exact ⟨_, rfl, raise_end (Out.of s1 (kx (.dup (.str z)) (by simp [chkNew, hz, hm])))⟩
      · rw [inV_str, decide_eq_false hm]
        refine iteF (?_)
        exact k H1 s1 (by simp [chkNew, hz, hm])
    · have hc : chkNew v es = some (.inv v) := by
        cases v with
        | str z =>
          have hz : validN z = false := hn'
          simp [chkNew, hz]
        | _ => rfl
      exact kx _ hc
theorem ok_newD {f : Addr} {fd : FuncData} (F : Fun K "check_new" "check_new" sCheckNew f fd) (gN : Dfn P w K mg base (L2.CX P w) 3 "check_name" ["name"] (spCheckName C)) (xD : Ex P w K mg base "DuplicateName" "name" C.dup) :
    FnOk P w K mg base (L2.CX P w) 4 f fd ["name", "earlier"] (spNewD K C) := by
  obtain ⟨fN, dN, mN, kN, bN, GN⟩ := gN
  obtain ⟨fD, dD, TD, bD, GD⟩ := xD
  refine F.okX scCheckNew (fun vs H Q E h => ?_) (fun cdv A outer s H vs Q E hr h => ?_)
  · obtain ⟨b, n, kvs, es, rfl, _⟩ := h
    rfl
  · obtain ⟨v, p, kvs, es, rfl, hv, hp, hkv, k, kx⟩ := h
    have hr3 : Room 3 _ := hr.mono (by decide)
    have hr2 : Room 2 _ := hr.mono (by decide)
    refine ⟨_, pss_cons (ps_expr (pe_call GN hr3 (by rfl) mN kN bN .nil (passes_call (takes_of rfl rfl rfl rfl) (fun _ _ _ _ h => h)) (pa_cons (pv 0) pa_nil)))
      (pss_one (ps_if (pt_cmp (pc_din (hu_of hr) (pv 0) (pv 1)))
        (pss_one (ps_raise rfl (takes_of rfl rfl rfl rfl) (pmk_oex TD.oex TD.iC TD.tI GD hr2 bD .nil pass0 (by rfl) TD.gC (pa_cons (pv 0) pa_nil)))) pss_nil)), ?_⟩
    refine ⟨_, rfl, v, rfl, hv, fun H1 s1 hn => ?_, fun hn' => ?_⟩
    · obtain ⟨z, rfl, hz⟩ := isNm_str hn
      refine ⟨_, rfl, _, rfl, p, _, rfl, DGet.k (k := Sum.inr z) (s1 _ _ hp), _, rfl, ?_⟩
      by_cases hm : z ∈ es
      · rw [isSome_valV hkv, decide_eq_true hm]
        refine iteT (?_)
        exact ⟨_, rfl, raise_end (Out.of s1 (kx (.dup (.str z)) (by simp [chkNew, hz, hm])))⟩
      · rw [isSome_valV hkv, decide_eq_false hm]
        refine iteF (?_)
        exact k H1 s1 (by simp [chkNew, hz, hm])
    · have hc : chkNew v es = some (.inv v) := by
        cases v with
        | str z =>
          have hz : validN z = false := hn'
          simp [chkNew, hz]
        | _ => rfl
      exact kx _ hc
end
end Dl

/-! tuple(d) of a dict: my own rule -/
namespace Dl
open PySem PySem.Spec PyProof.Rows PySem.W PySem.Calls
section
variable {prog : Program} {w : World} {A : Around} {E : Value → Shared → Prop} {s : Shared} {d : Addr} {n : Nat} {P : Nat → Value → Prop} {OK : Heap → Prop}
theorem collect_src {Q : List Value → Shared → Prop} (K : KdlSrc prog w "dict" d d n P OK) (hh : A.handled = none) (hok : OK s.heap) (hn : n ≤ sizeLine)
    (hQ : ∀ (h' : Heap) (tk : Nat) (acc : Array Value), (∀ b o, s.heap.get? b = some o → h'.get? b = some o) → ItemsOf P acc n → Q acc.toList { s with heap := h', toks := tk }) :
    wpAny (model prog w) A (collect (.ref d)) Q E s := by
  unfold collect
  refine wpAny_bind (wpAny_runValue (codeAny_builtin F.entry_proto_collect ?_))
  rw [Around.under_plainId F.plain_proto_collect _]
  show wpAny _ A.in1 (newList [] >>= fun l => again (.builtin "list.__iadd__" ⟨[l, .ref d], []⟩)) _ _ s
  refine wpAny_bind (wpAny_newObj_type ?_)
  refine wpAny_pure ⟨plainId_quiet F.plain_list_iadd _, codeAny_builtin F.entry_list_iadd ?_⟩
  rw [Around.under_plainId F.plain_list_iadd _]
  show wpAny _ A.in1 (Builtin.List.listExtendWith (.ref s.heap.objs.size) (.ref d) (.ref s.heap.objs.size)) _ _ _
  have hS : (s.heap.push { cls := .type "list", data := .seq ([] : List Value).toArray }).get? s.heap.objs.size = some { cls := .type "list", data := .seq #[] 0 } := Heap.get?_push_size _ rfl
  have hlt := K.there _ hok
  refine wpAny_mono (kdl_extend (A := A) (R := fun rr s' => rr = .ok (.ret (.ref s.heap.objs.size)) ∧ ∃ (h' : Heap) (tk : Nat) (acc : Array Value) (c' : Nat), s' = { s with heap := h', toks := tk } ∧
      (∀ b o, s.heap.get? b = some o → h'.get? b = some o) ∧ h'.get? s.heap.objs.size = some { cls := .type "list", dict := none, data := .seq acc c', slots := #[] } ∧ ItemsOf P acc n)
    (s := { s with heap := s.heap.push { cls := .type "list", data := .seq ([] : List Value).toArray } }) K hh (K.keep _ _ hok fun b _ o e => Heap.get?_push_of_some _ e) _ (Nat.ne_of_gt hlt.1) (Nat.ne_of_gt hlt.2) _ 0 hS
    (fun h' tk acc c' hk e hi => ⟨rfl, h', tk, acc, c', rfl, fun b o q => hk b o (Nat.ne_of_lt (Heap.lt_size q)) (Heap.get?_push_of_some _ q), e, hi⟩) hn) (fun fin s' h => ?_) (fun e s' h => ?_)
  · cases fin with
    | done f =>
      obtain ⟨e, h', tk, acc, c', rfl, hk, hS', hi⟩ := h
      cases e
      show wpAny _ A (load s.heap.objs.size >>= _) _ _ _
      exact wpAny_bind (wpAny_load hS' (wpAny_pure (hQ h' tk acc hk hi)))
    | again c' =>
      refine ⟨h.1, codeAny_mono h.2 fun rr s'' hr' => ?_⟩
      obtain ⟨rfl, h', tk, acc, c', rfl, hk, hS', hi⟩ := hr'
      show wpAny _ A (load s.heap.objs.size >>= _) _ _ _
      exact wpAny_bind (wpAny_load hS' (wpAny_pure (hQ h' tk acc hk hi)))
  · exact absurd h.1 (by simp)
theorem code_tuple_new_src {Q₁ : Value → Shared → Prop} (K : KdlSrc prog w "dict" d d n P OK) (hh : A.handled = none) (hok : OK s.heap) (hn : n ≤ sizeLine)
    (h : ∀ (h' : Heap) (tk : Nat) (acc : Array Value), (∀ b o, s.heap.get? b = some o → h'.get? b = some o) → ItemsOf P acc n →
      Q₁ (.ref h'.objs.size) { s with heap := h'.push { cls := .type "tuple", data := .seq acc }, toks := tk }) :
    codeAny (model prog w) A (.call (.builtin "tuple.__new__") ⟨[.type "tuple", .ref d], []⟩) (wants Q₁ E) s := by
  refine codeAny_of_tree ?_
  show wpAny _ A.in1 (do checkBuiltinCall "tuple.__new__" ⟨[.type "tuple", .ref d], []⟩; again (.builtin "tuple.__new__" ⟨[.type "tuple", .ref d], []⟩)) _ _ s
  refine wpAny_bind (wpAny_of_eq (F.newCall_tuple_1 _) (wpAny_pure ⟨plainId_quiet F.plain_tuple_new _, codeAny_builtin F.entry_tuple_new ?_⟩))
  rw [Around.under_plainId F.plain_tuple_new _]
  have hsub := sub_tuple_self
  have hinit := init_tuple_lookup
  have hmh := madeHere_tuple
  have hTI : s.TypeIs (.ref d) "dict" := K.type _ hok
  have hh1 : A.in1.handled = none := hh
  wp_walk using wpAny_typeOf hTI, collect_src (A := A.in1) K hh1 hok hn
  intro h' tk acc hk hacc
  show wpAny _ _ (Builtin.Tuple.tupleExact acc.toList.toArray >>= fun v => ret v) _ _ _
  unfold Builtin.Tuple.tupleExact
  refine wpAny_bind (wpAny_newObj_type ?_ (by show acc.toList.toArray.size ≤ sizeLine; simp only [Array.toArray_toList]; rw [hacc.1]; exact hn))
  refine wpAny_pure ?_
  have e : acc.toList.toArray = acc := by simp
  rw [e]
  exact h h' tk acc hk hacc
theorem call_tuple_src {Q : Value → Shared → Prop} (K : KdlSrc prog w "dict" d d n P OK) (hh : A.handled = none) (hok : OK s.heap) (hn : n ≤ sizeLine)
    (hQ : ∀ (h' : Heap) (tk : Nat) (acc : Array Value), (∀ b o, s.heap.get? b = some o → h'.get? b = some o) → ItemsOf P acc n →
      Q (.ref h'.objs.size) { s with heap := h'.push { cls := .type "tuple", data := .seq acc }, toks := tk }) :
    wpAny (model prog w) A (call (.type "tuple") [.ref d]) Q E s := by
  refine callType_codes (Q₁ := fun obj s₁ => s₁.TypeIs obj "tuple" ∧ Q obj s₁) F.called_tuple (F.typeCall_tuple_1 _) F.entry_object_init
    (code_tuple_new_src (A := A.in1) K hh hok hn fun h' tk acc hk hacc => ⟨⟨_, Heap.get?_push_size _ rfl, rfl⟩, hQ h' tk acc hk hacc⟩) fun obj s₁ h₁ => ?_
  exact ⟨h₁.1, F.args_object_init_2 obj _, object_init_meets F.called_tuple.init.lookup F.called_tuple.made (by decide) prog w A.in1 _ s₁ ⟨h₁.1, rfl, h₁.2⟩⟩
end
open L2
theorem call_tuple_dK {X : Cx} (hc : X.calm = true) : CallR X (.type "tuple") (fun xs H Q => ∃ p kvs, xs = [.ref p] ∧ H p = some (.dK kvs) ∧ ∀ q, H q = none → Q (.ref q) (upd H q (.tup (kvs.map fun kv => kV kv.1)))) := by
  intro pins s σ H xs us Q I r h
  obtain ⟨p, kvs, e, hk, q⟩ := h
  subst e
  obtain ⟨u, eu, rx⟩ := vals1 r
  subst eu
  obtain rfl : u = Value.ref p := rx
  obtain ⟨z, lo, vs, rk, hd⟩ := (show ObjOk X.prog X.w H s.heap p (.dK kvs) from I.hok p _ hk)
  obtain ⟨ep, hat⟩ := hd.dictAt
  have hl : kvs.length = vs.length := Paired.length rk
  refine call_tuple_src (PySem.W.kdl_dict (knd := mixKind X.prog X.w) (kvs := vs) (ep := ep) lo) (I.ok.hd hc) hat (by rw [← hl]; exact z) fun h' tk acc hkeep hacc => ?_
  have I2 : Inv X pins σ H { s with heap := h', toks := tk } := I.kept hkeep
  refine ⟨.ref h'.objs.size, upd H h'.objs.size (.tup (kvs.map fun kv => kV kv.1)), I2.laid (t' := tk) (fun c o e => Heap.get?_push_of_some _ e) (Nat.le_refl _) (show ObjOk X.prog X.w _ _ _ (.tup (kvs.map fun kv => kV kv.1)) from ⟨?_, acc.toList, ?_, ?_⟩), rfl, q _ (I2.hok.fresh (Nat.le_refl _))⟩
  · rw [List.length_map]; exact z
  · have el : acc.toList.length = acc.size := by simp
    refine vals_of_at (by rw [List.length_map, el, hacc.1, hl]) fun j x w h1 h2 => ?_
    obtain ⟨k, y, hky, hi⟩ := hacc.2 j w (by rw [← Array.getElem?_toList]; exact h2)
    have e1 : (kvs.map (·.1))[j]? = some k := by
      rw [KV.keys rk, List.getElem?_map, hky] <;> rfl
    have e2 : (kvs.map fun kv => kV kv.1)[j]? = some (kV k) := by
      have e3 : (kvs.map fun kv => kV kv.1) = (kvs.map (·.1)).map kV := by rw [List.map_map] <;> rfl
      rw [e3, List.getElem?_map, e1] <;> rfl
    rw [e2] at h1
    cases h1
    exact keyIs_rel hi
  · rw [Array.toArray_toList]; exact IsTup.new _ _
end Dl

namespace Dl
open PySem L2
theorem NmOk.of {H H' : Hp} {v : V} (s : Same H H') (h : NmOk H v) : NmOk H' v := by
  cases v with
  | ref p => obtain ⟨xs, e⟩ := h; exact ⟨xs, s _ _ e⟩
  | str z => exact h
  | int i => exact h
  | non => exact h
  | bl _ => exact h
  | byt _ => exact h
  | flt _ => exact h
  | ty _ => exact h
theorem Same.tup {K : PySem.W.Frag} {H H' : Hp} {a : Addr} {xs : List V} (e : Same H H') (h : SqT K H a xs) : SqT K H' a xs := by
  rcases h with (h | ⟨o, h⟩) | h
  · exact .inl (.inl (e _ _ h))
  · exact .inl (.inr ⟨o, e _ _ h⟩)
  · exact .inr h
def knows (v : V) (es : List Str) : Bool :=
  match v with
  | .str z => decide (z ∈ es)
  | _ => false
/-- check_known(name, names), names a tuple of texts -/
def spKnown (K : PySem.W.Frag) (C : Cs) : Sp := fun vs H Q E => ∃ (v : V) (p : Addr) (es : List Str), vs = [v, .ref p] ∧ NmOk H v ∧ SqT K H p (es.map V.str) ∧ (knows v es = true → Q .non H) ∧ (knows v es = false → Out1 C.unk "name" v H E)
def strOf : V → Str
  | .str z => z
  | _ => ""
def chkNames : List V → List Str → Except Er (List Str)
  | [], acc => .ok acc
  | v :: r, acc => match chkNew v acc with
    | some e => .error e
    | none => chkNames r (acc ++ [strOf v])
theorem chkNew_none {v : V} {es : List Str} (h : chkNew v es = none) : ∃ z, v = .str z ∧ validN z = true ∧ z ∉ es := by
  cases v with
  | str z =>
    refine ⟨z, rfl, ?_⟩
    unfold chkNew at h
    by_cases h1 : validN z = true
    · by_cases h2 : z ∈ es
      · simp [h1, h2] at h
      · exact ⟨h1, h2⟩
    · simp [h1] at h
  | _ => simp [chkNew] at h
/-- distinct_names(names), names a list or a tuple -/
def spDistinct (K : PySem.W.Frag) (C : Cs) : Sp := fun vs H Q E => ∃ (p : Addr) (xs : List V), vs = [.ref p] ∧ (SqL K H p xs ∨ SqT K H p xs) ∧ (∀ v ∈ xs, NmOk H v) ∧ xs.length ≤ 1000 ∧
  (∀ es, chkNames xs [] = .ok es → ∀ H' t, Same H H' → H t = none → H' t = some (.tup (es.map V.str)) → Q (.ref t) H') ∧ ∀ e, chkNames xs [] = .error e → Out C H E e
section
variable {P : Program} {w : World} {K : PySem.W.Frag} {mg : Str → Option Value} {base : Heap} {C : Cs}
theorem scCheckKnown : FnScope ["name", "names"] ["name", "names"] (defScope sCheckKnown) := ⟨rfl, rfl, rfl, by decide +kernel, rfl, by decide +kernel, by decide +kernel⟩
theorem ok_known {f : Addr} {fd : FuncData} (F : Fun K "check_known" "check_known" sCheckKnown f fd) (T : TxtN mg) (xU : Ex P w K mg base "UnknownName" "name" C.unk) :
    FnOk P w K mg base (L2.CX P w) 4 f fd ["name", "names"] (spKnown K C) := by
  obtain ⟨fI, dI, TI, bI, GI⟩ := xU
  refine F.okX scCheckKnown (fun vs H Q E h => ?_) (fun cdv A outer s H vs Q E hr h => ?_)
  · obtain ⟨b, n, es, rfl, _⟩ := h
    rfl
  · obtain ⟨v, p, es, rfl, hv, hp, k, kx⟩ := h
    have hr2 : Room 2 _ := hr.mono (by decide)
    refine ⟨_, pss_one (ps_if (PW.pt (pw_or (pt_not (pt_val (pe_callB call_isi (by rfl) T.isi (by decide +kernel) (pa_cons (pv 0) (pa_cons (pe_bltn (v := .ty "str") (by rfl) T.str (by decide +kernel) rfl) pa_nil)))))
        (pw_or1 (pt_cmpR op_notIn_seq (pv 0) (pv 1) (by rfl)))))
        (pss_one (ps_raise rfl (takes_of rfl rfl rfl rfl) (pmk_oex TI.oex TI.iC TI.tI GI hr2 bI .nil pass0 (by rfl) TI.gC (pa_cons (pv 0) pa_nil)))) pss_nil), ?_⟩
    obtain ⟨ty, b, h1, h2, h3⟩ := nm_type K hv
    refine ⟨_, rfl, v, _, _, _, b, rfl, ClsV.ty "str", h1, h2, b, rfl, ?_⟩
    rcases h3 with ⟨rfl, h3, hns⟩ | ⟨rfl, z, rfl, hz⟩
    · refine iteT (?_)
      have hk : knows v es = false := by
        cases v with
        | str z => exact absurd rfl (hns z)
        | _ => rfl
      exact ⟨_, rfl, raise_end (kx hk)⟩
    · refine iteF (?_)
      refine ⟨_, rfl, _, rfl, p, _, rfl, .inr hp, rfl, flat_strs es, _, rfl, ?_⟩
      show if (!inV (.str z) (es.map V.str)) = true then _ else _
      rw [inV_str]
      by_cases hm : z ∈ es
      · rw [decide_eq_true hm]
        exact iteF (k (by simp [knows, hm]))
      · rw [decide_eq_false hm]
        exact iteT (⟨_, rfl, raise_end (kx (by simp [knows, hm]))⟩)
theorem scDistinct : FnScope ["names", "found", "name"] ["names"] (defScope sDistinct) := ⟨rfl, rfl, rfl, by decide +kernel, rfl, by decide +kernel, by decide +kernel⟩
theorem ok_distinct {f : Addr} {fd : FuncData} (F : Fun K "distinct_names" "distinct_names" sDistinct f fd) (mT : mg "tuple" = none) (gN : Dfn P w K mg base (L2.CX P w) 4 "check_new" ["name", "earlier"] (spNewL K C)) :
    FnOk P w K mg base (L2.CX P w) 6 f fd ["names"] (spDistinct K C) := by
  obtain ⟨fN, dN, mN, kN, bN, GN⟩ := gN
  refine F.okX scDistinct (fun vs H Q E h => ?_) (fun cdv A outer s H vs Q E hr h => ?_)
  · obtain ⟨b, n, rfl, _⟩ := h
    rfl
  · obtain ⟨p, xs, rfl, hp, hx, hlen, k, kx⟩ := h
    have hr4 : Room 4 _ := hr.mono (by decide)
    rcases hp with hp | hp
    · refine ⟨_, pss_cons (ps_set (i := 1) scDistinct.nd rfl (Or.inl rfl) (pe_lst pa_nil)) (pss_cons (ps_for (passes_of rfl) rfl (pi_list (pv 0)) (pg_name (i := 2) scDistinct.nd rfl (Or.inl rfl))
        (pss_cons (ps_expr (pe_call GN hr4 (by rfl) mN kN bN .nil (passes_call (takes_of rfl rfl rfl rfl) (fun _ _ _ _ h => h)) (pa_cons (pv 2) (pa_cons (pv 1) pa_nil))))
        (pss_one (ps_expr (pe_bm PySem.F.plainAttrs_list PySem.F.slot_list_append PySem.F.type_list_append mt_append (pv 1) (pa_cons (pv 2) pa_nil))))))
        (pss_one (ps_ret (pe_callTy call_tuple_of (by rfl) mT (by decide +kernel) (pa_cons (pv 1) pa_nil))))), ?_⟩
      refine ⟨Nat.zero_le _, fun l hl => ⟨_, rfl, p, rfl, ⟨_, Same.seq (Same.upd_new hl) hp⟩, for_it (walk_list (K := K) (a := p) (xs := xs)) (fun i σ H' => ∃ (acc : List Str) (x : Option V), σ = [some (.ref p), some (.ref l), x] ∧ H' l = some (.lst (acc.map V.str)) ∧ Same H H' ∧ chkNames (xs.drop i) acc = chkNames xs [] ∧ acc.length ≤ i)
        ⟨[], none, rfl, upd_same, Same.upd_new hl, rfl, Nat.le_refl _⟩ (fun i σ H' _ ⟨_, _, _, _, s1, _⟩ => Same.seq s1 hp) ?_ ?_⟩⟩
      · rintro i v σ H1 H2 hi ⟨acc, x, rfl, hL, s1, hc, ha⟩ ⟨rfl, hv⟩
        have hd : xs.drop i = v :: xs.drop (i + 1) := by
          rw [List.drop_eq_getElem_cons hi]
          have q := (List.getElem?_eq_some_iff.mp hv).2
          rw [q]
        rw [hd] at hc
        refine ⟨_, rfl, _, rfl, v, l, acc, rfl, (hx v (List.mem_of_getElem? hv)).of s1, hL, fun H3 s3 hn => ?_, fun e he => ?_⟩
        · obtain ⟨z, rfl, _, _⟩ := chkNew_none hn
          refine ⟨_, rfl, .inl ⟨rfl, _, SqL.of (s3 _ _ hL)⟩, _, rfl, l, _, _, rfl, rfl, s3 _ _ hL, ?_, ?_⟩
          · rw [List.length_map]
            exact small1000 (by omega)
          · refine ⟨acc ++ [z], _, rfl, ?_, fun b o e => ?_, ?_, ?_⟩
            · rw [upd_same, List.map_append]; rfl
            · rw [upd_ne (ne_of_none e hl)]
              exact s3 _ _ (s1 _ _ e)
            · rw [← hc, chkNames, hn]
              rfl
            · rw [List.length_append]
              simp
              omega
        · have hce : chkNames xs [] = .error e := by rw [← hc, chkNames, he]
          exact Out.of s1 (kx e hce)
      · rintro σ H1 ⟨acc, x, rfl, hL, s1, hc, ha⟩
        rw [List.drop_length] at hc
        refine ⟨_, rfl, l, _, rfl, .inl ⟨SqL.of hL, fun t ht => ?_⟩⟩
        exact k acc hc.symm _ t (s1.trans (Same.upd_new ht)) (s1.free ht) upd_same
    · refine ⟨_, pss_cons (ps_set (i := 1) scDistinct.nd rfl (Or.inl rfl) (pe_lst pa_nil)) (pss_cons (ps_for (passes_of rfl) rfl (pi_tup (pv 0)) (pg_name (i := 2) scDistinct.nd rfl (Or.inl rfl))
        (pss_cons (ps_expr (pe_call GN hr4 (by rfl) mN kN bN .nil (passes_call (takes_of rfl rfl rfl rfl) (fun _ _ _ _ h => h)) (pa_cons (pv 2) (pa_cons (pv 1) pa_nil))))
        (pss_one (ps_expr (pe_bm PySem.F.plainAttrs_list PySem.F.slot_list_append PySem.F.type_list_append mt_append (pv 1) (pa_cons (pv 2) pa_nil))))))
        (pss_one (ps_ret (pe_callTy call_tuple_of (by rfl) mT (by decide +kernel) (pa_cons (pv 1) pa_nil))))), ?_⟩
      refine ⟨Nat.zero_le _, fun l hl => ⟨_, rfl, p, rfl, ⟨_, Same.tup (Same.upd_new hl) hp⟩, for_it (walk_tup (K := K) (a := p) (xs := xs)) (fun i σ H' => ∃ (acc : List Str) (x : Option V), σ = [some (.ref p), some (.ref l), x] ∧ H' l = some (.lst (acc.map V.str)) ∧ Same H H' ∧ chkNames (xs.drop i) acc = chkNames xs [] ∧ acc.length ≤ i)
        ⟨[], none, rfl, upd_same, Same.upd_new hl, rfl, Nat.le_refl _⟩ (fun i σ H' _ ⟨_, _, _, _, s1, _⟩ => Same.tup s1 hp) ?_ ?_⟩⟩
      · rintro i v σ H1 H2 hi ⟨acc, x, rfl, hL, s1, hc, ha⟩ ⟨rfl, hv⟩
        have hd : xs.drop i = v :: xs.drop (i + 1) := by
          rw [List.drop_eq_getElem_cons hi]
          have q := (List.getElem?_eq_some_iff.mp hv).2
          rw [q]
        rw [hd] at hc
        refine ⟨_, rfl, _, rfl, v, l, acc, rfl, (hx v (List.mem_of_getElem? hv)).of s1, hL, fun H3 s3 hn => ?_, fun e he => ?_⟩
        · obtain ⟨z, rfl, _, _⟩ := chkNew_none hn
          refine ⟨_, rfl, .inl ⟨rfl, _, SqL.of (s3 _ _ hL)⟩, _, rfl, l, _, _, rfl, rfl, s3 _ _ hL, ?_, ?_⟩
          · rw [List.length_map]
            exact small1000 (by omega)
          · refine ⟨acc ++ [z], _, rfl, ?_, fun b o e => ?_, ?_, ?_⟩
            · rw [upd_same, List.map_append]; rfl
            · rw [upd_ne (ne_of_none e hl)]
              exact s3 _ _ (s1 _ _ e)
            · rw [← hc, chkNames, hn]
              rfl
            · rw [List.length_append]
              simp
              omega
        · have hce : chkNames xs [] = .error e := by rw [← hc, chkNames, he]
          exact Out.of s1 (kx e hce)
      · rintro σ H1 ⟨acc, x, rfl, hL, s1, hc, ha⟩
        rw [List.drop_length] at hc
        refine ⟨_, rfl, l, _, rfl, .inl ⟨SqL.of hL, fun t ht => ?_⟩⟩
        exact k acc hc.symm _ t (s1.trans (Same.upd_new ht)) (s1.free ht) upd_same
end
end Dl

namespace Dl
open PySem L2
/-- the shown lamps: known ones, none of them twice -/
def chkShown : List V → List Str → List Str → Option Er
  | [], _, _ => none
  | v :: r, es, prev => if knows v es then (if strOf v ∈ prev then some (.dup v) else chkShown r es (prev ++ [strOf v])) else some (.unk v)
theorem knows_str {v : V} {es : List Str} (h : knows v es = true) : ∃ z, v = .str z ∧ z ∈ es := by
  cases v with
  | str z => exact ⟨z, rfl, of_decide_eq_true h⟩
  | _ => cases h
def spShown (K : PySem.W.Frag) (C : Cs) : Sp := fun vs H Q E => ∃ (p q : Addr) (xs : List V) (es : List Str), vs = [.ref p, .ref q] ∧ SqL K H p xs ∧ (∀ v ∈ xs, NmOk H v) ∧ xs.length ≤ 1000 ∧ SqT K H q (es.map V.str) ∧
  (∀ H', chkShown xs es [] = none → Same H H' → Q .non H') ∧ ∀ e, chkShown xs es [] = some e → Out C H E e
theorem cut_take (xs : List V) (i : Nat) : cutV xs none (some (i : Int)) = xs.take i := by
  unfold cutV
  rw [HT.sIx_nat, HT.sIx_none]
  simp only [List.drop_zero, Nat.sub_zero]
  by_cases h : i ≤ xs.length
  · rw [Nat.min_eq_left h]
  · rw [Nat.min_eq_right (by omega), List.take_of_length_le (by omega), List.take_of_length_le (by omega)]
section
variable {P : Program} {w : World} {K : PySem.W.Frag} {mg : Str → Option Value} {base : Heap} {C : Cs}
theorem scCheckShown : FnScope ["shown", "lamps", "at", "lamp"] ["shown", "lamps"] (defScope sCheckShown) := ⟨rfl, rfl, rfl, by decide +kernel, rfl, by decide +kernel, by decide +kernel⟩
theorem ok_shown {f : Addr} {fd : FuncData} (F : Fun K "_check_shown" "_check_shown" sCheckShown f fd) (mE : mg "enumerate" = none) (gN : Dfn P w K mg base (L2.CX P w) 4 "check_known" ["name", "names"] (spKnown K C)) (xD : Ex P w K mg base "DuplicateName" "name" C.dup) :
    FnOk P w K mg base (L2.CX P w) 6 f fd ["shown", "lamps"] (spShown K C) := by
  obtain ⟨fN, dN, mN, kN, bN, GN⟩ := gN
  obtain ⟨fD, dD, TD, bD, GD⟩ := xD
  refine F.okX scCheckShown (fun vs H Q E h => ?_) (fun cdv A outer s H vs Q E hr h => ?_)
  · obtain ⟨b, n, xs, es, rfl, _⟩ := h
    rfl
  · obtain ⟨p, q, xs, es, rfl, hp, hx, hlen, hq, k, kx⟩ := h
    have hr4 : Room 4 _ := hr.mono (by decide)
    have hr2 : Room 2 _ := hr.mono (by decide)
    refine ⟨_, pss_one (ps_for (passes_of rfl) rfl (pi_enum (by rfl) mE (pa_cons (pv 0) pa_nil)) (pg_tup rfl (pgs_cons (pg_name (i := 2) scCheckShown.nd rfl (Or.inl rfl)) (pgs_cons (pg_name (i := 3) scCheckShown.nd rfl (Or.inl rfl)) pgs_nil)))
        (pss_cons (ps_expr (pe_call GN hr4 (by rfl) mN kN bN .nil (passes_call (takes_of rfl rfl rfl rfl) (fun _ _ _ _ h => h)) (pa_cons (pv 3) (pa_cons (pv 1) pa_nil))))
        (pss_one (ps_if (pt_cmpR op_in_seq (pv 3) (pe_slice sl_list (pv 0) po_none (po_some (pv 2))) (by rfl))
          (pss_one (ps_raise rfl (takes_of rfl rfl rfl rfl) (pmk_oex TD.oex TD.iC TD.tI GD hr2 bD .nil pass0 (by rfl) TD.gC (pa_cons (pv 3) pa_nil)))) pss_nil)))), ?_⟩
    refine ⟨_, rfl, p, xs, rfl, hp, for_it (walk_enum (K := K) (a := p) (xs := xs)) (fun i σ H' => ∃ (x y : Option V) (prev : List Str), σ = [some (.ref p), some (.ref q), x, y] ∧ Same H H' ∧ xs.take i = prev.map V.str ∧ chkShown (xs.drop i) es prev = chkShown xs es [])
      ⟨none, none, [], rfl, Same.refl H, rfl, rfl⟩ (fun i σ H' _ ⟨_, _, _, _, s1, _⟩ => Same.seq s1 hp) ?_ ?_⟩
    · rintro i v σ H1 H2 hi ⟨x, y, prev, rfl, s1, ht, hc⟩ ⟨T, a, v, rfl, hT, rfl, ea, hv⟩
      cases ea
      have hd : xs.drop i = v :: xs.drop (i + 1) := by
        rw [List.drop_eq_getElem_cons hi]
        have q := (List.getElem?_eq_some_iff.mp hv).2
        rw [q]
      rw [hd] at hc
      have s2 : Same H (upd H1 T (.tup [.int (i : Nat), v])) := s1.trans (Same.upd_new hT)
      refine ⟨T, _, rfl, SqT.of upd_same, rfl, _, _, rfl, _, _, rfl, rfl, ?_⟩
      refine ⟨_, rfl, _, rfl, v, q, es, rfl, (hx v (List.mem_of_getElem? hv)).of s2, Same.tup s2 hq, fun hk => ?_, fun hk => ?_⟩
      · obtain ⟨z, rfl, hz⟩ := knows_str hk
        refine ⟨_, rfl, _, rfl, _, rfl, (i : Int), rfl, p, xs, rfl, Same.seq s2 hp, fun l hl => ?_⟩
        have hl' : (upd H1 T (.tup [.int (i : Nat), V.str z])) l = none := hl
        refine ⟨l, _, rfl, .inl (SqL.of upd_same), rfl, ?_, _, rfl, ?_⟩
        · rw [cut_take, ht]
          exact flat_strs prev
        · show if (inV (.str z) (cutV xs none (some (i : Int)))) = true then _ else _
          rw [cut_take, ht, inV_str]
          by_cases hm : z ∈ prev
          · rw [decide_eq_true hm]
            refine iteT (⟨_, rfl, raise_end ?_⟩)
            have hce : chkShown xs es [] = some (.dup (.str z)) := by
              rw [← hc, chkShown, if_pos hk, if_pos (show strOf (.str z) ∈ prev from hm)]
            exact Out.of (e := .dup (.str z)) (s2.trans (Same.upd_new hl')) (kx _ hce)
          · rw [decide_eq_false hm]
            refine iteF ?_
            refine ⟨_, _, prev ++ [z], rfl, s2.trans (Same.upd_new hl'), ?_, ?_⟩
            · have hv2 : xs[i]? = some (V.str z) := hv
              rw [List.take_succ, ht, hv2, List.map_append]
              rfl
            · rw [← hc, chkShown, if_pos hk, if_neg (show ¬ strOf (.str z) ∈ prev from hm)]
              rfl
      · have hce : chkShown xs es [] = some (.unk v) := by
          rw [← hc, chkShown, if_neg (by rw [hk]; decide)]
        exact Out1.of s2 (kx _ hce)
    · rintro σ H1 ⟨x, y, prev, rfl, s1, ht, hc⟩
      rw [List.drop_length] at hc
      exact k H1 hc.symm s1
end
end Dl

namespace Dl
open PySem PySem.Spec PyProof.Rows L2
/-! enumerate(t) of a tuple: my own rule -/
theorem enum_new_tup (l : Addr) (items : Array Value) (n : Nat) (dct : Option Addr) (sl : Array (Option Value)) :
    Meets (Builtin.«enumerate.__new__» ⟨[.type "enumerate", .ref l], []⟩) (fun _ R s => s.heap.get? l = some { cls := .type "tuple", dict := dct, data := .seq items n, slots := sl } ∧
      R (.ok (.ret (.ref (s.heap.push { cls := .type "tuple_iterator", data := .fields #[.ref l, .int 0 0] }).objs.size)))
        { s with heap := (s.heap.push { cls := .type "tuple_iterator", data := .fields #[.ref l, .int 0 0] }).push { cls := .type "enumerate", data := .fields #[.none, .bool false, .ref s.heap.objs.size, rawInt 0, .none, .none] } }) :=
  .of_wp fun prog w A R s h => by
    obtain ⟨hp, g, d, tk, os⟩ := s
    obtain ⟨hl, h⟩ := h
    have hsub := sub_enumerate
    have hT : Heap.IsTuple (Shared.heap ⟨hp, g, d, tk, os⟩) l items := ⟨_, hl, rfl, n, rfl⟩
    wp_walk using AutoSeq1.wpAny_loadPart' hl
    refine wpAny_stack_any fun st => wpAny_pure ?_
    split
    · rename_i c _ _ _ _ _
      cases (c == Value.type "enumerate") <;>
        (wp_walk using AutoSeq1.wpAny_loadPart' hl, wpAny_pyIter_tuple hT
         exact ⟨_, rfl, h⟩)
    · wp_walk using AutoSeq1.wpAny_loadPart' hl, wpAny_pyIter_tuple hT
      exact ⟨_, rfl, h⟩
end Dl
namespace Dl
open PySem PySem.Spec PyProof.Rows L2
section
variable {prog : Program} {w : World} {A : Around} {E : Value → Shared → Prop} {s : Shared}
theorem call_enum_tup {l : Addr} {items : Array Value} {Q : Value → Shared → Prop} (hL : s.heap.IsTuple l items)
    (h : ∀ h', IsEnum h' (s.heap.objs.size + 1) s.heap.objs.size 0 .none → h'.IsTupleIter s.heap.objs.size l 0 → h'.objs.size = s.heap.objs.size + 2 →
      (∀ b o, s.heap.get? b = some o → h'.get? b = some o) → Q (.ref (s.heap.objs.size + 1)) { s with heap := h' }) :
    wpAny (model prog w) A (call (.type "enumerate") [.ref l]) Q E s := by
  obtain ⟨⟨c, dct, dt, sl⟩, hl, hc, n, hd⟩ := hL
  have hc' : c = .type "tuple" := hc
  have hd' : dt = .seq items n := hd
  subst hc' hd'
  refine callType_new F.called_enumerate (by decide) (F.typeCall_enumerate_1 _) (F.newCall_enumerate_1 _) (fun obj => F.args_object_init_2 obj _) F.entry_enumerate_new (enum_new_tup l items n dct sl) ⟨hl, ?_⟩
  generalize hp1 : s.heap.push { cls := .type "tuple_iterator", data := .fields #[.ref l, .int 0 0] } = h1
  have hz : h1.objs.size = s.heap.objs.size + 1 := by rw [← hp1]; exact Heap.size_push ..
  show _ ∧ _
  rw [hz]
  generalize hp2 : h1.push { cls := .type "enumerate", data := .fields #[.none, .bool false, .ref s.heap.objs.size, rawInt 0, .none, .none] } = h2
  have he : IsEnum h2 (s.heap.objs.size + 1) s.heap.objs.size 0 .none := by
    have q := Heap.get?_push_size h1 (o := { cls := .type "enumerate", data := .fields #[.none, .bool false, .ref s.heap.objs.size, rawInt 0, .none, .none] }) rfl
    rw [hz, hp2] at q
    exact q
  have up1 : ∀ b o, s.heap.get? b = some o → h1.get? b = some o := fun b o x => by rw [← hp1]; exact Heap.get?_push_of_some _ x
  have up2 : ∀ b o, h1.get? b = some o → h2.get? b = some o := fun b o x => by rw [← hp2]; exact Heap.get?_push_of_some _ x
  have it1 : h1.get? s.heap.objs.size = some { cls := .type "tuple_iterator", data := .fields #[.ref l, .int 0 0] } := by rw [← hp1]; exact Heap.get?_push_size _ rfl
  exact ⟨⟨_, he, rfl⟩, h _ he ⟨_, up2 _ _ it1, rfl, rfl⟩ (by rw [← hp2, Heap.size_push, hz]) fun b o x => up2 _ _ (up1 _ _ x)⟩
end
/-- the tuple at a, each item in a new pair with its number -/
def IteT (K : PySem.W.Frag) (a : Addr) : It :=
  ⟨fun i H => ∃ (xs : List V) (x : V), SqT K H a xs ∧ xs[i]? = some x, fun i H v H' => ∃ T x, v = .ref T ∧ H T = none ∧ H' = upd H T (.tup [.int (i : Nat), x]) ∧ ∀ xs, SqT K H a xs → xs[i]? = some x, fun i H => ∃ xs : List V, SqT K H a xs ∧ xs.length = i⟩
theorem turn_enumT {P : Program} {w : World} {K : PySem.W.Frag} {elts : List Expr} {kk : Nat} {tpos : Pos} (a e it : Addr) :
    Turn P w K (.Tuple elts kk tpos) (IteT K a) [e, it] e (fun i h => (∃ old, IsEnum h e it ((i : Nat) : Int) old) ∧ h.IsTupleIter it a i ∧ e ≠ it) where
  mem := by simp
  obj := fun i h st b hb => by
    obtain ⟨⟨old, he⟩, ⟨o, ho, hc, hd⟩, _⟩ := st
    have two : b = e ∨ b = it := by simpa using hb
    rcases two with rfl | rfl
    · exact ⟨_, he, fun v q => nomatch q⟩
    · exact ⟨o, ho, fun v q => by rw [hd] at q; cases q⟩
  keep := fun i h h' st k => by
    obtain ⟨⟨old, he⟩, hi, hne⟩ := st
    exact ⟨⟨old, k e (by simp) _ he⟩, hi.at fun o q => k it (by simp) o q, hne⟩
  item := by
    intro X hP hw hK hc i pins s σ H E I hf st hg
    subst hP hw hK
    obtain ⟨⟨old, he⟩, hit, hne⟩ := st
    obtain ⟨xs, x, hq, hx⟩ := hg
    obtain ⟨its, rv, p, hz⟩ := I.tuple hq
    have hp : s.heap.IsTuple a its.toArray := p
    obtain ⟨u, hu, ru⟩ := rv.get hx
    have hel : e < s.heap.objs.size := Heap.lt_size he
    have hil : it < s.heap.objs.size := by obtain ⟨_, q, _⟩ := hit; exact Heap.lt_size q
    have nai : a ≠ it := fun z => by
      obtain ⟨o1, q1, c1, _⟩ := hp
      obtain ⟨o2, q2, c2, _⟩ := hit
      rw [z, q2] at q1
      cases q1
      rw [c2] at c1
      exact absurd c1 (by decide)
    have nea : e ≠ a := fun z => by
      obtain ⟨o1, q1, c1, _⟩ := hp
      have q2 := he
      rw [z] at q2
      have q3 := q1.symm.trans q2
      cases q3
      have c2 : Value.type "enumerate" = Value.type "tuple" := c1
      exact absurd c2 (by decide)
    have hi : i < its.toArray.size := by
      have := (List.getElem?_eq_some_iff.mp hu).1
      simpa using this
    refine wpAny_pyNext_enum_itemC (Draws.tuple (prog := X.prog) (w := X.w) (A := X.A.in1) (show X.A.in1.handled = none from I.ok.hd hc) it a nai its.toArray) he ⟨hit, hp⟩ hi hne (by simp [hne, nea]) fun y h' tk hy ho st' hT hsz hk => ?_
    have ey : y = u := by
      have q : its.toArray[i]? = some y := hy
      rw [List.getElem?_toArray, hu] at q
      exact (Option.some.inj q).symm
    subst ey
    refine ⟨_, rfl, wpAny_letOwnedTupleGo_enum (s := { s with heap := h', toks := tk + 1 }) ho fun h'' he' sb => ?_⟩
    have hT2 : h''.get? s.heap.objs.size = some { cls := .type "tuple", data := .seq #[.int i tk, y] } := (sb.2 _ (Nat.ne_of_gt hel)).trans hT
    have new : ObjOk X.prog X.w (upd H s.heap.objs.size (.tup [.int (i : Nat), x])) h'' s.heap.objs.size (.tup [.int (i : Nat), x]) :=
      ⟨by show 2 ≤ sizeLine; decide, [.int i tk, y], .cons ⟨_, rfl⟩ (.cons ru .nil), ⟨_, hT2, rfl, _, rfl⟩⟩
    have I1 : Inv X pins σ (upd H s.heap.objs.size (.tup [.int (i : Nat), x])) { s with heap := h'', toks := tk + 1 } :=
      I.turnedNew (t' := tk + 1) (ch := [e, it]) (fun b ob hb q => (sb.2 b (fun z => hb (by simp [z]))).trans (hk b ob (fun z => hb (by simp [z])) (fun z => hb (by simp [z])) q)) hf (Nat.le_refl _) new
    refine ⟨.ref s.heap.objs.size, _, I1, rfl, ⟨_, x, rfl, I.hok.fresh (Nat.le_refl _), rfl, fun ys hys => by rw [I.tuple_inj hys hq]; exact hx⟩, ⟨⟨y, ?_⟩, st'.1.at fun o q => (sb.2 it (Ne.symm hne)).trans q, hne⟩, fun b hb => ?_⟩
    · have e1 : ((i + 1 : Nat) : Int) = (i : Int) + 1 := by omega
      rw [e1]
      exact he'
    · have lt : b < s.heap.objs.size := by
        have two : b = e ∨ b = it := by simpa using hb
        rcases two with rfl | rfl
        · exact hel
        · exact hil
      rw [upd_ne (Nat.ne_of_lt lt)]
      exact (hf b hb).1
  done := by
    intro X hP hw hK hc i pins s σ H E I hf st hg
    subst hP hw hK
    obtain ⟨⟨old, he⟩, hit, hne⟩ := st
    obtain ⟨xs, hq, hx⟩ := hg
    obtain ⟨its, rv, p, hz⟩ := I.tuple hq
    have hp : s.heap.IsTuple a its.toArray := p
    obtain ⟨f0, f1, f2, f3, f4, f5⟩ := hf it (by simp)
    have nai : a ≠ it := fun z => by
      obtain ⟨o1, q1, c1, _⟩ := hp
      obtain ⟨o2, q2, c2, _⟩ := hit
      rw [z, q2] at q1
      cases q1
      rw [c2] at c1
      exact absurd c1 (by decide)
    have hl : its.toArray.size = i := by
      have := rv.length
      simp
      omega
    exact wpAny_pyNext_enum_endD (Draws.tuple (prog := X.prog) (w := X.w) (A := X.A.in1) (show X.A.in1.handled = none from I.ok.hd hc) it a nai its.toArray) he ⟨by rw [hl]; exact hit, hp⟩ fun h' eb => ⟨rfl, I.turned (t' := s.toks) (fun b o hb q => eb b o hb q) f0 f1 f3 f4 f5⟩
  self := fun A i s Q E st h => let ⟨⟨_, he⟩, _⟩ := st; wpAny_pyIter_enum he h
def iEnumT (K : PySem.W.Frag) (ta : TA) : TI := fun σ H R => ta σ H fun vs H1 => ∃ a xs, vs = [.ref a] ∧ SqT K H1 a xs ∧ R (IteT K a) H1
theorem pi_enumT {X : Cx} {e : Expr} {ta : TA} {p pos tpos : Pos} {elts : List Expr} {kk : Nat} (hg : Gl X "enumerate") (hm : X.mg "enumerate" = none) (ha : PA X [e] ta) (hs : starEach [e] X.env = [(false, eval e X.env)] := by rfl) :
    PI X (.Tuple elts kk tpos) (.Call (.Name "enumerate" p) [e] [] pos) (iEnumT X.K ta) := by
  constructor
  intro pins s σ H R I h
  refine Call_ ?_
  refine ld_blt I hg hm boot_enumerate ?_
  apply PyProof.Rows.callWith_type1 _ hs rfl
  apply thn (ha.run pos pins s σ H _ I h)
  rintro us s1 ⟨vs, H1, I1, r1, a, xs, rfl, hq, q⟩
  obtain ⟨u, rfl, ru⟩ := vals1 r1
  cases ru
  obtain ⟨its, rv, p', hz⟩ := I1.tuple hq
  refine call_enum_tup (show s1.heap.IsTuple a its.toArray from p') fun h' he hit hsz hk => wpAny_pyIter_enum he ?_
  have I2 : Inv X pins σ H1 { s1 with heap := h' } := I1.kept (t' := s1.toks) hk
  refine ⟨s1.heap.objs.size + 1, [s1.heap.objs.size + 1, s1.heap.objs.size], _, _, H1, rfl, I2, turn_enumT a (s1.heap.objs.size + 1) s1.heap.objs.size, ⟨⟨.none, he⟩, hit, Nat.succ_ne_self _⟩, fun b hb => ?_, q⟩
  have hle : s1.heap.objs.size ≤ b := by
    have two : b = s1.heap.objs.size + 1 ∨ b = s1.heap.objs.size := by simpa using hb
    rcases two with z | z
    · rw [z]; exact Nat.le_add_right _ _
    · rw [z]; exact Nat.le_refl _
  exact I1.fpOk hle (I1.hok.fresh hle)
theorem walk_enumT {K : PySem.W.Frag} {a : Addr} {xs : List V} : Walk (IteT K a) xs.length (fun H => SqT K H a xs) (YPair (fun i => some (.int (i : Nat))) (fun i => xs[i]?)) := by
  constructor
  · intro i H hi q
    exact ⟨xs, xs[i], q, by simp [hi]⟩
  · intro H q
    exact ⟨xs, q, rfl⟩
  · rintro i H v H' _ q ⟨T, x, h1, h2, h3, h4⟩
    exact ⟨T, .int (i : Nat), x, h1, h2, h3, rfl, h4 xs q⟩
end Dl

namespace Dl
open PySem L2
def spShown2 (K : PySem.W.Frag) (C : Cs) : Sp := fun vs H Q E => ∃ (p q : Addr) (xs : List V) (es : List Str), vs = [.ref p, .ref q] ∧ (SqL K H p xs ∨ SqT K H p xs) ∧ (∀ v ∈ xs, NmOk H v) ∧ xs.length ≤ 1000 ∧ SqT K H q (es.map V.str) ∧
  (∀ H', chkShown xs es [] = none → Same H H' → Q .non H') ∧ ∀ e, chkShown xs es [] = some e → Out C H E e
section
variable {P : Program} {w : World} {K : PySem.W.Frag} {mg : Str → Option Value} {base : Heap} {C : Cs}
theorem ok_shown2 {f : Addr} {fd : FuncData} (F : Fun K "_check_shown" "_check_shown" sCheckShown f fd) (mE : mg "enumerate" = none) (gN : Dfn P w K mg base (L2.CX P w) 4 "check_known" ["name", "names"] (spKnown K C)) (xD : Ex P w K mg base "DuplicateName" "name" C.dup) :
    FnOk P w K mg base (L2.CX P w) 6 f fd ["shown", "lamps"] (spShown2 K C) := by
  obtain ⟨fN, dN, mN, kN, bN, GN⟩ := gN
  obtain ⟨fD, dD, TD, bD, GD⟩ := xD
  refine F.okX scCheckShown (fun vs H Q E h => ?_) (fun cdv A outer s H vs Q E hr h => ?_)
  · obtain ⟨b, n, xs, es, rfl, _⟩ := h
    rfl
  · obtain ⟨p, q, xs, es, rfl, hp, hx, hlen, hq, k, kx⟩ := h
    have hr4 : Room 4 _ := hr.mono (by decide)
    have hr2 : Room 2 _ := hr.mono (by decide)
    rcases hp with hp | hp
    · refine ⟨_, pss_one (ps_for (passes_of rfl) rfl (pi_enum (by rfl) mE (pa_cons (pv 0) pa_nil)) (pg_tup rfl (pgs_cons (pg_name (i := 2) scCheckShown.nd rfl (Or.inl rfl)) (pgs_cons (pg_name (i := 3) scCheckShown.nd rfl (Or.inl rfl)) pgs_nil)))
          (pss_cons (ps_expr (pe_call GN hr4 (by rfl) mN kN bN .nil (passes_call (takes_of rfl rfl rfl rfl) (fun _ _ _ _ h => h)) (pa_cons (pv 3) (pa_cons (pv 1) pa_nil))))
          (pss_one (ps_if (pt_cmpR op_in_seq (pv 3) (pe_slice sl_list (pv 0) po_none (po_some (pv 2))) (by rfl))
            (pss_one (ps_raise rfl (takes_of rfl rfl rfl rfl) (pmk_oex TD.oex TD.iC TD.tI GD hr2 bD .nil pass0 (by rfl) TD.gC (pa_cons (pv 3) pa_nil)))) pss_nil)))), ?_⟩
      refine ⟨_, rfl, p, xs, rfl, hp, for_it (walk_enum (K := K) (a := p) (xs := xs)) (fun i σ H' => ∃ (x y : Option V) (prev : List Str), σ = [some (.ref p), some (.ref q), x, y] ∧ Same H H' ∧ xs.take i = prev.map V.str ∧ chkShown (xs.drop i) es prev = chkShown xs es [])
        ⟨none, none, [], rfl, Same.refl H, rfl, rfl⟩ (fun i σ H' _ ⟨_, _, _, _, s1, _⟩ => Same.seq s1 hp) ?_ ?_⟩
      · rintro i v σ H1 H2 hi ⟨x, y, prev, rfl, s1, ht, hc⟩ ⟨T, a, v, rfl, hT, rfl, ea, hv⟩
        cases ea
        have hd : xs.drop i = v :: xs.drop (i + 1) := by
          rw [List.drop_eq_getElem_cons hi]
          have q := (List.getElem?_eq_some_iff.mp hv).2
          rw [q]
        rw [hd] at hc
        have s2 : Same H (upd H1 T (.tup [.int (i : Nat), v])) := s1.trans (Same.upd_new hT)
        refine ⟨T, _, rfl, SqT.of upd_same, rfl, _, _, rfl, _, _, rfl, rfl, ?_⟩
        refine ⟨_, rfl, _, rfl, v, q, es, rfl, (hx v (List.mem_of_getElem? hv)).of s2, Same.tup s2 hq, fun hk => ?_, fun hk => ?_⟩
        · obtain ⟨z, rfl, hz⟩ := knows_str hk
          refine ⟨_, rfl, _, rfl, _, rfl, (i : Int), rfl, p, xs, rfl, Same.seq s2 hp, fun l hl => ?_⟩
          have hl' : (upd H1 T (.tup [.int (i : Nat), V.str z])) l = none := hl
          refine ⟨l, _, rfl, .inl (SqL.of upd_same), rfl, ?_, _, rfl, ?_⟩
          · rw [cut_take, ht]
            exact flat_strs prev
          · show if (inV (.str z) (cutV xs none (some (i : Int)))) = true then _ else _
            rw [cut_take, ht, inV_str]
            by_cases hm : z ∈ prev
            · rw [decide_eq_true hm]
              refine iteT (⟨_, rfl, raise_end ?_⟩)
              have hce : chkShown xs es [] = some (.dup (.str z)) := by
                rw [← hc, chkShown, if_pos hk, if_pos (show strOf (.str z) ∈ prev from hm)]
              exact Out.of (e := .dup (.str z)) (s2.trans (Same.upd_new hl')) (kx _ hce)
            · rw [decide_eq_false hm]
              refine iteF ?_
              refine ⟨_, _, prev ++ [z], rfl, s2.trans (Same.upd_new hl'), ?_, ?_⟩
              · have hv2 : xs[i]? = some (V.str z) := hv
                rw [List.take_succ, ht, hv2, List.map_append]
                rfl
              · rw [← hc, chkShown, if_pos hk, if_neg (show ¬ strOf (.str z) ∈ prev from hm)]
                rfl
        · have hce : chkShown xs es [] = some (.unk v) := by
            rw [← hc, chkShown, if_neg (by rw [hk]; decide)]
          exact Out1.of s2 (kx _ hce)
      · rintro σ H1 ⟨x, y, prev, rfl, s1, ht, hc⟩
        rw [List.drop_length] at hc
        exact k H1 hc.symm s1
    · refine ⟨_, pss_one (ps_for (passes_of rfl) rfl (pi_enumT (by rfl) mE (pa_cons (pv 0) pa_nil)) (pg_tup rfl (pgs_cons (pg_name (i := 2) scCheckShown.nd rfl (Or.inl rfl)) (pgs_cons (pg_name (i := 3) scCheckShown.nd rfl (Or.inl rfl)) pgs_nil)))
          (pss_cons (ps_expr (pe_call GN hr4 (by rfl) mN kN bN .nil (passes_call (takes_of rfl rfl rfl rfl) (fun _ _ _ _ h => h)) (pa_cons (pv 3) (pa_cons (pv 1) pa_nil))))
          (pss_one (ps_if (pt_cmpR op_in_seq (pv 3) (pe_slice sl_tup (pv 0) po_none (po_some (pv 2))) (by rfl))
            (pss_one (ps_raise rfl (takes_of rfl rfl rfl rfl) (pmk_oex TD.oex TD.iC TD.tI GD hr2 bD .nil pass0 (by rfl) TD.gC (pa_cons (pv 3) pa_nil)))) pss_nil)))), ?_⟩
      refine ⟨_, rfl, p, xs, rfl, hp, for_it (walk_enumT (K := K) (a := p) (xs := xs)) (fun i σ H' => ∃ (x y : Option V) (prev : List Str), σ = [some (.ref p), some (.ref q), x, y] ∧ Same H H' ∧ xs.take i = prev.map V.str ∧ chkShown (xs.drop i) es prev = chkShown xs es [])
        ⟨none, none, [], rfl, Same.refl H, rfl, rfl⟩ (fun i σ H' _ ⟨_, _, _, _, s1, _⟩ => Same.tup s1 hp) ?_ ?_⟩
      · rintro i v σ H1 H2 hi ⟨x, y, prev, rfl, s1, ht, hc⟩ ⟨T, a, v, rfl, hT, rfl, ea, hv⟩
        cases ea
        have hd : xs.drop i = v :: xs.drop (i + 1) := by
          rw [List.drop_eq_getElem_cons hi]
          have q := (List.getElem?_eq_some_iff.mp hv).2
          rw [q]
        rw [hd] at hc
        have s2 : Same H (upd H1 T (.tup [.int (i : Nat), v])) := s1.trans (Same.upd_new hT)
        refine ⟨T, _, rfl, SqT.of upd_same, rfl, _, _, rfl, _, _, rfl, rfl, ?_⟩
        refine ⟨_, rfl, _, rfl, v, q, es, rfl, (hx v (List.mem_of_getElem? hv)).of s2, Same.tup s2 hq, fun hk => ?_, fun hk => ?_⟩
        · obtain ⟨z, rfl, hz⟩ := knows_str hk
          have whole : ¬ (HT.sIx xs.length 0 none = 0 ∧ HT.sIx xs.length xs.length (some ((i : Nat) : Int)) = xs.length) := by
            rw [HT.sIx_nat]
            omega
          refine ⟨_, rfl, _, rfl, _, rfl, (i : Int), rfl, p, xs, rfl, Same.tup s2 hp, whole, fun l hl => ?_⟩
          have hl' : (upd H1 T (.tup [.int (i : Nat), V.str z])) l = none := hl
          refine ⟨l, _, rfl, .inr (SqT.of upd_same), rfl, ?_, _, rfl, ?_⟩
          · rw [cut_take, ht]
            exact flat_strs prev
          · show if (inV (.str z) (cutV xs none (some (i : Int)))) = true then _ else _
            rw [cut_take, ht, inV_str]
            by_cases hm : z ∈ prev
            · rw [decide_eq_true hm]
              refine iteT (⟨_, rfl, raise_end ?_⟩)
              have hce : chkShown xs es [] = some (.dup (.str z)) := by
                rw [← hc, chkShown, if_pos hk, if_pos (show strOf (.str z) ∈ prev from hm)]
              exact Out.of (e := .dup (.str z)) (s2.trans (Same.upd_new hl')) (kx _ hce)
            · rw [decide_eq_false hm]
              refine iteF ?_
              refine ⟨_, _, prev ++ [z], rfl, s2.trans (Same.upd_new hl'), ?_, ?_⟩
              · have hv2 : xs[i]? = some (V.str z) := hv
                rw [List.take_succ, ht, hv2, List.map_append]
                rfl
              · rw [← hc, chkShown, if_pos hk, if_neg (show ¬ strOf (.str z) ∈ prev from hm)]
                rfl
        · have hce : chkShown xs es [] = some (.unk v) := by
            rw [← hc, chkShown, if_neg (by rw [hk]; decide)]
          exact Out1.of s2 (kx _ hce)
      · rintro σ H1 ⟨x, y, prev, rfl, s1, ht, hc⟩
        rw [List.drop_length] at hc
        exact k H1 hc.symm s1
end
end Dl

namespace Dl
open PySem L2
def chosen (ns cs : List Str) : List Str := ns.filter fun z => decide (z ∈ cs)
def spChosen (K : PySem.W.Frag) : Sp := fun vs H Q _ => ∃ (p q : Addr) (ns cs : List Str), vs = [.ref p, .ref q] ∧ SqT K H p (ns.map V.str) ∧ (SqL K H q (cs.map V.str) ∨ SqT K H q (cs.map V.str)) ∧ ns.length ≤ 1000 ∧
  ∀ H' t, Same H H' → H t = none → H' t = some (.tup ((chosen ns cs).map V.str)) → Q (.ref t) H'
theorem Same.either {K : PySem.W.Frag} {H H' : Hp} {a : Addr} {xs : List V} (e : Same H H') (h : SqL K H a xs ∨ SqT K H a xs) : SqL K H' a xs ∨ SqT K H' a xs := h.imp (Same.seq e) (Same.tup e)
section
variable {P : Program} {w : World} {K : PySem.W.Frag} {mg : Str → Option Value} {base : Heap} {C : Cs}
theorem scChosen : FnScope ["names", "chosen", "name"] ["names", "chosen"] (defScope sChosen) := ⟨rfl, rfl, rfl, by decide +kernel, rfl, by decide +kernel, by decide +kernel⟩
theorem ok_chosen {f : Addr} {fd : FuncData} (F : Fun K "_chosen_of" "_chosen_of" sChosen f fd) (mT : mg "tuple" = none) : FnOk P w K mg base CX0 1 f fd ["names", "chosen"] (spChosen K) := by
  refine F.ok scChosen (fun vs H Q E h => ?_) (fun cdv A outer s H vs Q E hr h => ?_)
  · obtain ⟨b, n, xs, es, rfl, _⟩ := h
    rfl
  · obtain ⟨p, q, ns, cs, rfl, hp, hq, hlen, k⟩ := h
    refine ⟨_, pss_one (ps_ret (pe_callTy call_tuple_of (by rfl) mT (by decide +kernel) (pa_cons
      (pe_lc (own := [("name", 2)]) (g := gName 2) (tt := tTest (tOp (rIn K false) (tVar 2) (tVar 1))) rfl scChosen.nd (pi_tup (pv 0)) (blkOk_by (N := ["names", "chosen", "name"]) (sc := defScope sChosen) (by decide +kernel))
          (fun _ _ _ _ _ => pg_name (i := 2) scChosen.nd rfl (Or.inl rfl)) (fun _ _ _ _ _ => pts_one (pt_cmpR op_in_seq (pv 2) (pv 1) (by rfl))) (fun _ _ _ _ _ => pv 2)) pa_nil))), ?_⟩
    refine ⟨_, rfl, p, rfl, ⟨_, hp⟩, fun D hD => lc_it (walk_tup (K := K) (a := p) (xs := ns.map V.str)) (fun i H' => H' = upd H D (.lst ((chosen (ns.take i) cs).map V.str))) rfl (fun i H' _ e => by rw [e]; exact Same.tup (Same.upd_new hD) hp) ?_ ?_⟩
    · rintro i x H1 H2 hi rfl ⟨rfl, hx⟩
      rw [List.length_map] at hi
      have hx2 : (ns.map V.str)[i]? = some x := hx
      rw [List.getElem?_map] at hx2
      cases e : ns[i]? with
      | none => rw [e] at hx2; cases hx2
      | some z =>
      rw [e] at hx2
      obtain rfl : V.str z = x := Option.some.inj hx2
      have s1 : Same H (upd H D (.lst ((chosen (ns.take i) cs).map V.str))) := Same.upd_new hD
      have st : chosen (ns.take (i + 1)) cs = chosen (ns.take i) cs ++ (if decide (z ∈ cs) = true then [z] else []) := by
        unfold chosen
        rw [List.take_succ, e, List.filter_append]
        by_cases hz : z ∈ cs <;> simp [hz]
      refine ⟨rfl, _, rfl, _, rfl, q, _, rfl, Same.either s1 hq, rfl, flat_strs cs, inV (.str z) (cs.map V.str), rfl, ?_⟩
      rw [inV_str]
      by_cases hz : z ∈ cs
      · rw [decide_eq_true hz]
        refine iteT ⟨_, rfl, _, upd_same, ?_, ?_⟩
        · have q1 : (chosen (ns.take i) cs).length ≤ i := Nat.le_trans (List.length_filter_le _ _) (by rw [List.length_take]; omega)
          rw [List.length_map]
          exact small1000 (by omega)
        · rw [upd_upd, st, decide_eq_true hz, if_pos rfl, List.map_append]
          rfl
      · rw [decide_eq_false hz]
        refine iteF ?_
        rw [st, decide_eq_false hz, if_neg (by decide), List.append_nil]
    · rintro H1 rfl
      refine ⟨D, _, rfl, .inl ⟨SqL.of upd_same, fun t ht => ?_⟩⟩
      have ht' : (upd H D (.lst ((chosen (ns.take (ns.map V.str).length) cs).map V.str))) t = none := ht
      refine k _ t ((Same.upd_new hD).trans (Same.upd_new ht')) ((Same.upd_new hD).free ht') ?_
      rw [upd_same, List.length_map, List.take_length]
end
end Dl

namespace Dl
open PySem L2
/-! ### the fields of a table, in the order in which they are set -/
theorem ne_sl : ¬ (("_shown" : Str) = "lamps") := by decide +kernel
theorem ne_ls : ¬ (("lamps" : Str) = "_shown") := by decide +kernel
theorem ne_ll : ¬ (("lamps" : Str) = "looks") := by decide +kernel
theorem ne_l2 : ¬ (("looks" : Str) = "lamps") := by decide +kernel
theorem ne_sk : ¬ (("_shown" : Str) = "looks") := by decide +kernel
theorem ne_ks : ¬ (("looks" : Str) = "_shown") := by decide +kernel
def pf1 (a : V) : List (Str × V) := putF "lamps" a []
def pf2 (a b : V) : List (Str × V) := putF "_shown" b (pf1 a)
def pf3 (a b c : V) : List (Str × V) := putF "looks" c (pf2 a b)
theorem putF_length (f : Str) (v : V) : ∀ fs : List (Str × V), (putF f v fs).length ≤ fs.length + 1
  | [] => by simp [putF]
  | (g, x) :: r => by
    unfold putF
    by_cases h : g = f
    · rw [if_pos h]; simp
    · rw [if_neg h]
      have := putF_length f v r
      simp only [List.length_cons]; omega
theorem pf1_len (a : V) : (pf1 a).length ≤ 1 := putF_length _ _ _
theorem pf2_len (a b : V) : (pf2 a b).length ≤ 2 := Nat.le_trans (putF_length _ _ _) (Nat.succ_le_succ (pf1_len a))
theorem pf1_lamps (a : V) : (pf1 a).lookup ("lamps" : Str) = some a := by unfold pf1; rw [lookup_putF, if_pos rfl]
theorem pf2_lamps (a b : V) : (pf2 a b).lookup ("lamps" : Str) = some a := by unfold pf2; rw [lookup_putF, if_neg ne_ls, pf1_lamps]
theorem pf2_shown (a b : V) : (pf2 a b).lookup ("_shown" : Str) = some b := by unfold pf2; rw [lookup_putF, if_pos rfl]
theorem pf3_lamps (a b c : V) : (pf3 a b c).lookup ("lamps" : Str) = some a := by unfold pf3; rw [lookup_putF, if_neg ne_ll, pf2_lamps]
theorem pf3_shown (a b c : V) : (pf3 a b c).lookup ("_shown" : Str) = some b := by unfold pf3; rw [lookup_putF, if_neg ne_sk, pf2_shown]
theorem pf3_looks (a b c : V) : (pf3 a b c).lookup ("looks" : Str) = some c := by unfold pf3; rw [lookup_putF, if_pos rfl]
theorem pf3_no (a b c : V) {m : Str} (h1 : ¬ m = "lamps") (h2 : ¬ m = "_shown") (h3 : ¬ m = "looks") : (pf3 a b c).lookup m = none := by
  unfold pf3 pf2 pf1
  rw [lookup_putF, if_neg h3, lookup_putF, if_neg h2, lookup_putF, if_neg h1]
  rfl
/-! ### what a table holds -/
inductive RowsAt (H : Hp) : List (Str × List Str) → List (Key × V) → Prop
  | nil : RowsAt H [] []
  | cons {k : Str} {sh : List Str} {a : Addr} {r : List (Str × List Str)} {kvs : List (Key × V)} : H a = some (.tup (sh.map V.str)) → RowsAt H r kvs → RowsAt H ((k, sh) :: r) ((Sum.inr k, .ref a) :: kvs)
theorem RowsAt.keys {H : Hp} {rs : List (Str × List Str)} {kvs : List (Key × V)} (h : RowsAt H rs kvs) : kvs.map (·.1) = (rs.map (·.1)).map Sum.inr := by
  induction h with
  | nil => rfl
  | cons _ _ ih => rw [List.map_cons, List.map_cons, List.map_cons, ih]
theorem RowsAt.length {H : Hp} {rs : List (Str × List Str)} {kvs : List (Key × V)} (h : RowsAt H rs kvs) : kvs.length = rs.length := by
  have q := congrArg List.length h.keys
  rw [List.length_map, List.length_map, List.length_map] at q
  exact q
theorem RowsAt.of {H H' : Hp} {rs : List (Str × List Str)} {kvs : List (Key × V)} (s : ∀ b xs, H b = some (.tup xs) → H' b = some (.tup xs)) (h : RowsAt H rs kvs) : RowsAt H' rs kvs := by
  induction h with
  | nil => exact .nil
  | cons e _ ih => exact .cons (s _ _ e) ih
theorem RowsAt.snoc {H : Hp} {rs : List (Str × List Str)} {kvs : List (Key × V)} {k : Str} {sh : List Str} {a : Addr} (h : RowsAt H rs kvs) (e : H a = some (.tup (sh.map V.str))) : RowsAt H (rs ++ [(k, sh)]) (kvs ++ [(Sum.inr k, .ref a)]) := by
  induction h with
  | nil => exact .cons e .nil
  | cons e' _ ih => exact .cons e' ih
structure TableAt (C : Addr) (H : Hp) (p : Addr) (ls : List Str) (rs : List (Str × List Str)) : Prop where
  ex : ∃ (dx lt sd kt : Addr) (kvs : List (Key × V)), H p = some (.ins C dx (pf3 (.ref lt) (.ref sd) (.ref kt))) ∧ H lt = some (.tup (ls.map V.str)) ∧ H sd = some (.dK kvs) ∧ H kt = some (.tup ((rs.map (·.1)).map V.str)) ∧ RowsAt H rs kvs
/-- one look as it is passed: the pair's place, the name, the lamps' place, the lamps -/
structure RowIn where
  t : Addr
  look : V
  s : Addr
  xs : List V
structure RowOk (K : PySem.W.Frag) (H : Hp) (r : RowIn) : Prop where
  pair : SqT K H r.t [r.look, .ref r.s]
  name : NmOk H r.look
  lst : SqL K H r.s r.xs
  all : ∀ v ∈ r.xs, NmOk H v
  len : r.xs.length ≤ 1000
theorem RowOk.of {K : PySem.W.Frag} {H H' : Hp} {r : RowIn} (s : Same H H') (h : RowOk K H r) : RowOk K H' r :=
  ⟨Same.tup s h.pair, h.name.of s, Same.seq s h.lst, fun v hv => (h.all v hv).of s, h.len⟩
/-- the rows as the checks in order give them -/
def initRows (ls : List Str) : List (V × List V) → List (Str × List Str) → Except Er (List (Str × List Str))
  | [], acc => .ok acc
  | (k, xs) :: r, acc => match chkNew k (acc.map (·.1)) with
    | some e => .error e
    | none => match chkShown xs ls [] with
      | some e => .error e
      | none => initRows ls r (acc ++ [(strOf k, chosen ls (xs.map strOf))])
def initT (lamps : List V) (rows : List (V × List V)) : Except Er (List Str × List (Str × List Str)) :=
  if 24 < lamps.length ∨ 24 < rows.length then .error .many else
  match chkNames lamps [] with
  | .error e => .error e
  | .ok ls => match initRows ls rows [] with
    | .error e => .error e
    | .ok rs => .ok (ls, rs)
def RowIn.dat (r : RowIn) : V × List V := (r.look, r.xs)
def spTabInit (K : PySem.W.Frag) (CT : Addr) (C : Cs) : Sp := fun vs H Q E => ∃ (H0 : Hp) (p dx a b : Addr) (lamps : List V) (rows : List RowIn), vs = [.ref p, .ref a, .ref b] ∧ Same H0 H ∧ H0 p = none ∧ H p = some (.ins CT dx []) ∧
  (SqL K H0 a lamps ∨ SqT K H0 a lamps) ∧ (∀ v ∈ lamps, NmOk H0 v) ∧ lamps.length ≤ 1000 ∧ SqL K H0 b (rows.map fun r => V.ref r.t) ∧ (∀ r ∈ rows, RowOk K H0 r) ∧ rows.length ≤ 1000 ∧
  (∀ ls rs, initT lamps (rows.map RowIn.dat) = .ok (ls, rs) → ∀ H', Same H0 H' → TableAt CT H' p ls rs → Q .non H') ∧ ∀ e, initT lamps (rows.map RowIn.dat) = .error e → Out C H0 E e
structure TxtT (K : PySem.W.Frag) (mg : Str → Option Value) (CT : Addr) : Prop where
  cl : Cls K CT
  nL : NoAttr K CT "lamps"
  nK : NoAttr K CT "looks"
  nS : NoAttr K CT "_shown"
  len : mg "len" = none
  tup : mg "tuple" = none
  lim : ∃ t, mg "LIMIT" = some (.int 24 t)
theorem shown_strs' : ∀ {xs : List V} {ls prev : List Str}, chkShown xs ls prev = none → xs = (xs.map strOf).map V.str
  | [], _, _, _ => rfl
  | v :: r, ls, prev, h => by
    unfold chkShown at h
    by_cases hk : knows v ls = true
    · obtain ⟨z, rfl, hz⟩ := knows_str hk
      rw [if_pos hk] at h
      by_cases hm : strOf (.str z) ∈ prev
      · rw [if_pos hm] at h; cases h
      · rw [if_neg hm] at h
        rw [List.map_cons, List.map_cons, ← shown_strs' h]
        rfl
    · rw [if_neg hk] at h; cases h
theorem shown_strs {xs : List V} {ls : List Str} (h : chkShown xs ls [] = none) : xs = (xs.map strOf).map V.str := shown_strs' h
theorem names_len : ∀ {xs : List V} {acc es : List Str}, chkNames xs acc = .ok es → es.length = acc.length + xs.length
  | [], acc, es, h => by cases h; simp
  | v :: r, acc, es, h => by
    unfold chkNames at h
    cases e : chkNew v acc with
    | some q => rw [e] at h; cases h
    | none =>
      rw [e] at h
      have q := names_len h
      rw [List.length_append] at q
      simp at q ⊢
      omega
section
variable {P : Program} {w : World} {K : PySem.W.Frag} {mg : Str → Option Value} {base : Heap} {C : Cs} {CT : Addr}
theorem scTabInit : FnScope ["self", "lamps", "looks", "look", "shown"] ["self", "lamps", "looks"] (defScope sTabInit) := ⟨rfl, rfl, rfl, by decide +kernel, rfl, by decide +kernel, by decide +kernel⟩
theorem ok_tabinit {f : Addr} {fd : FuncData} (F : Fun K "__init__" "Table.__init__" sTabInit f fd) (T : TxtT K mg CT) (xM : Ex P w K mg base "TooMany" "limit" C.many)
    (gD : Dfn P w K mg base (L2.CX P w) 6 "distinct_names" ["names"] (spDistinct K C)) (gN : Dfn P w K mg base (L2.CX P w) 4 "check_new" ["name", "earlier"] (spNewD K C))
    (gS : Dfn P w K mg base (L2.CX P w) 6 "_check_shown" ["shown", "lamps"] (spShown K C)) (gC : Dfn P w K mg base CX0 1 "_chosen_of" ["names", "chosen"] (spChosen K)) :
    FnOk P w K mg base (L2.CX P w) 8 f fd ["self", "lamps", "looks"] (spTabInit K CT C) := by
  obtain ⟨fI, dI, TI, bI, GI⟩ := xM
  obtain ⟨fD, dD, mD, kD, bD, GD⟩ := gD
  obtain ⟨fN, dN, mN, kN, bN, GN⟩ := gN
  obtain ⟨fS, dS, mS, kS, bS, GS⟩ := gS
  obtain ⟨fC, dC, mC, kC, bC, GC⟩ := gC
  obtain ⟨tl, hlim⟩ := T.lim
  refine F.okX scTabInit (fun vs H Q E h => ?_) (fun cdv A outer s H vs Q E hr h => ?_)
  · obtain ⟨H0, p, dx, a, b, lamps, rows, rfl, _⟩ := h
    rfl
  · obtain ⟨H0, p, dx, a, b, lamps, rows, rfl, s0, hp0, hp, ha, hla, hll, hb, hrw, hrl, k, kx⟩ := h
    have hr6 : Room 6 _ := hr.mono (by decide)
    have hr4 : Room 4 _ := hr.mono (by decide)
    have hr2 : Room 2 _ := hr.mono (by decide)
    have hr1 : Room 1 _ := hr.mono (by decide)
    refine ⟨_, pss_cons (ps_if (PW.pt (pw_or (pt_cmpR op_gt (pe_callB call_len_seq (by rfl) T.len PySem.boot_len (pa_cons (pv 1) pa_nil)) (pe_glob (v := .int 24) (by rfl) hlim ⟨_, rfl⟩) (nomark _))
          (pw_or1 (pt_cmpR op_gt (pe_callB call_len_seq (by rfl) T.len PySem.boot_len (pa_cons (pv 2) pa_nil)) (pe_glob (v := .int 24) (by rfl) hlim ⟨_, rfl⟩) (nomark _)))))
        (pss_one (ps_raise rfl (takes_of rfl rfl rfl rfl) (pmk_oex TI.oex TI.iC TI.tI GI hr2 bI .nil pass0 (by rfl) TI.gC (pa_cons (pe_glob (v := .int 24) (by rfl) hlim ⟨_, rfl⟩) pa_nil)))) pss_nil)
      (pss_cons (ps_fld (pv 0) (pe_call GD hr6 (by rfl) mD kD bD .nil (passes_call (takes_of rfl rfl rfl rfl) (fun _ _ _ _ h => h)) (pa_cons (pv 1) pa_nil)) rfl)
      (pss_cons (ps_fld (pv 0) pe_dnewK rfl)
      (pss_cons (ps_for (passes_of rfl) rfl (pi_list (pv 2)) (pg_tup rfl (pgs_cons (pg_name (i := 3) scTabInit.nd rfl (Or.inl rfl)) (pgs_cons (pg_name (i := 4) scTabInit.nd rfl (Or.inl rfl)) pgs_nil)))
        (pss_cons (ps_expr (pe_call GN hr4 (by rfl) mN kN bN .nil (passes_call (takes_of rfl rfl rfl rfl) (fun _ _ _ _ h => h)) (pa_cons (pv 3) (pa_cons (pe_fld (pv 0) rfl) pa_nil))))
        (pss_cons (ps_expr (pe_call GS hr6 (by rfl) mS kS bS .nil (passes_call (takes_of rfl rfl rfl rfl) (fun _ _ _ _ h => h)) (pa_cons (pv 4) (pa_cons (pe_fld (pv 0) rfl) pa_nil))))
        (pss_one (ps_dput (hu_of hr) (pe_fld (pv 0) rfl) (pv 3) (pe_call GC hr1 (by rfl) mC kC bC .nil pass0 (pa_cons (pe_fld (pv 0) rfl) (pa_cons (pv 4) pa_nil))) rfl)))))
      (pss_one (ps_fld (pv 0) (pe_callTy (call_tuple_dK rfl) (by rfl) T.tup (by decide +kernel) (pa_cons (pe_fld (pv 0) rfl) pa_nil)) rfl))))), ?_⟩
    have small : ∀ n : Nat, n ≤ 2 → n < 1000 := fun n h => by omega
    have hmany : 24 < lamps.length ∨ 24 < (rows.map RowIn.dat).length → Out C H E .many := fun h => Out.of s0 (kx .many (by unfold initT; rw [if_pos h]))
    refine ⟨_, rfl, a, _, rfl, Same.either s0 ha, _, _, rfl, rfl, _, rfl, ?_⟩
    refine ite2 (fun c1 => ?_) (fun c1 => ?_)
    · exact raise_end (hmany (.inl (by have q : (24 : Int) < (lamps.length : Nat) := of_decide_eq_true c1; omega)))
    have c1' : ¬ 24 < lamps.length := fun x => c1 (decide_eq_true (by show (24 : Int) < (lamps.length : Nat); omega))
    refine ⟨_, rfl, b, _, rfl, .inl (Same.seq s0 hb), _, _, rfl, rfl, _, rfl, ?_⟩
    refine ite2 (fun c2 => ?_) (fun c2 => ?_)
    · exact raise_end (hmany (.inr (by
        have q : (24 : Int) < ((rows.map fun r => V.ref r.t).length : Nat) := of_decide_eq_true c2
        rw [List.length_map] at q ⊢
        omega)))
    have c2' : ¬ 24 < (rows.map RowIn.dat).length := fun x => c2 (decide_eq_true (by
      show (24 : Int) < ((rows.map fun r => V.ref r.t).length : Nat)
      rw [List.length_map] at x ⊢
      omega))
    have hT : initT lamps (rows.map RowIn.dat) = match chkNames lamps [] with
        | .error e => .error e
        | .ok ls => match initRows ls (rows.map RowIn.dat) [] with
          | .error e => .error e
          | .ok rs => .ok (ls, rs) := by
      show (if _ then _ else _) = _
      rw [if_neg (by intro z; rcases z with z | z; exact c1' z; exact c2' z)]
    -- self.lamps = distinct_names(lamps)
    refine ⟨_, rfl, a, lamps, rfl, Same.either s0 ha, fun v hv => (hla v hv).of s0, hll, fun ls hls H1 lt s1 hlt e1 => ?_, fun e he => Out.of s0 (kx e (by rw [hT, he]))⟩
    rw [hls] at hT
    dsimp only at hT
    have s01 : Same H0 H1 := s0.trans s1
    refine ⟨_, rfl, p, CT, dx, [], rfl, s1 _ _ hp, T.cl, T.nL, by decide, ?_⟩
    have nltp : lt ≠ p := fun z => by rw [z, hp] at hlt; cases hlt
    have keep0 : ∀ {Hx : Hp} {o : HO}, Same H0 Hx → Same H0 (upd Hx p o) := fun {Hx o} s b u e => by
      rw [upd_ne (ne_of_none e hp0)]; exact s _ _ e
    -- self._shown = {}
    refine fun sd hsd => ⟨_, rfl, p, CT, dx, pf1 (.ref lt), rfl, (by rw [upd_ne (ne_of_none upd_same hsd), upd_same]; rfl), T.cl, T.nS, small _ (Nat.le_trans (pf1_len _) (by decide)), ?_⟩
    have hsd1 : H1 sd = none := by
      have nsd : sd ≠ p := fun z => by rw [z, upd_same] at hsd; cases hsd
      rw [upd_ne nsd] at hsd
      exact hsd
    have nsp : p ≠ sd := fun z => by
      have q := s1 _ _ hp
      rw [z, hsd1] at q
      cases q
    have nls : lt ≠ sd := ne_of_none e1 hsd1
    have hsd0 : H0 sd = none := s01.free hsd1
    refine ⟨_, rfl, b, rfl, ⟨rows.map fun r => V.ref r.t, ?_⟩, for_it (walk_list (K := K) (a := b) (xs := rows.map fun r => V.ref r.t)) (fun i σ H' => ∃ (x y : Option V) (kvs : List (Key × V)) (acc : List (Str × List Str)),
        σ = [some (.ref p), some (.ref a), some (.ref b), x, y] ∧ H' p = some (.ins CT dx (pf2 (.ref lt) (.ref sd))) ∧ H' lt = some (.tup (ls.map V.str)) ∧ H' sd = some (.dK kvs) ∧ RowsAt H' acc kvs ∧ Same H0 H' ∧
        initRows ls ((rows.map RowIn.dat).drop i) acc = initRows ls (rows.map RowIn.dat) [] ∧ acc.length ≤ i) ?_ ?_ ?_ ?_⟩
    · exact Same.seq (keep0 ((keep0 s01).trans (Same.upd_new hsd))) hb
    · refine ⟨none, none, [], [], rfl, upd_same, ?_, ?_, .nil, keep0 ((keep0 s01).trans (Same.upd_new hsd)), rfl, Nat.le_refl _⟩
      · rw [upd_ne nltp, upd_ne nls, upd_ne nltp]; exact e1
      · rw [upd_ne nsp.symm, upd_same]
    · rintro i σ H' _ ⟨_, _, _, _, _, _, _, _, _, s', _⟩
      exact Same.seq s' hb
    · rintro i v σ H2 H3 hi ⟨x, y, kvs, acc, rfl, h2p, h2l, h2s, hrs, s2, hc, hal⟩ ⟨rfl, hv⟩
      have hv2 : (rows.map fun r => V.ref r.t)[i]? = some v := hv
      rw [List.length_map] at hi
      obtain ⟨r, hr, rfl⟩ : ∃ r, rows[i]? = some r ∧ v = V.ref r.t := by
        rw [List.getElem?_map] at hv2
        cases e : rows[i]? with
        | none => rw [e] at hv2; cases hv2
        | some r => rw [e] at hv2; exact ⟨r, rfl, (Option.some.inj hv2).symm⟩
      have hd : (rows.map RowIn.dat).drop i = (r.look, r.xs) :: (rows.map RowIn.dat).drop (i + 1) := by
        rw [List.drop_eq_getElem_cons (by rw [List.length_map]; exact hi)]
        rw [List.getElem_map, (List.getElem?_eq_some_iff.mp hr).2]
        rfl
      rw [hd] at hc
      have R := hrw r (List.mem_of_getElem? hr)
      have R2 := R.of s2
      refine ⟨r.t, _, rfl, R2.pair, rfl, _, _, rfl, _, _, rfl, rfl, ?_⟩
      -- check_new(look, self._shown)
      refine ⟨_, rfl, _, rfl, p, CT, dx, _, _, rfl, h2p, T.cl, T.nS, pf2_shown _ _, r.look, sd, kvs, acc.map (·.1), rfl, R2.name, h2s, hrs.keys, fun H4 s4 hn => ?_, fun e he => ?_⟩
      · obtain ⟨z, ez, hz, hza⟩ := chkNew_none hn
        -- _check_shown(shown, self.lamps)
        refine ⟨_, rfl, _, rfl, p, CT, dx, _, _, rfl, s4 _ _ h2p, T.cl, T.nL, pf2_lamps _ _, r.s, lt, r.xs, ls, rfl, Same.seq s4 R2.lst, (R2.of s4).all, R.len, SqT.of (s4 _ _ h2l), fun H5 hsn s5 => ?_, fun e he => ?_⟩
        · -- self._shown[look] = _chosen_of(self.lamps, shown)
          have s45 : Same H3 H5 := s4.trans s5
          have hxs : r.xs = (r.xs.map strOf).map V.str := shown_strs hsn
          refine ⟨_, rfl, p, CT, dx, _, _, rfl, s45 _ _ h2p, T.cl, T.nL, pf2_lamps _ _, _, rfl, lt, r.s, ls, r.xs.map strOf, rfl, SqT.of (s45 _ _ h2l), .inl (by rw [← hxs]; exact Same.seq s45 R2.lst), ?_, fun H6 t s6 ht et => ?_⟩
          · have q := names_len hls
            simp at q
            omega
          · have s26 : Same H3 H6 := s45.trans s6
            refine ⟨_, rfl, p, CT, dx, _, _, rfl, s26 _ _ h2p, T.cl, T.nS, pf2_shown _ _, _, rfl, sd, _, rfl, (by rw [ez]; exact DPut.k (k := Sum.inr z) (s26 _ _ h2s) (by rw [hrs.length]; exact small1000 (by omega))), ?_⟩
            have hval : valV kvs (Sum.inr z) = none := by
              have q := isSome_valV (es := acc.map (·.1)) hrs.keys (z := z)
              rw [decide_eq_false hza] at q
              cases e : valV kvs (Sum.inr z) with
              | none => rfl
              | some u => rw [e] at q; cases q
            rw [putK_new _ hval]
            have tups : ∀ b xs, H6 b = some (.tup xs) → upd H6 sd (.dK (kvs ++ [(Sum.inr z, .ref t)])) b = some (.tup xs) := fun b xs e => by
              have nb : b ≠ sd := fun q => by rw [q, s26 _ _ h2s] at e; cases e
              rw [upd_ne nb]; exact e
            refine ⟨_, _, kvs ++ [(Sum.inr z, .ref t)], acc ++ [(z, chosen ls (r.xs.map strOf))], rfl, ?_, tups _ _ (s26 _ _ h2l), upd_same, ?_, fun b o e => ?_, ?_, ?_⟩
            · have np : p ≠ sd := nsp
              rw [upd_ne np]; exact s26 _ _ h2p
            · exact (hrs.of fun b xs e => tups b xs (s26 _ _ e)).snoc (tups _ _ et)
            · rw [upd_ne (ne_of_none e hsd0)]
              exact s26 _ _ (s2 _ _ e)
            · rw [← hc, initRows, hn, hsn, ez]
              rfl
            · rw [List.length_append]
              simp
              omega
        · have hce : initRows ls (rows.map RowIn.dat) [] = .error e := by rw [← hc, initRows, hn, he]
          exact Out.of (s2.trans s4) (kx e (by rw [hT, hce]))
      · have hce : initRows ls (rows.map RowIn.dat) [] = .error e := by rw [← hc, initRows, he]
        exact Out.of s2 (kx e (by rw [hT, hce]))
    · rintro σ H2 ⟨x, y, kvs, acc, rfl, h2p, h2l, h2s, hrs, s2, hc, hal⟩
      have hc' : initRows ls (rows.map RowIn.dat) [] = .ok acc := by
        rw [← hc, List.drop_eq_nil_of_le (by simp)]
        rfl
      -- self.looks = tuple(self._shown)
      refine ⟨_, rfl, p, CT, dx, _, _, rfl, h2p, T.cl, T.nS, pf2_shown _ _, sd, kvs, rfl, h2s, fun kt hkt => ?_⟩
      have ntp : p ≠ kt := ne_of_none h2p hkt
      refine ⟨_, rfl, p, CT, dx, _, rfl, (by rw [upd_ne ntp]; exact h2p), T.cl, T.nK, small _ (pf2_len _ _), ?_⟩
      refine k ls acc (by rw [hT, hc']) _ (keep0 (s2.trans (Same.upd_new hkt))) ⟨dx, lt, sd, kt, kvs, upd_same, ?_, ?_, ?_, ?_⟩
      · rw [upd_ne nltp, upd_ne (ne_of_none h2l hkt)]; exact h2l
      · rw [upd_ne nsp.symm, upd_ne (ne_of_none h2s hkt)]; exact h2s
      · have q : (kvs.map fun kv => kV kv.1) = (kvs.map (·.1)).map kV := by rw [List.map_map]; rfl
        rw [upd_ne ntp.symm, upd_same, q, hrs.keys, List.map_map]
        rfl
      · refine hrs.of fun b xs e => ?_
        have nb : b ≠ p := fun q => by rw [q, h2p] at e; cases e
        rw [upd_ne nb, upd_ne (ne_of_none e hkt)]; exact e
end
end Dl

namespace Dl
open PySem L2
/-- one look as it is passed, the lamps as a list or as a tuple -/
structure RowE (K : PySem.W.Frag) (H : Hp) (r : RowIn) : Prop where
  pair : SqT K H r.t [r.look, .ref r.s]
  name : NmOk H r.look
  seq : SqL K H r.s r.xs ∨ SqT K H r.s r.xs
  all : ∀ v ∈ r.xs, NmOk H v
  len : r.xs.length ≤ 1000
theorem RowE.of {K : PySem.W.Frag} {H H' : Hp} {r : RowIn} (s : Same H H') (h : RowE K H r) : RowE K H' r :=
  ⟨Same.tup s h.pair, h.name.of s, Same.either s h.seq, fun v hv => (h.all v hv).of s, h.len⟩
theorem RowOk.e {K : PySem.W.Frag} {H : Hp} {r : RowIn} (h : RowOk K H r) : RowE K H r := ⟨h.pair, h.name, .inl h.lst, h.all, h.len⟩
def spTabInit2 (K : PySem.W.Frag) (CT : Addr) (C : Cs) : Sp := fun vs H Q E => ∃ (H0 : Hp) (p dx a b : Addr) (lamps : List V) (rows : List RowIn), vs = [.ref p, .ref a, .ref b] ∧ Same H0 H ∧ H0 p = none ∧ H p = some (.ins CT dx []) ∧
  (SqL K H0 a lamps ∨ SqT K H0 a lamps) ∧ (∀ v ∈ lamps, NmOk H0 v) ∧ lamps.length ≤ 1000 ∧ (SqL K H0 b (rows.map fun r => V.ref r.t) ∨ SqT K H0 b (rows.map fun r => V.ref r.t)) ∧ (∀ r ∈ rows, RowE K H0 r) ∧ rows.length ≤ 1000 ∧
  (∀ ls rs, initT lamps (rows.map RowIn.dat) = .ok (ls, rs) → ∀ H', Same H0 H' → TableAt CT H' p ls rs → Q .non H') ∧ ∀ e, initT lamps (rows.map RowIn.dat) = .error e → Out C H0 E e
section
variable {P : Program} {w : World} {K : PySem.W.Frag} {mg : Str → Option Value} {base : Heap} {C : Cs} {CT : Addr}
theorem ok_tabinit2 {f : Addr} {fd : FuncData} (F : Fun K "__init__" "Table.__init__" sTabInit f fd) (T : TxtT K mg CT) (xM : Ex P w K mg base "TooMany" "limit" C.many)
    (gD : Dfn P w K mg base (L2.CX P w) 6 "distinct_names" ["names"] (spDistinct K C)) (gN : Dfn P w K mg base (L2.CX P w) 4 "check_new" ["name", "earlier"] (spNewD K C))
    (gS : Dfn P w K mg base (L2.CX P w) 6 "_check_shown" ["shown", "lamps"] (spShown2 K C)) (gC : Dfn P w K mg base CX0 1 "_chosen_of" ["names", "chosen"] (spChosen K)) :
    FnOk P w K mg base (L2.CX P w) 8 f fd ["self", "lamps", "looks"] (spTabInit2 K CT C) := by
  obtain ⟨fI, dI, TI, bI, GI⟩ := xM
  obtain ⟨fD, dD, mD, kD, bD, GD⟩ := gD
  obtain ⟨fN, dN, mN, kN, bN, GN⟩ := gN
  obtain ⟨fS, dS, mS, kS, bS, GS⟩ := gS
  obtain ⟨fC, dC, mC, kC, bC, GC⟩ := gC
  obtain ⟨tl, hlim⟩ := T.lim
  refine F.okX scTabInit (fun vs H Q E h => ?_) (fun cdv A outer s H vs Q E hr h => ?_)
  · obtain ⟨H0, p, dx, a, b, lamps, rows, rfl, _⟩ := h
    rfl
  · obtain ⟨H0, p, dx, a, b, lamps, rows, rfl, s0, hp0, hp, ha, hla, hll, hb, hrw, hrl, k, kx⟩ := h
    have hr6 : Room 6 _ := hr.mono (by decide)
    have hr4 : Room 4 _ := hr.mono (by decide)
    have hr2 : Room 2 _ := hr.mono (by decide)
    have hr1 : Room 1 _ := hr.mono (by decide)
    rcases hb with hb | hb
    · refine ⟨_, pss_cons (ps_if (PW.pt (pw_or (pt_cmpR op_gt (pe_callB call_len_seq (by rfl) T.len PySem.boot_len (pa_cons (pv 1) pa_nil)) (pe_glob (v := .int 24) (by rfl) hlim ⟨_, rfl⟩) (nomark _))
            (pw_or1 (pt_cmpR op_gt (pe_callB call_len_seq (by rfl) T.len PySem.boot_len (pa_cons (pv 2) pa_nil)) (pe_glob (v := .int 24) (by rfl) hlim ⟨_, rfl⟩) (nomark _)))))
          (pss_one (ps_raise rfl (takes_of rfl rfl rfl rfl) (pmk_oex TI.oex TI.iC TI.tI GI hr2 bI .nil pass0 (by rfl) TI.gC (pa_cons (pe_glob (v := .int 24) (by rfl) hlim ⟨_, rfl⟩) pa_nil)))) pss_nil)
        (pss_cons (ps_fld (pv 0) (pe_call GD hr6 (by rfl) mD kD bD .nil (passes_call (takes_of rfl rfl rfl rfl) (fun _ _ _ _ h => h)) (pa_cons (pv 1) pa_nil)) rfl)
        (pss_cons (ps_fld (pv 0) pe_dnewK rfl)
        (pss_cons (ps_for (passes_of rfl) rfl (pi_list (pv 2)) (pg_tup rfl (pgs_cons (pg_name (i := 3) scTabInit.nd rfl (Or.inl rfl)) (pgs_cons (pg_name (i := 4) scTabInit.nd rfl (Or.inl rfl)) pgs_nil)))
          (pss_cons (ps_expr (pe_call GN hr4 (by rfl) mN kN bN .nil (passes_call (takes_of rfl rfl rfl rfl) (fun _ _ _ _ h => h)) (pa_cons (pv 3) (pa_cons (pe_fld (pv 0) rfl) pa_nil))))
          (pss_cons (ps_expr (pe_call GS hr6 (by rfl) mS kS bS .nil (passes_call (takes_of rfl rfl rfl rfl) (fun _ _ _ _ h => h)) (pa_cons (pv 4) (pa_cons (pe_fld (pv 0) rfl) pa_nil))))
          (pss_one (ps_dput (hu_of hr) (pe_fld (pv 0) rfl) (pv 3) (pe_call GC hr1 (by rfl) mC kC bC .nil pass0 (pa_cons (pe_fld (pv 0) rfl) (pa_cons (pv 4) pa_nil))) rfl)))))
        (pss_one (ps_fld (pv 0) (pe_callTy (call_tuple_dK rfl) (by rfl) T.tup (by decide +kernel) (pa_cons (pe_fld (pv 0) rfl) pa_nil)) rfl))))), ?_⟩
      have small : ∀ n : Nat, n ≤ 2 → n < 1000 := fun n h => by omega
      have hmany : 24 < lamps.length ∨ 24 < (rows.map RowIn.dat).length → Out C H E .many := fun h => Out.of s0 (kx .many (by unfold initT; rw [if_pos h]))
      refine ⟨_, rfl, a, _, rfl, Same.either s0 ha, _, _, rfl, rfl, _, rfl, ?_⟩
      refine ite2 (fun c1 => ?_) (fun c1 => ?_)
      · exact raise_end (hmany (.inl (by have q : (24 : Int) < (lamps.length : Nat) := of_decide_eq_true c1; omega)))
      have c1' : ¬ 24 < lamps.length := fun x => c1 (decide_eq_true (by show (24 : Int) < (lamps.length : Nat); omega))
      refine ⟨_, rfl, b, _, rfl, .inl (Same.seq s0 hb), _, _, rfl, rfl, _, rfl, ?_⟩
      refine ite2 (fun c2 => ?_) (fun c2 => ?_)
      · exact raise_end (hmany (.inr (by
          have q : (24 : Int) < ((rows.map fun r => V.ref r.t).length : Nat) := of_decide_eq_true c2
          rw [List.length_map] at q ⊢
          omega)))
      have c2' : ¬ 24 < (rows.map RowIn.dat).length := fun x => c2 (decide_eq_true (by
        show (24 : Int) < ((rows.map fun r => V.ref r.t).length : Nat)
        rw [List.length_map] at x ⊢
        omega))
      have hT : initT lamps (rows.map RowIn.dat) = match chkNames lamps [] with
          | .error e => .error e
          | .ok ls => match initRows ls (rows.map RowIn.dat) [] with
            | .error e => .error e
            | .ok rs => .ok (ls, rs) := by
        show (if _ then _ else _) = _
        rw [if_neg (by intro z; rcases z with z | z; exact c1' z; exact c2' z)]
        try rfl
      -- self.lamps = distinct_names(lamps)
      refine ⟨_, rfl, a, lamps, rfl, Same.either s0 ha, fun v hv => (hla v hv).of s0, hll, fun ls hls H1 lt s1 hlt e1 => ?_, fun e he => Out.of s0 (kx e (by rw [hT, he]))⟩
      rw [hls] at hT
      dsimp only at hT
      have s01 : Same H0 H1 := s0.trans s1
      refine ⟨_, rfl, p, CT, dx, [], rfl, s1 _ _ hp, T.cl, T.nL, by decide, ?_⟩
      have nltp : lt ≠ p := fun z => by rw [z, hp] at hlt; cases hlt
      have keep0 : ∀ {Hx : Hp} {o : HO}, Same H0 Hx → Same H0 (upd Hx p o) := fun {Hx o} s b u e => by
        rw [upd_ne (ne_of_none e hp0)]; exact s _ _ e
      -- self._shown = {}
      refine fun sd hsd => ⟨_, rfl, p, CT, dx, pf1 (.ref lt), rfl, (by rw [upd_ne (ne_of_none upd_same hsd), upd_same]; rfl), T.cl, T.nS, small _ (Nat.le_trans (pf1_len _) (by decide)), ?_⟩
      have hsd1 : H1 sd = none := by
        have nsd : sd ≠ p := fun z => by rw [z, upd_same] at hsd; cases hsd
        rw [upd_ne nsd] at hsd
        exact hsd
      have nsp : p ≠ sd := fun z => by
        have q := s1 _ _ hp
        rw [z, hsd1] at q
        cases q
      have nls : lt ≠ sd := ne_of_none e1 hsd1
      have hsd0 : H0 sd = none := s01.free hsd1
      refine ⟨_, rfl, b, rfl, ⟨rows.map fun r => V.ref r.t, ?_⟩, for_it (walk_list (K := K) (a := b) (xs := rows.map fun r => V.ref r.t)) (fun i σ H' => ∃ (x y : Option V) (kvs : List (Key × V)) (acc : List (Str × List Str)),
          σ = [some (.ref p), some (.ref a), some (.ref b), x, y] ∧ H' p = some (.ins CT dx (pf2 (.ref lt) (.ref sd))) ∧ H' lt = some (.tup (ls.map V.str)) ∧ H' sd = some (.dK kvs) ∧ RowsAt H' acc kvs ∧ Same H0 H' ∧
          initRows ls ((rows.map RowIn.dat).drop i) acc = initRows ls (rows.map RowIn.dat) [] ∧ acc.length ≤ i) ?_ ?_ ?_ ?_⟩
      · exact Same.seq (keep0 ((keep0 s01).trans (Same.upd_new hsd))) hb
      · refine ⟨none, none, [], [], rfl, upd_same, ?_, ?_, .nil, keep0 ((keep0 s01).trans (Same.upd_new hsd)), rfl, Nat.le_refl _⟩
        · rw [upd_ne nltp, upd_ne nls, upd_ne nltp]; exact e1
        · rw [upd_ne nsp.symm, upd_same]
      · rintro i σ H' _ ⟨_, _, _, _, _, _, _, _, _, s', _⟩
        exact Same.seq s' hb
      · rintro i v σ H2 H3 hi ⟨x, y, kvs, acc, rfl, h2p, h2l, h2s, hrs, s2, hc, hal⟩ ⟨rfl, hv⟩
        have hv2 : (rows.map fun r => V.ref r.t)[i]? = some v := hv
        rw [List.length_map] at hi
        obtain ⟨r, hr, rfl⟩ : ∃ r, rows[i]? = some r ∧ v = V.ref r.t := by
          rw [List.getElem?_map] at hv2
          cases e : rows[i]? with
          | none => rw [e] at hv2; cases hv2
          | some r => rw [e] at hv2; exact ⟨r, rfl, (Option.some.inj hv2).symm⟩
        have hd : (rows.map RowIn.dat).drop i = (r.look, r.xs) :: (rows.map RowIn.dat).drop (i + 1) := by
          rw [List.drop_eq_getElem_cons (by rw [List.length_map]; exact hi)]
          rw [List.getElem_map, (List.getElem?_eq_some_iff.mp hr).2]
          rfl
        rw [hd] at hc
        have R := hrw r (List.mem_of_getElem? hr)
        have R2 := R.of s2
        refine ⟨r.t, _, rfl, R2.pair, rfl, _, _, rfl, _, _, rfl, rfl, ?_⟩
        -- check_new(look, self._shown)
        refine ⟨_, rfl, _, rfl, p, CT, dx, _, _, rfl, h2p, T.cl, T.nS, pf2_shown _ _, r.look, sd, kvs, acc.map (·.1), rfl, R2.name, h2s, hrs.keys, fun H4 s4 hn => ?_, fun e he => ?_⟩
        · obtain ⟨z, ez, hz, hza⟩ := chkNew_none hn
          -- _check_shown(shown, self.lamps)
          refine ⟨_, rfl, _, rfl, p, CT, dx, _, _, rfl, s4 _ _ h2p, T.cl, T.nL, pf2_lamps _ _, r.s, lt, r.xs, ls, rfl, Same.either s4 R2.seq, (R2.of s4).all, R.len, SqT.of (s4 _ _ h2l), fun H5 hsn s5 => ?_, fun e he => ?_⟩
          · -- self._shown[look] = _chosen_of(self.lamps, shown)
            have s45 : Same H3 H5 := s4.trans s5
            have hxs : r.xs = (r.xs.map strOf).map V.str := shown_strs hsn
            refine ⟨_, rfl, p, CT, dx, _, _, rfl, s45 _ _ h2p, T.cl, T.nL, pf2_lamps _ _, _, rfl, lt, r.s, ls, r.xs.map strOf, rfl, SqT.of (s45 _ _ h2l), (by rw [← hxs]; exact Same.either s45 R2.seq), ?_, fun H6 t s6 ht et => ?_⟩
            · have q := names_len hls
              simp at q
              omega
            · have s26 : Same H3 H6 := s45.trans s6
              refine ⟨_, rfl, p, CT, dx, _, _, rfl, s26 _ _ h2p, T.cl, T.nS, pf2_shown _ _, _, rfl, sd, _, rfl, (by rw [ez]; exact DPut.k (k := Sum.inr z) (s26 _ _ h2s) (by rw [hrs.length]; exact small1000 (by omega))), ?_⟩
              have hval : valV kvs (Sum.inr z) = none := by
                have q := isSome_valV (es := acc.map (·.1)) hrs.keys (z := z)
                rw [decide_eq_false hza] at q
                cases e : valV kvs (Sum.inr z) with
                | none => rfl
                | some u => rw [e] at q; cases q
              rw [putK_new _ hval]
              have tups : ∀ b xs, H6 b = some (.tup xs) → upd H6 sd (.dK (kvs ++ [(Sum.inr z, .ref t)])) b = some (.tup xs) := fun b xs e => by
                have nb : b ≠ sd := fun q => by rw [q, s26 _ _ h2s] at e; cases e
                rw [upd_ne nb]; exact e
              refine ⟨_, _, kvs ++ [(Sum.inr z, .ref t)], acc ++ [(z, chosen ls (r.xs.map strOf))], rfl, ?_, tups _ _ (s26 _ _ h2l), upd_same, ?_, fun b o e => ?_, ?_, ?_⟩
              · have np : p ≠ sd := nsp
                rw [upd_ne np]; exact s26 _ _ h2p
              · exact (hrs.of fun b xs e => tups b xs (s26 _ _ e)).snoc (tups _ _ et)
              · rw [upd_ne (ne_of_none e hsd0)]
                exact s26 _ _ (s2 _ _ e)
              · rw [← hc, initRows, hn, hsn, ez]
                rfl
              · rw [List.length_append]
                simp
                omega
          · have hce : initRows ls (rows.map RowIn.dat) [] = .error e := by rw [← hc, initRows, hn, he]
            exact Out.of (s2.trans s4) (kx e (by rw [hT, hce]))
        · have hce : initRows ls (rows.map RowIn.dat) [] = .error e := by rw [← hc, initRows, he]
          exact Out.of s2 (kx e (by rw [hT, hce]))
      · rintro σ H2 ⟨x, y, kvs, acc, rfl, h2p, h2l, h2s, hrs, s2, hc, hal⟩
        have hc' : initRows ls (rows.map RowIn.dat) [] = .ok acc := by
          rw [← hc, List.drop_eq_nil_of_le (by simp)]
          rfl
        -- self.looks = tuple(self._shown)
        refine ⟨_, rfl, p, CT, dx, _, _, rfl, h2p, T.cl, T.nS, pf2_shown _ _, sd, kvs, rfl, h2s, fun kt hkt => ?_⟩
        have ntp : p ≠ kt := ne_of_none h2p hkt
        refine ⟨_, rfl, p, CT, dx, _, rfl, (by rw [upd_ne ntp]; exact h2p), T.cl, T.nK, small _ (pf2_len _ _), ?_⟩
        refine k ls acc (by rw [hT, hc']) _ (keep0 (s2.trans (Same.upd_new hkt))) ⟨dx, lt, sd, kt, kvs, upd_same, ?_, ?_, ?_, ?_⟩
        · rw [upd_ne nltp, upd_ne (ne_of_none h2l hkt)]; exact h2l
        · rw [upd_ne nsp.symm, upd_ne (ne_of_none h2s hkt)]; exact h2s
        · have q : (kvs.map fun kv => kV kv.1) = (kvs.map (·.1)).map kV := by rw [List.map_map]; rfl
          rw [upd_ne ntp.symm, upd_same, q, hrs.keys, List.map_map]
          rfl
        · refine hrs.of fun b xs e => ?_
          have nb : b ≠ p := fun q => by rw [q, h2p] at e; cases e
          rw [upd_ne nb, upd_ne (ne_of_none e hkt)]; exact e
    · refine ⟨_, pss_cons (ps_if (PW.pt (pw_or (pt_cmpR op_gt (pe_callB call_len_seq (by rfl) T.len PySem.boot_len (pa_cons (pv 1) pa_nil)) (pe_glob (v := .int 24) (by rfl) hlim ⟨_, rfl⟩) (nomark _))
            (pw_or1 (pt_cmpR op_gt (pe_callB call_len_seq (by rfl) T.len PySem.boot_len (pa_cons (pv 2) pa_nil)) (pe_glob (v := .int 24) (by rfl) hlim ⟨_, rfl⟩) (nomark _)))))
          (pss_one (ps_raise rfl (takes_of rfl rfl rfl rfl) (pmk_oex TI.oex TI.iC TI.tI GI hr2 bI .nil pass0 (by rfl) TI.gC (pa_cons (pe_glob (v := .int 24) (by rfl) hlim ⟨_, rfl⟩) pa_nil)))) pss_nil)
        (pss_cons (ps_fld (pv 0) (pe_call GD hr6 (by rfl) mD kD bD .nil (passes_call (takes_of rfl rfl rfl rfl) (fun _ _ _ _ h => h)) (pa_cons (pv 1) pa_nil)) rfl)
        (pss_cons (ps_fld (pv 0) pe_dnewK rfl)
        (pss_cons (ps_for (passes_of rfl) rfl (pi_tup (pv 2)) (pg_tup rfl (pgs_cons (pg_name (i := 3) scTabInit.nd rfl (Or.inl rfl)) (pgs_cons (pg_name (i := 4) scTabInit.nd rfl (Or.inl rfl)) pgs_nil)))
          (pss_cons (ps_expr (pe_call GN hr4 (by rfl) mN kN bN .nil (passes_call (takes_of rfl rfl rfl rfl) (fun _ _ _ _ h => h)) (pa_cons (pv 3) (pa_cons (pe_fld (pv 0) rfl) pa_nil))))
          (pss_cons (ps_expr (pe_call GS hr6 (by rfl) mS kS bS .nil (passes_call (takes_of rfl rfl rfl rfl) (fun _ _ _ _ h => h)) (pa_cons (pv 4) (pa_cons (pe_fld (pv 0) rfl) pa_nil))))
          (pss_one (ps_dput (hu_of hr) (pe_fld (pv 0) rfl) (pv 3) (pe_call GC hr1 (by rfl) mC kC bC .nil pass0 (pa_cons (pe_fld (pv 0) rfl) (pa_cons (pv 4) pa_nil))) rfl)))))
        (pss_one (ps_fld (pv 0) (pe_callTy (call_tuple_dK rfl) (by rfl) T.tup (by decide +kernel) (pa_cons (pe_fld (pv 0) rfl) pa_nil)) rfl))))), ?_⟩
      have small : ∀ n : Nat, n ≤ 2 → n < 1000 := fun n h => by omega
      have hmany : 24 < lamps.length ∨ 24 < (rows.map RowIn.dat).length → Out C H E .many := fun h => Out.of s0 (kx .many (by unfold initT; rw [if_pos h]))
      refine ⟨_, rfl, a, _, rfl, Same.either s0 ha, _, _, rfl, rfl, _, rfl, ?_⟩
      refine ite2 (fun c1 => ?_) (fun c1 => ?_)
      · exact raise_end (hmany (.inl (by have q : (24 : Int) < (lamps.length : Nat) := of_decide_eq_true c1; omega)))
      have c1' : ¬ 24 < lamps.length := fun x => c1 (decide_eq_true (by show (24 : Int) < (lamps.length : Nat); omega))
      refine ⟨_, rfl, b, _, rfl, .inr (Same.tup s0 hb), _, _, rfl, rfl, _, rfl, ?_⟩
      refine ite2 (fun c2 => ?_) (fun c2 => ?_)
      · exact raise_end (hmany (.inr (by
          have q : (24 : Int) < ((rows.map fun r => V.ref r.t).length : Nat) := of_decide_eq_true c2
          rw [List.length_map] at q ⊢
          omega)))
      have c2' : ¬ 24 < (rows.map RowIn.dat).length := fun x => c2 (decide_eq_true (by
        show (24 : Int) < ((rows.map fun r => V.ref r.t).length : Nat)
        rw [List.length_map] at x ⊢
        omega))
      have hT : initT lamps (rows.map RowIn.dat) = match chkNames lamps [] with
          | .error e => .error e
          | .ok ls => match initRows ls (rows.map RowIn.dat) [] with
            | .error e => .error e
            | .ok rs => .ok (ls, rs) := by
        show (if _ then _ else _) = _
        rw [if_neg (by intro z; rcases z with z | z; exact c1' z; exact c2' z)]
        try rfl
      -- self.lamps = distinct_names(lamps)
      refine ⟨_, rfl, a, lamps, rfl, Same.either s0 ha, fun v hv => (hla v hv).of s0, hll, fun ls hls H1 lt s1 hlt e1 => ?_, fun e he => Out.of s0 (kx e (by rw [hT, he]))⟩
      rw [hls] at hT
      dsimp only at hT
      have s01 : Same H0 H1 := s0.trans s1
      refine ⟨_, rfl, p, CT, dx, [], rfl, s1 _ _ hp, T.cl, T.nL, by decide, ?_⟩
      have nltp : lt ≠ p := fun z => by rw [z, hp] at hlt; cases hlt
      have keep0 : ∀ {Hx : Hp} {o : HO}, Same H0 Hx → Same H0 (upd Hx p o) := fun {Hx o} s b u e => by
        rw [upd_ne (ne_of_none e hp0)]; exact s _ _ e
      -- self._shown = {}
      refine fun sd hsd => ⟨_, rfl, p, CT, dx, pf1 (.ref lt), rfl, (by rw [upd_ne (ne_of_none upd_same hsd), upd_same]; rfl), T.cl, T.nS, small _ (Nat.le_trans (pf1_len _) (by decide)), ?_⟩
      have hsd1 : H1 sd = none := by
        have nsd : sd ≠ p := fun z => by rw [z, upd_same] at hsd; cases hsd
        rw [upd_ne nsd] at hsd
        exact hsd
      have nsp : p ≠ sd := fun z => by
        have q := s1 _ _ hp
        rw [z, hsd1] at q
        cases q
      have nls : lt ≠ sd := ne_of_none e1 hsd1
      have hsd0 : H0 sd = none := s01.free hsd1
      refine ⟨_, rfl, b, rfl, ⟨rows.map fun r => V.ref r.t, ?_⟩, for_it (walk_tup (K := K) (a := b) (xs := rows.map fun r => V.ref r.t)) (fun i σ H' => ∃ (x y : Option V) (kvs : List (Key × V)) (acc : List (Str × List Str)),
          σ = [some (.ref p), some (.ref a), some (.ref b), x, y] ∧ H' p = some (.ins CT dx (pf2 (.ref lt) (.ref sd))) ∧ H' lt = some (.tup (ls.map V.str)) ∧ H' sd = some (.dK kvs) ∧ RowsAt H' acc kvs ∧ Same H0 H' ∧
          initRows ls ((rows.map RowIn.dat).drop i) acc = initRows ls (rows.map RowIn.dat) [] ∧ acc.length ≤ i) ?_ ?_ ?_ ?_⟩
      · exact Same.tup (keep0 ((keep0 s01).trans (Same.upd_new hsd))) hb
      · refine ⟨none, none, [], [], rfl, upd_same, ?_, ?_, .nil, keep0 ((keep0 s01).trans (Same.upd_new hsd)), rfl, Nat.le_refl _⟩
        · rw [upd_ne nltp, upd_ne nls, upd_ne nltp]; exact e1
        · rw [upd_ne nsp.symm, upd_same]
      · rintro i σ H' _ ⟨_, _, _, _, _, _, _, _, _, s', _⟩
        exact Same.tup s' hb
      · rintro i v σ H2 H3 hi ⟨x, y, kvs, acc, rfl, h2p, h2l, h2s, hrs, s2, hc, hal⟩ ⟨rfl, hv⟩
        have hv2 : (rows.map fun r => V.ref r.t)[i]? = some v := hv
        rw [List.length_map] at hi
        obtain ⟨r, hr, rfl⟩ : ∃ r, rows[i]? = some r ∧ v = V.ref r.t := by
          rw [List.getElem?_map] at hv2
          cases e : rows[i]? with
          | none => rw [e] at hv2; cases hv2
          | some r => rw [e] at hv2; exact ⟨r, rfl, (Option.some.inj hv2).symm⟩
        have hd : (rows.map RowIn.dat).drop i = (r.look, r.xs) :: (rows.map RowIn.dat).drop (i + 1) := by
          rw [List.drop_eq_getElem_cons (by rw [List.length_map]; exact hi)]
          rw [List.getElem_map, (List.getElem?_eq_some_iff.mp hr).2]
          rfl
        rw [hd] at hc
        have R := hrw r (List.mem_of_getElem? hr)
        have R2 := R.of s2
        refine ⟨r.t, _, rfl, R2.pair, rfl, _, _, rfl, _, _, rfl, rfl, ?_⟩
        -- check_new(look, self._shown)
        refine ⟨_, rfl, _, rfl, p, CT, dx, _, _, rfl, h2p, T.cl, T.nS, pf2_shown _ _, r.look, sd, kvs, acc.map (·.1), rfl, R2.name, h2s, hrs.keys, fun H4 s4 hn => ?_, fun e he => ?_⟩
        · obtain ⟨z, ez, hz, hza⟩ := chkNew_none hn
          -- _check_shown(shown, self.lamps)
          refine ⟨_, rfl, _, rfl, p, CT, dx, _, _, rfl, s4 _ _ h2p, T.cl, T.nL, pf2_lamps _ _, r.s, lt, r.xs, ls, rfl, Same.either s4 R2.seq, (R2.of s4).all, R.len, SqT.of (s4 _ _ h2l), fun H5 hsn s5 => ?_, fun e he => ?_⟩
          · -- self._shown[look] = _chosen_of(self.lamps, shown)
            have s45 : Same H3 H5 := s4.trans s5
            have hxs : r.xs = (r.xs.map strOf).map V.str := shown_strs hsn
            refine ⟨_, rfl, p, CT, dx, _, _, rfl, s45 _ _ h2p, T.cl, T.nL, pf2_lamps _ _, _, rfl, lt, r.s, ls, r.xs.map strOf, rfl, SqT.of (s45 _ _ h2l), (by rw [← hxs]; exact Same.either s45 R2.seq), ?_, fun H6 t s6 ht et => ?_⟩
            · have q := names_len hls
              simp at q
              omega
            · have s26 : Same H3 H6 := s45.trans s6
              refine ⟨_, rfl, p, CT, dx, _, _, rfl, s26 _ _ h2p, T.cl, T.nS, pf2_shown _ _, _, rfl, sd, _, rfl, (by rw [ez]; exact DPut.k (k := Sum.inr z) (s26 _ _ h2s) (by rw [hrs.length]; exact small1000 (by omega))), ?_⟩
              have hval : valV kvs (Sum.inr z) = none := by
                have q := isSome_valV (es := acc.map (·.1)) hrs.keys (z := z)
                rw [decide_eq_false hza] at q
                cases e : valV kvs (Sum.inr z) with
                | none => rfl
                | some u => rw [e] at q; cases q
              rw [putK_new _ hval]
              have tups : ∀ b xs, H6 b = some (.tup xs) → upd H6 sd (.dK (kvs ++ [(Sum.inr z, .ref t)])) b = some (.tup xs) := fun b xs e => by
                have nb : b ≠ sd := fun q => by rw [q, s26 _ _ h2s] at e; cases e
                rw [upd_ne nb]; exact e
              refine ⟨_, _, kvs ++ [(Sum.inr z, .ref t)], acc ++ [(z, chosen ls (r.xs.map strOf))], rfl, ?_, tups _ _ (s26 _ _ h2l), upd_same, ?_, fun b o e => ?_, ?_, ?_⟩
              · have np : p ≠ sd := nsp
                rw [upd_ne np]; exact s26 _ _ h2p
              · exact (hrs.of fun b xs e => tups b xs (s26 _ _ e)).snoc (tups _ _ et)
              · rw [upd_ne (ne_of_none e hsd0)]
                exact s26 _ _ (s2 _ _ e)
              · rw [← hc, initRows, hn, hsn, ez]
                rfl
              · rw [List.length_append]
                simp
                omega
          · have hce : initRows ls (rows.map RowIn.dat) [] = .error e := by rw [← hc, initRows, hn, he]
            exact Out.of (s2.trans s4) (kx e (by rw [hT, hce]))
        · have hce : initRows ls (rows.map RowIn.dat) [] = .error e := by rw [← hc, initRows, he]
          exact Out.of s2 (kx e (by rw [hT, hce]))
      · rintro σ H2 ⟨x, y, kvs, acc, rfl, h2p, h2l, h2s, hrs, s2, hc, hal⟩
        have hc' : initRows ls (rows.map RowIn.dat) [] = .ok acc := by
          rw [← hc, List.drop_eq_nil_of_le (by simp)]
          rfl
        -- self.looks = tuple(self._shown)
        refine ⟨_, rfl, p, CT, dx, _, _, rfl, h2p, T.cl, T.nS, pf2_shown _ _, sd, kvs, rfl, h2s, fun kt hkt => ?_⟩
        have ntp : p ≠ kt := ne_of_none h2p hkt
        refine ⟨_, rfl, p, CT, dx, _, rfl, (by rw [upd_ne ntp]; exact h2p), T.cl, T.nK, small _ (pf2_len _ _), ?_⟩
        refine k ls acc (by rw [hT, hc']) _ (keep0 (s2.trans (Same.upd_new hkt))) ⟨dx, lt, sd, kt, kvs, upd_same, ?_, ?_, ?_, ?_⟩
        · rw [upd_ne nltp, upd_ne (ne_of_none h2l hkt)]; exact h2l
        · rw [upd_ne nsp.symm, upd_ne (ne_of_none h2s hkt)]; exact h2s
        · have q : (kvs.map fun kv => kV kv.1) = (kvs.map (·.1)).map kV := by rw [List.map_map]; rfl
          rw [upd_ne ntp.symm, upd_same, q, hrs.keys, List.map_map]
          rfl
        · refine hrs.of fun b xs e => ?_
          have nb : b ≠ p := fun q => by rw [q, h2p] at e; cases e
          rw [upd_ne nb, upd_ne (ne_of_none e hkt)]; exact e
end
end Dl

/-! len(o) and o[k] by the class's own __len__ and __getitem__ -/
namespace Dl
open PySem PySem.Spec PyProof.Rows L2
section
variable {X : Cx} {CX : CXT} {k : Nat} {C f : Addr} {fd : FuncData} {ps : List Str} {sp : Sp} {E : XK}
theorem run_at {A : Around} {pins : List (Addr × Obj)} {σ : L2.St} {H : Hp} {s : Shared} {Q : VK} {us : List Value} {vs : List V} (hA : A.frames = X.A.frames) (F : FnOk X.prog X.w X.K X.mg X.base CX k f fd ps sp) (hr : Room k A)
    (hb : Binds X.K fd ps []) (hx : Passes CX X E) (I : Inv X pins σ H s) (r : Vals vs us) (h : sp vs H Q E) : wpAny (model X.prog X.w) A (call (.ref f) us) (EP X pins σ Q) X.xe s := by
  have e0 : Env0 X.prog X.w X.K X.mg X.base A X.stack s H := by
    have e := I.env0
    exact ⟨by rw [hA]; exact e.frames, e.mod, e.bs, e.bsz, e.funs, e.frf, e.hok, e.bare⟩
  have hl := F.len _ _ _ _ h
  refine wpAny_call (codeAny_mono (F.run A X.stack s H ⟨us, []⟩ us vs Q E hr e0 (by
    have := hb s us I.kIn (by rw [List.append_nil, ← r.length]; exact hl)
    simpa using this) r h) fun r s' hq => ?_)
  cases r with
  | error e => exact hx pins σ H s e s' I hq
  | ok fl =>
    cases fl with
    | ret u => exact I.after hq
    | next => exact False.elim hq
    | brk => exact False.elim hq
    | cont => exact False.elim hq
def rLenOwn (C : Addr) (sp : Sp) (E : XK) : List V → Hp → VK → Prop := fun xs H Q => ∃ a dx fs, xs = [.ref a] ∧ H a = some (.ins C dx fs) ∧ sp [.ref a] H (fun v H' => ∃ n : Nat, v = .int (n : Int) ∧ n ≤ 1000 ∧ Q (.int (n : Int)) H') E
theorem call_lenOwn (F : FnOk X.prog X.w X.K X.mg X.base CX k f fd ps sp) (hs : PySem.W.findIn X.K (.ref C) "__len__" = some (some (.ref f))) (hf : PySem.W.isFn X.K (.ref f) = true) (hr : Room (k + 1) X.A) (hb : Binds X.K fd ps []) (hx : Passes CX X E) :
    CallR X (.builtin "len") (rLenOwn C sp E) := by
  intro pins s σ H xs us Q I r h
  obtain ⟨a, dx, fs, rfl, ha, hsp⟩ := h
  obtain ⟨u, rfl, rx⟩ := vals1 r
  cases rx
  obtain ⟨mA, J, _⟩ := ins_get I.hok ha
  obtain ⟨od, J, _⟩ := J.look
  obtain ⟨m, hF⟩ := I.fr
  refine PySem.W.len_K hF I.ok.mod.kin J hs hf ?_
  refine wpAny_mono (run_at (A := X.A.in1) rfl F hr.in1 hb hx I (show Vals [V.ref a] [Value.ref a] from .cons rfl .nil) hsp) (fun v s' hv => ?_) fun _ _ y => y
  obtain ⟨z, H', I', rz, n, ez, hn, q⟩ := hv
  subst ez
  obtain ⟨t, rfl⟩ := rz
  exact ⟨⟨by omega, by omega⟩, ⟨.int n, H', I'.tok _, ⟨_, rfl⟩, q⟩⟩
def rIxOwn (C : Addr) (sp : Sp) (E : XK) : R2 := fun x y H Q => ∃ a dx fs, x = .ref a ∧ H a = some (.ins C dx fs) ∧ sp [.ref a, y] H Q E
theorem pe_ixOwn {a b : Expr} {ta tb : TE} {pos : Pos} (F : FnOk X.prog X.w X.K X.mg X.base CX k f fd ps sp) (hs : PySem.W.findIn X.K (.ref C) "__getitem__" = some (some (.ref f))) (hfn : PySem.W.fnIn X.K f = true) (hf : PySem.W.isFn X.K (.ref f) = true)
    (hr : Room (k + 1) X.A) (hb : Binds X.K fd ps []) (hx : Passes CX X E) (ha : PE X a ta) (hb' : PE X b tb)
    (hsl : ∀ v u, subscripted b true v u = runValue (.builtin "lifetime.subscript" ⟨[v, u], []⟩) := by intros; rfl) : PE X (.Subscript a b pos) (tOp (rIxOwn C sp E) ta tb) := by
  refine ⟨fun pins s σ H Q I h => ?_⟩
  refine Subscript_ (binT ha hb' I h fun v u s2 x y H2 I2 rx ry q => ?_)
  obtain ⟨p, dx, fs, rfl, hp, hsp⟩ := q
  cases rx
  obtain ⟨mA, J, _⟩ := ins_get I2.hok hp
  obtain ⟨od, J, _⟩ := J.look
  obtain ⟨m, hF⟩ := I2.fr
  exact PySem.W.sub_K hF I2.ok.mod.kin J hs hfn hf (run_at (A := X.A.in1) rfl F hr.in1 hb hx I2 (show Vals [V.ref p, y] [Value.ref p, u] from .cons rfl (.cons ry .nil)) hsp) (hsl _ _)
end
end Dl

namespace Dl
open PySem L2
/-! ### methods of a table -/
def spAllKnown (K : PySem.W.Frag) (C : Cs) : Sp := fun vs H Q E => ∃ (p q : Addr) (xs : List V) (es : List Str), vs = [.ref p, .ref q] ∧ SqT K H p xs ∧ (∀ v ∈ xs, NmOk H v) ∧ SqT K H q (es.map V.str) ∧
  ((xs.find? fun v => !knows v es) = none → Q .non H) ∧ ∀ v, (xs.find? fun v => !knows v es) = some v → Out1 C.unk "name" v H E
/-- what a method may lean on: a table that was made by the checks -/
structure TabOk (ls : List Str) (rs : List (Str × List Str)) : Prop where
  lnd : ls.Nodup
  lval : ∀ z ∈ ls, validN z = true
  lfew : ls.length ≤ 24
  knd : (rs.map (·.1)).Nodup
  kval : ∀ x ∈ rs, validN x.1 = true
  kfew : rs.length ≤ 24
  sub : ∀ x ∈ rs, x.2.Sublist ls
theorem RowsAt.val {H : Hp} {rs : List (Str × List Str)} {kvs : List (Key × V)} (h : RowsAt H rs kvs) : (rs.map (·.1)).Nodup → ∀ {x : Str × List Str}, x ∈ rs → ∃ a, valV kvs (Sum.inr x.1) = some (.ref a) ∧ H a = some (.tup (x.2.map V.str)) := by
  induction h with
  | nil => intro _ x hx; cases hx
  | @cons k sh a r kvs e h ih =>
    intro nd x hx
    rw [List.map_cons, List.nodup_cons] at nd
    rcases List.mem_cons.mp hx with rfl | hx
    · exact ⟨a, by simp [valV], e⟩
    · have ne : ¬ k = x.1 := fun q => nd.1 (by rw [q]; exact List.mem_map.mpr ⟨x, hx, rfl⟩)
      obtain ⟨b, h1, h2⟩ := ih nd.2 hx
      refine ⟨b, ?_, h2⟩
      unfold valV at h1 ⊢
      rw [List.find?_cons_of_neg (by simpa using ne)]
      exact h1
/-- a pair of rows() -/
structure RowT (H : Hp) (r : RowIn) : Prop where
  pair : H r.t = some (.tup [r.look, .ref r.s])
  tup : H r.s = some (.tup r.xs)
theorem RowT.of {H H' : Hp} {r : RowIn} (s : Same H H') (h : RowT H r) : RowT H' r := ⟨s _ _ h.pair, s _ _ h.tup⟩
def rdat (x : Str × List Str) : V × List V := (.str x.1, x.2.map V.str)
def spTRows (K : PySem.W.Frag) (CT : Addr) : Sp := fun vs H Q _ => ∃ (p : Addr) (ls : List Str) (rs : List (Str × List Str)), vs = [.ref p] ∧ TableAt CT H p ls rs ∧ TabOk ls rs ∧
  ∀ (H' : Hp) (l : Addr) (rows : List RowIn), Same H H' → H l = none → H' l = some (.lst (rows.map fun r => V.ref r.t)) → (∀ r ∈ rows, RowT H' r) → rows.map RowIn.dat = rs.map rdat → Q (.ref l) H'
section
variable {P : Program} {w : World} {K : PySem.W.Frag} {mg : Str → Option Value} {base : Heap} {C : Cs} {CT : Addr}
theorem scCheckAll : FnScope ["chosen", "names", "name"] ["chosen", "names"] (defScope sCheckAll) := ⟨rfl, rfl, rfl, by decide +kernel, rfl, by decide +kernel, by decide +kernel⟩
theorem ok_checkall {f : Addr} {fd : FuncData} (F : Fun K "check_all_known" "check_all_known" sCheckAll f fd) (gK : Dfn P w K mg base (L2.CX P w) 4 "check_known" ["name", "names"] (spKnown K C)) :
    FnOk P w K mg base (L2.CX P w) 5 f fd ["chosen", "names"] (spAllKnown K C) := by
  obtain ⟨fK, dK, mK, kK, bK, GK⟩ := gK
  refine F.okX scCheckAll (fun vs H Q E h => ?_) (fun cdv A outer s H vs Q E hr h => ?_)
  · obtain ⟨a, b, xs, es, rfl, _⟩ := h
    rfl
  · obtain ⟨p, q, xs, es, rfl, hp, hx, hq, k, kx⟩ := h
    have hr4 : Room 4 _ := hr
    refine ⟨_, (pss_one (ps_for (passes_of rfl) rfl (pi_tup (pv 0)) (pg_name (i := 2) scCheckAll.nd rfl (Or.inl rfl)) (pss_one (ps_expr (pe_call GK hr4 (by rfl) mK kK bK .nil (passes_call (takes_of rfl rfl rfl rfl) (fun _ _ _ _ h => h)) (pa_cons (pv 2) (pa_cons (pv 1) pa_nil))))))), ?_⟩
    refine ⟨_, rfl, p, rfl, ⟨_, hp⟩, for_it (walk_tup (K := K) (a := p) (xs := xs)) (fun i σ H' => H' = H ∧ (∃ x, σ = [some (.ref p), some (.ref q), x]) ∧ (xs.find? fun v => !knows v es) = ((xs.drop i).find? fun v => !knows v es))
      ⟨rfl, ⟨none, rfl⟩, rfl⟩ (fun i σ H' _ ⟨e, _⟩ => by rw [e]; exact hp) ?_ ?_⟩
    · rintro i v σ H1 H2 hi ⟨rfl, ⟨x, rfl⟩, hf⟩ ⟨rfl, hv⟩
      have hd : xs.drop i = v :: xs.drop (i + 1) := by
        rw [List.drop_eq_getElem_cons hi]
        have q := (List.getElem?_eq_some_iff.mp hv).2
        rw [q]
      rw [hd] at hf
      refine ⟨_, rfl, _, rfl, v, q, es, rfl, hx v (List.mem_of_getElem? hv), hq, fun hk => ?_, fun hk => ?_⟩
      · refine ⟨rfl, ⟨_, rfl⟩, ?_⟩
        rw [hf, List.find?_cons_of_neg (by rw [hk]; decide)]
      · refine kx v ?_
        rw [hf, List.find?_cons_of_pos (by rw [hk]; decide)]
    · rintro σ H1 ⟨rfl, ⟨x, rfl⟩, hf⟩
      rw [List.drop_length] at hf
      exact k hf
theorem scTRows : FnScope ["self", "look"] ["self"] (defScope sTableRows) := ⟨rfl, rfl, rfl, by decide +kernel, rfl, by decide +kernel, by decide +kernel⟩
theorem ok_trows {f : Addr} {fd : FuncData} (F : Fun K "rows" "Table.rows" sTableRows f fd) (cl : Cls K CT) (nK : NoAttr K CT "looks") (nS : NoAttr K CT "_shown") : FnOk P w K mg base CX0 1 f fd ["self"] (spTRows K CT) := by
  refine F.ok scTRows (fun vs H Q E h => ?_) (fun cdv A outer s H vs Q E hr h => ?_)
  · obtain ⟨a, ls, rs, rfl, _⟩ := h
    rfl
  · obtain ⟨p, ls, rs, rfl, ⟨dx, lt, sd, kt, kvs, hp, hlt, hsd, hkt, hrs⟩, ok, k⟩ := h
    refine ⟨_, (pss_one (ps_ret (pe_lc (own := [("look", 1)]) (g := gName 1) (tt := tYes) (te := tTup (tCons (tVar 1) (tCons (tDGet (tFld K (tVar 0) "_shown") (tVar 1)) tNil))) rfl scTRows.nd (pi_tup (pe_fld (pv 0) rfl)) (blkOk_by (N := ["self", "look"]) (sc := defScope sTableRows) (by decide +kernel)) (fun _ _ _ _ _ => (pg_name (i := 1) scTRows.nd rfl (Or.inl rfl))) (fun _ _ _ _ _ => pts_nil)
      (fun _ _ _ _ _ => (pe_tup (pa_cons (pv 1) (pa_cons (pe_dget (hu_of hr) (pe_fld (pv 0) rfl) (pv 1) (fun _ _ => rfl)) pa_nil))))))), ?_⟩
    refine ⟨_, rfl, p, CT, dx, _, _, rfl, hp, cl, nK, pf3_looks _ _ _, kt, rfl, ⟨_, SqT.of hkt⟩, fun D hD => lc_it (walk_tup (K := K) (a := kt) (xs := (rs.map (·.1)).map V.str)) (fun i H' => ∃ rows : List RowIn, Same H H' ∧ H' D = some (.lst (rows.map fun r => V.ref r.t)) ∧ (∀ r ∈ rows, RowT H' r) ∧ rows.map RowIn.dat = (rs.take i).map rdat)
      ⟨[], Same.upd_new hD, upd_same, fun r hr => absurd hr (by simp), rfl⟩ (fun i H' _ ⟨_, s1, _⟩ => SqT.of (s1 _ _ hkt)) ?_ ?_⟩
    · rintro i v H1 H2 hi ⟨rows, s1, hD1, hrt, hdat⟩ ⟨rfl, hv⟩
      have hv2 : ((rs.map (·.1)).map V.str)[i]? = some v := hv
      rw [List.getElem?_map, List.getElem?_map] at hv2
      cases hri : rs[i]? with
      | none => rw [hri] at hv2; cases hv2
      | some x =>
      rw [hri] at hv2
      obtain rfl : V.str x.1 = v := Option.some.inj hv2
      obtain ⟨a, hval, ha⟩ := hrs.val ok.knd (List.mem_of_getElem? hri)
      have hsd1 := s1 _ _ hsd
      have dg : DGet H2 sd (kV (Sum.inr x.1)) (some (.ref a)) := by rw [← hval]; exact DGet.k hsd1
      have hlen : rows.length ≤ 24 := by
        have q := congrArg List.length hdat
        rw [List.length_map, List.length_map, List.length_take] at q
        have := ok.kfew
        omega
      refine ⟨rfl, _, rfl, _, rfl, p, CT, dx, _, _, rfl, s1 _ _ hp, cl, nS, pf3_shown _ _ _, _, rfl, sd, _, rfl, dg, by show 2 ≤ sizeLine; decide, fun t ht => ?_⟩
      have ntD : D ≠ t := ne_of_none hD1 ht
      refine ⟨_, by rw [upd_ne ntD]; exact hD1, by rw [List.length_map]; exact small1000 (by omega), rows ++ [⟨t, .str x.1, a, x.2.map V.str⟩], fun c o h => ?_, by rw [upd_same, List.map_append]; rfl, fun r hr => ?_, ?_⟩
      · rw [upd_ne (ne_of_none h hD), upd_ne (ne_of_none (s1 _ _ h) ht)]
        exact s1 _ _ h
      · have keep : ∀ {c : Addr} {ys : List V}, H2 c = some (.tup ys) → upd (upd H2 t (.tup [.str x.1, .ref a])) D (.lst ((rows.map fun r => V.ref r.t) ++ [.ref t])) c = some (.tup ys) := fun {c ys} h => by
          have nD : c ≠ D := fun q => by rw [q, hD1] at h; cases h
          rw [upd_ne nD, upd_ne (ne_of_none h ht)]
          exact h
        rcases List.mem_append.mp hr with h | h
        · exact ⟨keep (hrt r h).pair, keep (hrt r h).tup⟩
        · obtain rfl := List.mem_singleton.mp h
          exact ⟨by rw [upd_ne ntD.symm, upd_same], keep (s1 _ _ ha)⟩
      · have e : rs.take (i + 1) = rs.take i ++ [x] := by rw [List.take_succ, hri]; rfl
        rw [List.map_append, hdat, e, List.map_append]
        rfl
    · rintro H1 ⟨rows, s1, hD1, hrt, hdat⟩
      rw [List.length_map, List.length_map, List.take_length] at hdat
      exact k H1 D rows s1 hD hD1 hrt hdat
end
end Dl

/-! C(e, ..) in a try's body: what the class's __init__ lets out is wished for at the caller's slots; lists of texts as data -/
namespace Dl
open PySem PySem.Spec PyProof.Rows L2
def tMakeS (C : Addr) (sp : Sp) (E : L2.St → XK) (t : TA) : TE := fun σ H Q => t σ H fun vs H1 =>
  ∀ x dx, H1 x = none → H1 dx = none → dx ≠ x → sp (.ref x :: vs) (upd (upd H1 dx (.own x)) x (.ins C dx [])) (fun v H2 => v = .non ∧ Q (.ref x) H2) (E σ)
theorem make_slots {X : Cx} {CX : CXT} {k : Nat} {f C : Addr} {fd : FuncData} {ps : List Str} {sp : Sp} {E : XK} {σ : L2.St} {pins : List (Addr × Obj)} {H : Hp} {s : Shared} {Q : VK} {us : List Value} {vs : List V}
    (M : Mk X.K C f) (F : FnOk X.prog X.w X.K X.mg X.base CX k f fd ps sp) (hr : Room (k + 1) X.A) (hb : Binds X.K fd ps []) (hx : PassesAt CX X σ E) (I : Inv X pins σ H s) (r : Vals vs us)
    (h : ∀ x dx, H x = none → H dx = none → dx ≠ x → sp (.ref x :: vs) (upd (upd H dx (.own x)) x (.ins C dx [])) (fun v H2 => v = .non ∧ Q (.ref x) H2) E) :
    wpAny (model X.prog X.w) X.A (call (.ref C) us) (EP X pins σ Q) X.xe s := by
  have at0 : H s.heap.objs.size = none := I.hok.fresh (Nat.le_refl _)
  have at1 : H (s.heap.objs.size + 1) = none := I.hok.fresh (Nat.le_succ _)
  have want := h _ _ at1 at0 (Nat.ne_of_lt (Nat.lt_succ_self _))
  have J := Inv.made (C := C) I
  have rv : Vals (V.ref (s.heap.objs.size + 1) :: vs) (Value.ref (s.heap.objs.size + 1) :: us) := .cons rfl r
  have len : (Value.ref (s.heap.objs.size + 1) :: us).length = ps.length := by rw [← rv.length]; exact F.len _ _ _ _ want
  have bind := hb _ (Value.ref (s.heap.objs.size + 1) :: us) J.kIn (by rw [List.append_nil]; exact len)
  rw [List.append_nil] at bind
  have body := F.run _ X.stack _ _ ⟨Value.ref (s.heap.objs.size + 1) :: us, []⟩ _ _ _ E (hr.make C us []) (J.env0.make C us []) bind rv want
  apply wpAny_call
  apply make_map (f := f) I.kIn M.makes M.init (beq_iff_eq.mp M.fn)
  apply codeAny_mono body
  intro out s2 hout
  match out, hout with
  | .error er, hout => exact hx pins _ _ er s2 J hout
  | .ok (.ret u), hout =>
    obtain ⟨v, H2, J2, rel, ev, q⟩ := J.after hout
    cases ev
    exact ⟨rel, V.ref (s.heap.objs.size + 1), H2, J2, rfl, q⟩
theorem pe_makeS {X : Cx} {CX : CXT} {k : Nat} {f C : Addr} {fd : FuncData} {ps : List Str} {sp : Sp} {E : L2.St → XK} {x : Str} {p pos : Pos} {e : Expr} {es : List Expr} {t : TA}
    (M : Mk X.K C f) (F : FnOk X.prog X.w X.K X.mg X.base CX k f fd ps sp) (hr : Room (k + 1) X.A) (hg : Gl X x) (hm : X.mg x = some (.ref C)) (hb : Binds X.K fd ps []) (hx : ∀ σ, PassesAt CX X σ (E σ)) (ha : PA X (e :: es) t)
    (hdb : (x == ("__debug__" : Str)) = false := by decide) (he : starEach (e :: es) X.env = (false, eval e X.env) :: starEach es X.env := by rfl) (hpl : (backTo pos (starEach es X.env)).any (·.1) = false := by rfl) :
    PE X (.Call (.Name x p) (e :: es) [] pos) (tMakeS C sp E t) := by
  constructor
  intro pins s σ H Q I h
  apply wpAny_Call_Name_kw
  apply ld_glob I hg hm _ hdb
  apply PySem.W.callWith_K (h₀ := X.base) I.ok.mod.kin M.kp _ he hpl
  apply thn (ha.run pos pins s σ H _ I h)
  rintro us s1 ⟨vs, H1, I1, r, q⟩
  exact ⟨I1.kIn, make_slots M F hr hb (hx σ) I1 r q⟩
/-! ### lists and tuples of texts as data -/
theorem canAll_strs : ∀ {zs : List Str}, (∀ z ∈ zs, PyData.canLay0 (.str z) = true) → PyData.canLayAll0 (zs.map PyData.str) = true
  | [], _ => by simp [PyData.canLayAll0]
  | z :: r, h => by
    rw [List.map_cons, PyData.canLayAll0, Bool.and_eq_true]
    exact ⟨h z (List.mem_cons_self ..), canAll_strs fun y hy => h y (List.mem_cons_of_mem _ hy)⟩
theorem depthAll_strs : ∀ zs : List Str, PyData.depthAll (zs.map PyData.str) = 0
  | [] => by simp [PyData.depthAll]
  | z :: r => by rw [List.map_cons, PyData.depthAll, depthAll_strs r]; simp [PyData.depth]
theorem shaped_strs {zs : List Str} (h : ∀ z ∈ zs, PyData.canLay0 (.str z) = true) : SeqAt.shaped (.list (zs.map PyData.str)) = true := by
  unfold SeqAt.shaped
  rw [Bool.and_eq_true, PyData.canLay0, PyData.depth, depthAll_strs]
  exact ⟨canAll_strs h, by decide⟩
theorem dpAll_strs {K : PySem.W.Frag} {H : Hp} : ∀ zs : List Str, DpAll K H (zs.map V.str) (zs.map PyData.str)
  | [] => .nil
  | z :: r => .cons (.str z) (dpAll_strs r)
theorem eqvAll_strs : ∀ zs ys : List Str, PyData.eqvAll (zs.map PyData.str) (ys.map PyData.str) = decide (zs = ys)
  | [], [] => by simp [PyData.eqvAll]
  | [], _ :: _ => by simp [PyData.eqvAll]
  | _ :: _, [] => by simp [PyData.eqvAll]
  | z :: r, y :: q => by
    rw [List.map_cons, List.map_cons, PyData.eqvAll, eqvAll_strs r q, PyData.eqv]
    by_cases h1 : z = y <;> by_cases h2 : r = q <;> simp [h1, h2]
end Dl

namespace Dl
open PySem PySem.Spec PyProof.Rows L2
/-! ### the drawn names: one to three letters, and the number of the names before where it was there -/
def LT : Str := "abcdefghijklmnopqrstuvwxyz"
def isLet (c : Nat) : Prop := 97 ≤ c ∧ c ≤ 122
def dg (n : Nat) : List Nat := (Str.ofString (toString (n : Int))).cps.toList
theorem lt_facts : ∀ c ∈ LT.cps.toList, 97 ≤ c ∧ c ≤ 122 := by decide +kernel
theorem lt_len : LT.cps.toList.length = 26 := by decide +kernel
theorem dg_facts : ∀ k, k < 25 → dg k ≠ [] ∧ (dg k).length ≤ 2 ∧ ∀ c ∈ dg k, ¬ (97 ≤ c ∧ c ≤ 122) ∧ c ∈ SG.cps.toList ∧ c < 1114112 := by decide +kernel
theorem dg_inj : ∀ j, j < 25 → ∀ k, k < 25 → dg j = dg k → j = k := by decide +kernel
theorem let_sg : ∀ c, c < 123 → 97 ≤ c → c ∈ SG.cps.toList ∧ c < 1114112 := by decide +kernel
theorem sg_small' : ∀ c ∈ SG.cps.toList, c < 1114112 := by decide +kernel
theorem nil_codes : ("" : Str).cps.toList = [] := by decide +kernel
/-- the name that was drawn as number i -/
structure NameAt (i : Nat) (z : Str) : Prop where
  ex : ∃ l : List Nat, l ≠ [] ∧ l.length ≤ 3 ∧ (∀ c ∈ l, isLet c) ∧ (z.cps.toList = l ∨ z.cps.toList = l ++ dg i)
structure NamesOk (zs : List Str) : Prop where
  at_ : ∀ i z, zs[i]? = some z → NameAt i z
  nd : zs.Nodup
  few : zs.length ≤ 24
theorem codes_ext {a b : Str} (h : a.cps.toList = b.cps.toList) : a = b := by
  cases a; cases b
  congr
  exact Array.ext' h
theorem let_dg {l l' : List Nat} {j k : Nat} (hj : j < 25) (hk : k < 25) (hl : ∀ c ∈ l, isLet c) (hl' : ∀ c ∈ l', isLet c) (h : l' ++ dg j = l ++ dg k) : j = k := by
  have tw : ∀ (m d : List Nat), (∀ c ∈ m, isLet c) → (∀ c ∈ d, ¬ isLet c) → (m ++ d).dropWhile (fun c => decide (97 ≤ c ∧ c ≤ 122)) = d := by
    intro m
    induction m with
    | nil =>
      intro d _ hd
      cases d with
      | nil => rfl
      | cons a r =>
        have q : ¬ (97 ≤ a ∧ a ≤ 122) := hd a (List.mem_cons_self ..)
        simp only [List.nil_append, List.dropWhile]
        rw [decide_eq_false q]
    | cons a r ih =>
      intro d hm hd
      have q : 97 ≤ a ∧ a ≤ 122 := hm a (List.mem_cons_self ..)
      rw [List.cons_append, List.dropWhile, decide_eq_true q]
      exact ih d (fun c hc => hm c (List.mem_cons_of_mem _ hc)) hd
  have e := congrArg (List.dropWhile fun c => decide (97 ≤ c ∧ c ≤ 122)) h
  rw [tw l' (dg j) hl' fun c hc => ((dg_facts j hj).2.2 c hc).1, tw l (dg k) hl fun c hc => ((dg_facts k hk).2.2 c hc).1] at e
  exact dg_inj j hj k hk e
theorem fresh_tail {zs : List Str} {l : List Nat} {z : Str} (ok : NamesOk zs) (h23 : zs.length ≤ 23) (hl : ∀ c ∈ l, isLet c) (hz : z.cps.toList = l ++ dg zs.length) : z ∉ zs := by
  intro hm
  obtain ⟨i, hi⟩ := List.getElem?_of_mem hm
  have hlt : i < zs.length := (List.getElem?_eq_some_iff.mp hi).1
  obtain ⟨l', _, _, hl', e⟩ := (ok.at_ i z hi).ex
  rcases e with e | e
  · rw [hz] at e
    have d := dg_facts zs.length (by omega)
    cases hd : dg zs.length with
    | nil => exact d.1 hd
    | cons c r =>
      have m1 : c ∈ l' := by rw [← e, hd]; simp
      have m2 : c ∈ dg zs.length := by rw [hd]; simp
      exact (d.2.2 c m2).1 (hl' c m1)
  · rw [hz] at e
    have := let_dg (by omega) (by omega) hl hl' e.symm
    omega
theorem NameAt.sg {i : Nat} {z : Str} (h : NameAt i z) (hi : i < 25) : (∀ c ∈ z.cps.toList, c ∈ SG.cps.toList) ∧ 1 ≤ z.length ∧ z.length ≤ 5 := by
  obtain ⟨l, h1, h2, h3, h4⟩ := h.ex
  have zl : z.length = z.cps.toList.length := by simp [Str.length]
  have l1 : 1 ≤ l.length := by cases l with | nil => exact absurd rfl h1 | cons _ _ => simp
  have d := dg_facts i hi
  rcases h4 with e | e
  · refine ⟨fun c hc => ?_, by rw [zl, e]; exact l1, by rw [zl, e]; omega⟩
    rw [e] at hc
    exact (let_sg c (by have := (h3 c hc).2; omega) (h3 c hc).1).1
  · refine ⟨fun c hc => ?_, by rw [zl, e, List.length_append]; omega, by rw [zl, e, List.length_append]; omega⟩
    rw [e] at hc
    rcases List.mem_append.mp hc with hc | hc
    · exact (let_sg c (by have := (h3 c hc).2; omega) (h3 c hc).1).1
    · exact (d.2.2 c hc).2.1
theorem NameAt.valid {i : Nat} {z : Str} (h : NameAt i z) (hi : i < 25) : validN z = true := by
  obtain ⟨h1, h2, h3⟩ := h.sg hi
  unfold validN
  rw [decide_eq_true h2, decide_eq_true (show z.length ≤ 12 by omega), List.all_eq_true.mpr fun c hc => decide_eq_true (h1 c hc)]
  rfl
theorem NamesOk.valid {zs : List Str} (ok : NamesOk zs) {z : Str} (hz : z ∈ zs) : validN z = true := by
  obtain ⟨i, hi⟩ := List.getElem?_of_mem hz
  have hlt : i < zs.length := (List.getElem?_eq_some_iff.mp hi).1
  exact (ok.at_ i z hi).valid (by have := ok.few; omega)
theorem valid_small {z : Str} (h : validN z = true) : z.length ≤ 12 ∧ (∀ c ∈ z.cps.toList, c < 1114112) := by
  unfold validN at h
  simp only [Bool.and_eq_true, decide_eq_true_eq] at h
  exact ⟨h.2.1, fun c hc => sg_small' c (of_decide_eq_true (List.all_eq_true.mp h.2.2 c hc))⟩
/-- everything but the bag at b stands -/
def SameB (b : Addr) (H H' : Hp) : Prop := ∀ c o, c ≠ b → H c = some o → H' c = some o
theorem SameB.refl (b : Addr) (H : Hp) : SameB b H H := fun _ _ _ h => h
theorem SameB.trans {b : Addr} {H H1 H2 : Hp} (s : SameB b H H1) (t : SameB b H1 H2) : SameB b H H2 := fun c o n h => t c o n (s c o n h)
theorem SameB.upd {b : Addr} {H : Hp} {o : HO} : SameB b H (upd H b o) := fun c u n h => by rw [upd_ne n]; exact h
theorem SameB.of {b : Addr} {H H' : Hp} (s : Same H H') : SameB b H H' := fun c o _ h => s c o h
theorem SameB.free {b : Addr} {H H' : Hp} (s : SameB b H H') {c : Addr} (n : c ≠ b) (h : H' c = none) : H c = none := by
  cases e : H c with
  | none => rfl
  | some o => rw [s c o n e] at h; cases h
theorem upd_none {H : Hp} {b c : Addr} {o : HO} (h : upd H b o c = none) : H c = none ∧ c ≠ b := by
  by_cases e : c = b
  · subst e; rw [upd_same] at h; cases h
  · rw [upd_ne e] at h; exact ⟨h, e⟩
structure TxtM (mg : Str → Option Value) : Prop where
  range : mg "range" = none
  len : mg "len" = none
  str : mg "str" = none
def spName : Sp := fun vs H Q _ => ∃ (b u : Addr) (L : List Int) (zs : List Str), vs = [.ref b, .ref u] ∧ H b = some (.lst (L.map V.int)) ∧ BagOk L ∧ u ≠ b ∧ H u = some (.lst (zs.map V.str)) ∧ NamesOk zs ∧ zs.length ≤ 23 ∧
  ∀ (L' : List Int) (z : Str), BagOk L' → NameAt zs.length z → z ∉ zs → Q (.str z) (upd H b (.lst (L'.map V.int)))
def spNames : Sp := fun vs H Q _ => ∃ (b : Addr) (L : List Int) (n : Int), vs = [.ref b, .int n] ∧ H b = some (.lst (L.map V.int)) ∧ BagOk L ∧ 0 ≤ n ∧ n ≤ 24 ∧
  ∀ (H' : Hp) (u : Addr) (L' : List Int) (zs : List Str), SameB b H H' → H u = none → H' u = some (.lst (zs.map V.str)) → H' b = some (.lst (L'.map V.int)) → BagOk L' → NamesOk zs → zs.length = n.toNat → Q (.ref u) H'
theorem cat_codes (a b : Str) : (a ++ b).cps.toList = a.cps.toList ++ b.cps.toList := by
  show (a.cps ++ b.cps).toList = _
  simp
theorem cat_len (a b : Str) : (a ++ b).length = a.length + b.length := by
  show (a.cps ++ b.cps).size = _
  rw [Array.size_append]
  rfl
section
variable {P : Program} {w : World} {K : PySem.W.Frag} {mg : Str → Option Value} {base : Heap}
theorem scName : FnScope ["_law_bag_here", "_law_used", "_law_letters", "_law_name_here", "_law_k"] ["_law_bag_here", "_law_used"] (defScope sLawName) := ⟨rfl, rfl, rfl, by decide +kernel, rfl, by decide +kernel, by decide +kernel⟩
theorem ok_name {f : Addr} {fd : FuncData} (F : Fun K "_law_name" "_law_name" sLawName f fd) (T : TxtM mg) (gT : Dfn P w K mg base CX0 1 "_law_take" ["_law_bag_here", "_law_size"] spTake) :
    FnOk P w K mg base CX0 2 f fd ["_law_bag_here", "_law_used"] spName := by
  obtain ⟨fT, dT, mT, kT, bT, GT⟩ := gT
  refine F.ok scName (fun vs H Q E h => ?_) (fun cdv A outer s H vs Q E hr h => ?_)
  · obtain ⟨a, u, L, zs, rfl, _⟩ := h
    rfl
  · obtain ⟨b, u, L, zs, rfl, hb, hok, hub, hu, ok, hlen, k⟩ := h
    have hr1 : Room 1 _ := hr
    refine ⟨_, (pss_cons (ps_set (i := 2) scName.nd rfl (Or.inl rfl) pe_str)
        (pss_cons (ps_set (i := 3) scName.nd rfl (Or.inl rfl) pe_str)
        (pss_cons (ps_for PassesOwn.never rfl (pi_range1 (by rfl) T.range (pa_cons (pe_op op_add pe_int (pe_call GT hr1 (by rfl) mT kT bT .nil pass0 (pa_cons (pv 0) (pa_cons pe_int pa_nil)))) pa_nil)) (pg_name (i := 4) scName.nd rfl (Or.inl rfl)) (pss_one (ps_set (i := 3) scName.nd rfl (Or.inl rfl) (pe_op op_add_str (pv 3) (pe_ix ix_str (pv 2) (pe_call GT hr1 (by rfl) mT kT bT .nil pass0 (pa_cons (pv 0) (pa_cons pe_int pa_nil))) (fun _ _ => rfl))))))
        (pss_cons (ps_if (pt_cmpR op_in_seq (pv 3) (pv 1) (by rfl)) (pss_one (ps_set (i := 3) scName.nd rfl (Or.inl rfl) (pe_op op_add_str (pv 3) (pe_callTy call_str_int (by rfl) T.str (by decide +kernel) (pa_cons (pe_callB call_len_seq (by rfl) T.len PySem.boot_len (pa_cons (pv 1) pa_nil)) pa_nil))))) pss_nil)
        (pss_one (ps_ret (pv 3))))))), ?_⟩
    refine ⟨_, rfl, b, L, 3, rfl, hb, hok, by decide, by decide, fun L1 r ok1 r0 r1 => ⟨_, _, rfl, rfl, _, rfl, by omega, by omega, for_range (n := (1 + r).toNat) (lo := 0)
      (fun i σ H' => ∃ (z : Str) (x : Option V) (L2 : List Int), σ = [some (.ref b), some (.ref u), some (.str LT), some (.str z), x] ∧ H' = upd H b (.lst (L2.map V.int)) ∧ BagOk L2 ∧ z.cps.toList.length = i ∧ ∀ c ∈ z.cps.toList, isLet c)
      ⟨_, none, L1, rfl, rfl, ok1, by decide +kernel, fun c hc => absurd hc (by rw [nil_codes]; exact List.not_mem_nil)⟩ ?_ ?_⟩⟩
    · rintro i σ H2 hi ⟨z, x, L2, rfl, rfl, ok2, hz, hzc⟩
      refine ⟨_, rfl, _, rfl, _, rfl, b, L2, 26, rfl, upd_same, ok2, by decide, by decide, fun L3 q ok3 q0 q1 => ?_⟩
      have hq3 : q.toNat < LT.cps.toList.length := by rw [lt_len]; omega
      refine ⟨LT, q, LT.cps.toList[q.toNat], rfl, rfl, by decide +kernel, ?_, ?_⟩
      · have e := atI_nat (xs := LT.cps.toList) (j := q.toNat) (List.getElem?_eq_getElem hq3)
        rw [Int.toNat_of_nonneg q0] at e
        exact e
      · have ez : z.length = i := hz
        refine ⟨z, _, rfl, rfl, ?_, ?_⟩
        · rw [ez]
          exact Nat.le_of_lt (small1000 (by show i + 1 ≤ 1000; omega))
        · refine ⟨_, _, L3, rfl, upd_upd, ok3, ?_, ?_⟩
          · rw [cat_codes, List.length_append, hz]
            rfl
          · intro c hc
            rw [cat_codes] at hc
            rcases List.mem_append.mp hc with h | h
            · exact hzc c h
            · obtain rfl : c = LT.cps.toList[q.toNat] := by simpa using h
              exact lt_facts _ (List.getElem_mem hq3)
    · rintro σ H2 ⟨z, x, L2, rfl, rfl, ok2, hz, hzc⟩
      have zl : z.length = (1 + r).toNat := hz
      have hne : z.cps.toList ≠ [] := by
        intro e
        rw [e] at hz
        simp at hz
        omega
      have at0 : NameAt zs.length z := ⟨z.cps.toList, hne, by omega, hzc, .inl rfl⟩
      refine ⟨_, rfl, _, rfl, u, _, rfl, .inl (SqL.of (by rw [upd_ne hub]; exact hu)), rfl, flat_strs zs, _, rfl, ?_⟩
      show if (inV (.str z) (zs.map V.str)) = true then _ else _
      rw [inV_str]
      by_cases hm : z ∈ zs
      · rw [decide_eq_true hm]
        refine iteT ⟨_, rfl, _, rfl, u, _, rfl, .inl (SqL.of (by rw [upd_ne hub]; exact hu)), _, rfl, ?_, z, _, rfl, rfl, ?_, _, rfl, ?_⟩
        · rw [List.length_map]
          have : ((zs.length : Nat) : Int).natAbs = zs.length := by simp
          rw [this]
          exact Nat.lt_of_le_of_lt (Nat.log2_le_self _) (by omega)
        · have d := (dg_facts zs.length (by omega)).2.1
          have e : (Str.ofString (toString ((((zs.map V.str).length : Nat) : Int)))).length = (dg zs.length).length := by
            rw [List.length_map]
            simp [dg, Str.length]
          show z.length + (Str.ofString (toString ((((zs.map V.str).length : Nat) : Int)))).length ≤ sizeLine
          rw [e, zl]
          exact Nat.le_of_lt (small1000 (by omega))
        · have ez : (z ++ (Str.ofString (toString ((((zs.map V.str).length : Nat) : Int))))).cps.toList = z.cps.toList ++ dg zs.length := by
            rw [cat_codes, List.length_map]
            rfl
          exact k L2 _ ok2 ⟨z.cps.toList, hne, by omega, hzc, .inr ez⟩ (fresh_tail ok hlen hzc ez)
      · rw [decide_eq_false hm]
        exact iteF ⟨_, rfl, k L2 z ok2 at0 hm⟩
theorem scNames : FnScope ["_law_bag_here", "_law_count", "_law_names_here", "_law_k"] ["_law_bag_here", "_law_count"] (defScope sLawNames) := ⟨rfl, rfl, rfl, by decide +kernel, rfl, by decide +kernel, by decide +kernel⟩
theorem ok_names {f : Addr} {fd : FuncData} (F : Fun K "_law_names" "_law_names" sLawNames f fd) (T : TxtM mg) (gN : Dfn P w K mg base CX0 2 "_law_name" ["_law_bag_here", "_law_used"] spName) :
    FnOk P w K mg base CX0 3 f fd ["_law_bag_here", "_law_count"] spNames := by
  obtain ⟨fNm, dNm, mNm, kNm, bNm, GNm⟩ := gN
  refine F.ok scNames (fun vs H Q E h => ?_) (fun cdv A outer s H vs Q E hr h => ?_)
  · obtain ⟨a, L, n, rfl, _⟩ := h
    rfl
  · obtain ⟨b, L, n, rfl, hb, hok, hn0, hn1, k⟩ := h
    have hr2 : Room 2 _ := hr
    refine ⟨_, (pss_cons (ps_set (i := 2) scNames.nd rfl (Or.inl rfl) (pe_lst pa_nil))
        (pss_cons (ps_for PassesOwn.never rfl (pi_range1 (by rfl) T.range (pa_cons (pv 1) pa_nil)) (pg_name (i := 3) scNames.nd rfl (Or.inl rfl)) (pss_one (ps_expr (pe_bm PySem.F.plainAttrs_list PySem.F.slot_list_append PySem.F.type_list_append mt_append (pv 2) (pa_cons (pe_call GNm hr2 (by rfl) mNm kNm bNm .nil pass0 (pa_cons (pv 0) (pa_cons (pv 2) pa_nil))) pa_nil)))))
        (pss_one (ps_ret (pv 2))))), ?_⟩
    refine ⟨Nat.zero_le _, fun u hu => ?_⟩
    have nub : u ≠ b := fun e => by rw [e, hb] at hu; cases hu
    refine ⟨_, rfl, _, rfl, by omega, by omega, for_range (n := n.toNat) (lo := 0)
      (fun i σ H' => ∃ (zs : List Str) (x : Option V) (L2 : List Int), σ = [some (.ref b), some (.int n), some (.ref u), x] ∧ SameB b H H' ∧ H' b = some (.lst (L2.map V.int)) ∧ BagOk L2 ∧ H' u = some (.lst (zs.map V.str)) ∧ NamesOk zs ∧ zs.length = i)
      ⟨[], none, L, rfl, SameB.of (Same.upd_new hu), by rw [upd_ne nub.symm]; exact hb, hok, upd_same, ⟨fun i z h => by simp at h, by simp, by simp⟩, rfl⟩ ?_ ?_⟩
    · rintro i σ H2 hi ⟨zs, x, L2, rfl, s2, hb2, ok2, hu2, okz, hz⟩
      refine ⟨_, rfl, .inl ⟨rfl, _, SqL.of hu2⟩, _, rfl, _, rfl, b, u, L2, zs, rfl, hb2, ok2, nub, hu2, okz, by omega, fun L3 z ok3 hat hnz => ?_⟩
      refine ⟨u, _, _, rfl, rfl, by rw [upd_ne nub]; exact hu2, ?_, ?_⟩
      · rw [List.length_map]
        exact small1000 (by omega)
      · refine ⟨zs ++ [z], _, L3, rfl, fun c o n h => ?_, ?_, ok3, ?_, ⟨fun j y h => ?_, ?_, ?_⟩, ?_⟩
        · have ncu : c ≠ u := ne_of_none h hu
          rw [upd_ne ncu, upd_ne n]
          exact s2 c o n h
        · rw [upd_ne nub.symm, upd_same]
        · rw [upd_same, List.map_append]
          rfl
        · by_cases hj : j < zs.length
          · rw [List.getElem?_append_left hj] at h
            exact okz.at_ j y h
          · rw [List.getElem?_append_right (by omega)] at h
            have hj0 : j - zs.length = 0 := by
              have := (List.getElem?_eq_some_iff.mp h).1
              simp at this
              omega
            rw [hj0] at h
            obtain rfl : z = y := by simpa using h
            have : j = zs.length := by omega
            rw [this]
            exact hat
        · rw [List.nodup_append]
          refine ⟨okz.nd, by simp, fun a ha c hc => ?_⟩
          obtain rfl := List.mem_singleton.mp hc
          exact fun e => hnz (e ▸ ha)
        · rw [List.length_append]
          simp
          omega
        · rw [List.length_append, hz]
          rfl
    · rintro σ H2 ⟨zs, x, L2, rfl, s2, hb2, ok2, hu2, okz, hz⟩
      exact ⟨_, rfl, k H2 u L2 zs s2 hu hu2 hb2 ok2 okz hz⟩
end
end Dl

namespace Dl
open PySem PySem.Spec PyProof.Rows L2
/-! ### texts: what is a valid name -/
theorem len_pos {z : Str} (h : ¬ z = ("" : Str)) : 1 ≤ z.length := by
  have e0 : ("" : Str) = ⟨#[]⟩ := by decide +kernel
  cases z with
  | mk cps =>
    by_cases q : cps.size = 0
    · exfalso
      apply h
      rw [e0, Array.eq_empty_of_size_eq_zero q]
    · show 1 ≤ cps.size
      omega
theorem valid_of {z : Str} (h1 : 1 ≤ z.length) (h : ∀ c ∈ z.cps.toList, c ∈ SG.cps.toList) : validN z = decide (z.length ≤ 12) := by
  unfold validN
  rw [decide_eq_true h1, List.all_eq_true.mpr fun c hc => decide_eq_true (h c hc)]
  simp
theorem invalid_of {z : Str} {c : Nat} (hc : c ∈ z.cps.toList) (h : c ∉ SG.cps.toList) : validN z = false := by
  unfold validN
  have q : (z.cps.toList.all fun c => decide (c ∈ SG.cps.toList)) = false := by
    rw [List.all_eq_false]
    exact ⟨c, hc, by simpa using h⟩
  rw [q]
  simp
end Dl

namespace Dl
open PySem PySem.Spec PyProof.Rows L2
/-! ### names and texts as data -/
def canS (z : Str) : Prop := PyData.canLay0 (.str z) = true
theorem can_of {z : Str} (h : ∀ c ∈ z.cps.toList, c < 1114112) : canS z := by
  unfold canS PyData.canLay0 PyData.strOk
  rw [Array.all_eq_true]
  intro i hi
  exact decide_eq_true (h _ (by simp))
/-- a value that is passed as a name, as data -/
def NmD (H : Hp) : V → Prop
  | .str z => canS z ∧ z.length ≤ 1000
  | .int _ => True
  | .non => True
  | .ref p => ∃ zs : List Str, H p = some (.lst (zs.map V.str)) ∧ ∀ z ∈ zs, canS z
  | _ => False
theorem NmD.ok {H : Hp} {v : V} (h : NmD H v) : NmOk H v := by
  cases v with
  | str z => exact Nat.le_of_lt (small1000 h.2)
  | int i => trivial
  | non => trivial
  | ref p => obtain ⟨zs, e, _⟩ := h; exact ⟨_, e⟩
  | bl _ => exact h.elim
  | byt _ => exact h.elim
  | flt _ => exact h.elim
  | ty _ => exact h.elim
theorem NmD.of {H H' : Hp} {v : V} (s : Same H H') (h : NmD H v) : NmD H' v := by
  cases v with
  | str z => exact h
  | int i => trivial
  | non => trivial
  | ref p => obtain ⟨zs, e, q⟩ := h; exact ⟨zs, s _ _ e, q⟩
  | bl _ => exact h.elim
  | byt _ => exact h.elim
  | flt _ => exact h.elim
  | ty _ => exact h.elim
theorem any_str (es : List Str) (y : Str) : (es.map PyData.str).any (fun z => PyData.eqv z (.str y)) = decide (y ∈ es) := by
  rw [List.any_map]
  induction es with
  | nil => simp
  | cons a r ih =>
    rw [List.any_cons, ih]
    show (PyData.eqv (.str a) (.str y) || decide (y ∈ r)) = _
    rw [PyData.eqv]
    by_cases h : a = y
    · subst h; simp
    · have h2 : ¬ y = a := fun q => h q.symm
      simp [h, h2]
theorem any_no (es : List Str) {d : PyData} (h : ∀ z : Str, PyData.eqv (.str z) d = false) : (es.map PyData.str).any (fun z => PyData.eqv z d) = false := by
  rw [List.any_map, List.any_eq_false]
  intro z _
  show ¬ PyData.eqv (.str z) d = true
  rw [h z]
  decide
/-- the data of a name -/
theorem NmD.dat (K : PySem.W.Frag) {H : Hp} {v : V} (h : NmD H v) : ∃ d, Dp K H v d ∧ PyData.canLay0 d = true ∧ d.depth ≤ 1 ∧ ∀ es : List Str, (es.map PyData.str).any (fun z => PyData.eqv z d) = knows v es := by
  cases v with
  | str z => exact ⟨.str z, .str z, h.1, by simp [PyData.depth], fun es => any_str es z⟩
  | int i => exact ⟨.int i, .int i, by simp [PyData.canLay0], by simp [PyData.depth], fun es => any_no es fun z => by rw [PyData.eqv]⟩
  | non => exact ⟨.none, .non, by simp [PyData.canLay0], by simp [PyData.depth], fun es => any_no es fun z => by rw [PyData.eqv]⟩
  | ref p =>
    obtain ⟨zs, e, q⟩ := h
    refine ⟨.list (zs.map PyData.str), .lst (SqL.of e) (dpAll_strs zs), ?_, ?_, fun es => any_no es fun z => by rw [PyData.eqv]⟩
    · rw [PyData.canLay0]; exact canAll_strs q
    · rw [PyData.depth, depthAll_strs]; decide
  | bl _ => exact h.elim
  | byt _ => exact h.elim
  | flt _ => exact h.elim
  | ty _ => exact h.elim
theorem shaped_of {d : PyData} (h : PyData.canLay0 d = true) (h2 : d.depth ≤ 1) : SeqAt.shaped d = true := by
  unfold SeqAt.shaped
  rw [h, Bool.true_and]
  exact decide_eq_true (by omega)
theorem room65 {k : Nat} {A : Around} (r : Room k A) : A.units + 65 < cLine := by
  have := r.un
  omega
theorem valid_can {z : Str} (h : validN z = true) : canS z := can_of (valid_small h).2
end Dl

namespace Dl
open PySem L2
/-! ### a table of good names is made -/
theorem chosen_sub {sh ls : List Str} (h : sh.Sublist ls) (nd : ls.Nodup) : chosen ls sh = sh := by
  unfold chosen
  induction h with
  | slnil => rfl
  | @cons sh ls a h ih =>
    rw [List.nodup_cons] at nd
    have na : ¬ a ∈ sh := fun m => nd.1 (h.subset m)
    rw [List.filter_cons_of_neg (by simpa using na)]
    exact ih nd.2
  | @cons_cons sh ls a h ih =>
    rw [List.nodup_cons] at nd
    rw [List.filter_cons_of_pos (by simp)]
    congr 1
    rw [← ih nd.2]
    apply List.filter_congr
    intro z hz
    have nz : z ≠ a := fun e => nd.1 (e ▸ hz)
    rw [ih nd.2]
    simp [nz]
theorem names_ok' : ∀ {zs acc : List Str}, zs.Nodup → (∀ z ∈ zs, validN z = true ∧ z ∉ acc) → chkNames (zs.map V.str) acc = .ok (acc ++ zs)
  | [], acc, _, _ => by simp [chkNames]
  | z :: r, acc, nd, h => by
    rw [List.nodup_cons] at nd
    have hz := h z (List.mem_cons_self ..)
    have e : chkNew (.str z) acc = none := by simp [chkNew, hz.1, hz.2]
    rw [List.map_cons, chkNames, e]
    show chkNames (r.map V.str) (acc ++ [z]) = _
    rw [names_ok' nd.2 fun y hy => ⟨(h y (List.mem_cons_of_mem _ hy)).1, fun m => by
      rcases List.mem_append.mp m with m | m
      · exact (h y (List.mem_cons_of_mem _ hy)).2 m
      · obtain rfl := List.mem_singleton.mp m
        exact nd.1 hy⟩]
    simp
theorem names_ok {zs : List Str} (nd : zs.Nodup) (h : ∀ z ∈ zs, validN z = true) : chkNames (zs.map V.str) [] = .ok zs := by
  rw [names_ok' nd fun z hz => ⟨h z hz, by simp⟩]
  simp
theorem shown_ok' : ∀ {zs ls prev : List Str}, zs.Nodup → (∀ z ∈ zs, z ∈ ls ∧ z ∉ prev) → chkShown (zs.map V.str) ls prev = none
  | [], _, _, _, _ => by simp [chkShown]
  | z :: r, ls, prev, nd, h => by
    rw [List.nodup_cons] at nd
    have hz := h z (List.mem_cons_self ..)
    rw [List.map_cons, chkShown, if_pos (show knows (.str z) ls = true by simp [knows, hz.1]), if_neg (show ¬ strOf (.str z) ∈ prev from hz.2)]
    refine shown_ok' nd.2 fun y hy => ⟨(h y (List.mem_cons_of_mem _ hy)).1, fun m => ?_⟩
    rcases List.mem_append.mp m with m | m
    · exact (h y (List.mem_cons_of_mem _ hy)).2 m
    · have e : y = z := List.mem_singleton.mp m
      exact nd.1 (e ▸ hy)
theorem rows_ok' {ls : List Str} (lnd : ls.Nodup) : ∀ {xs acc : List (Str × List Str)}, (xs.map (·.1)).Nodup → (∀ x ∈ xs, validN x.1 = true ∧ x.2.Sublist ls ∧ x.1 ∉ acc.map (·.1)) → initRows ls (xs.map fun x => (V.str x.1, x.2.map V.str)) acc = .ok (acc ++ xs)
  | [], acc, _, _ => by simp [initRows]
  | x :: r, acc, nd, h => by
    rw [List.map_cons, List.nodup_cons] at nd
    obtain ⟨h1, h2, h3⟩ := h x (List.mem_cons_self ..)
    have e : chkNew (.str x.1) (acc.map (·.1)) = none := by simp only [chkNew, h1, if_true]; rw [if_neg h3]
    have e2 : chkShown (x.2.map V.str) ls [] = none := shown_ok' (h2.nodup lnd) fun z hz => ⟨h2.subset hz, by simp⟩
    have e3 : (x.2.map V.str).map strOf = x.2 := by rw [List.map_map]; exact List.map_id _
    rw [List.map_cons, initRows, e, e2]
    show initRows ls _ (acc ++ [(x.1, chosen ls ((x.2.map V.str).map strOf))]) = _
    rw [e3, chosen_sub h2 lnd, rows_ok' lnd nd.2 fun y hy => ⟨(h y (List.mem_cons_of_mem _ hy)).1, (h y (List.mem_cons_of_mem _ hy)).2.1, fun m => by
      rw [List.map_append] at m
      rcases List.mem_append.mp m with m | m
      · exact (h y (List.mem_cons_of_mem _ hy)).2.2 m
      · have q : y.1 = x.1 := by simpa using m
        exact nd.1 (by rw [← q]; exact List.mem_map.mpr ⟨y, hy, rfl⟩)⟩]
    simp
theorem init_ok {ls : List Str} {rs : List (Str × List Str)} (ok : TabOk ls rs) : initT (ls.map V.str) (rs.map rdat) = .ok (ls, rs) := by
  unfold initT
  rw [if_neg (by rw [List.length_map, List.length_map]; have := ok.lfew; have := ok.kfew; omega), names_ok ok.lnd ok.lval]
  have e : initRows ls (rs.map rdat) [] = .ok rs := by
    have q := rows_ok' ok.lnd (xs := rs) (acc := []) ok.knd fun x hx => ⟨ok.kval x hx, ok.sub x hx, by simp⟩
    rw [List.nil_append] at q
    exact q
  simp only [e]
end Dl

namespace Dl
open PySem PySem.Spec PyProof.Rows L2
theorem TabOk.lampsNm {ls : List Str} {rs : List (Str × List Str)} (ok : TabOk ls rs) {H : Hp} : ∀ v ∈ ls.map V.str, NmOk H v := fun v hv => by
  obtain ⟨z, hz, rfl⟩ := List.mem_map.mp hv
  have h := ok.lval z hz
  unfold validN at h
  simp only [Bool.and_eq_true, decide_eq_true_eq] at h
  exact Nat.le_of_lt (small1000 (by have := h.2.1; omega))
theorem validN_nm {z : Str} (h : validN z = true) {H : Hp} : NmOk H (.str z) := by
  unfold validN at h
  simp only [Bool.and_eq_true, decide_eq_true_eq] at h
  exact Nat.le_of_lt (small1000 (by have := h.2.1; omega))
theorem TableAt.of {CT : Addr} {H H' : Hp} {p : Addr} {ls : List Str} {rs : List (Str × List Str)} (s : Same H H') (h : TableAt CT H p ls rs) : TableAt CT H' p ls rs := by
  obtain ⟨dx, lt, sd, kt, kvs, hp, hlt, hsd, hkt, hrs⟩ := h
  exact ⟨dx, lt, sd, kt, kvs, s _ _ hp, s _ _ hlt, s _ _ hsd, s _ _ hkt, hrs.of fun b ys e => s _ _ e⟩
theorem strs_back (zs : List Str) : (zs.map V.str).map strOf = zs := by rw [List.map_map]; exact List.map_id _
theorem strs_nm {zs : List Str} (h : ∀ z ∈ zs, validN z = true) {H : Hp} : ∀ v ∈ zs.map V.str, NmOk H v := fun v hv => by
  obtain ⟨z, hz, rfl⟩ := List.mem_map.mp hv
  exact validN_nm (h z hz)
end Dl

namespace Dl
open PySem PySem.Spec PyProof.Rows L2
def goneOf (ls zs : List Str) : List Str := ls.filter fun z => !decide (z ∈ zs)
def lessOf (rs : List (Str × List Str)) (ls' : List Str) : List (Str × List Str) := rs.map fun x => (x.1, chosen x.2 ls')
def onlyOf (rs : List (Str × List Str)) (ks : List Str) : List (Str × List Str) := rs.filter fun x => decide (x.1 ∈ ks)
def unkOf (xs : List V) (es : List Str) : Option V := xs.find? fun v => !knows v es
theorem only_step {rs : List (Str × List Str)} {ys : List Str} {i : Nat} (h : i < rs.length) : onlyOf (rs.take (i + 1)) ys = onlyOf (rs.take i) ys ++ (if decide (rs[i].1 ∈ ys) = true then [rs[i]] else []) := by
  unfold onlyOf
  rw [List.take_succ, List.getElem?_eq_getElem h, List.filter_append]
  congr 1
  by_cases hm : rs[i].1 ∈ ys <;> simp [hm]
theorem unk_strs {xs : List V} {es : List Str} (h : unkOf xs es = none) : xs = (xs.map strOf).map V.str := by
  unfold unkOf at h
  rw [List.find?_eq_none] at h
  induction xs with
  | nil => rfl
  | cons v r ih =>
    have hv : knows v es = true := by simpa using h v (List.mem_cons_self ..)
    obtain ⟨z, rfl, _⟩ := knows_str hv
    rw [List.map_cons, List.map_cons, ← ih fun y hy => h y (List.mem_cons_of_mem _ hy)]
    rfl
theorem chosen_is_sub (a b : List Str) : (chosen a b).Sublist a := List.filter_sublist
theorem TabOk.less {ls : List Str} {rs : List (Str × List Str)} (ok : TabOk ls rs) (zs : List Str) : TabOk (goneOf ls zs) (lessOf rs (goneOf ls zs)) := by
  have sl : (goneOf ls zs).Sublist ls := List.filter_sublist
  have keys : (lessOf rs (goneOf ls zs)).map (·.1) = rs.map (·.1) := by unfold lessOf; rw [List.map_map]; rfl
  refine ⟨sl.nodup ok.lnd, fun z hz => ok.lval z (sl.subset hz), Nat.le_trans sl.length_le ok.lfew, by rw [keys]; exact ok.knd, fun x hx => ?_, by unfold lessOf; rw [List.length_map]; exact ok.kfew, fun x hx => ?_⟩
  · obtain ⟨y, hy, rfl⟩ := List.mem_map.mp hx
    exact ok.kval y hy
  · obtain ⟨y, hy, rfl⟩ := List.mem_map.mp hx
    have e : chosen y.2 (goneOf ls zs) = y.2.filter fun z => !decide (z ∈ zs) := by
      unfold chosen goneOf
      apply List.filter_congr
      intro z hz
      have m := (ok.sub y hy).subset hz
      simp [m]
    show (chosen y.2 (goneOf ls zs)).Sublist (goneOf ls zs)
    rw [e]
    exact (ok.sub y hy).filter _
theorem TabOk.only {ls : List Str} {rs : List (Str × List Str)} (ok : TabOk ls rs) (ks : List Str) : TabOk ls (onlyOf rs ks) := by
  have sr : (onlyOf rs ks).Sublist rs := List.filter_sublist
  exact ⟨ok.lnd, ok.lval, ok.lfew, (sr.map _).nodup ok.knd, fun x hx => ok.kval x (sr.subset hx), Nat.le_trans sr.length_le ok.kfew, fun x hx => ok.sub x (sr.subset hx)⟩
theorem RowT.e {K : PySem.W.Frag} {H : Hp} {r : RowIn} (h : RowT H r) {x : Str × List Str} (e : r.dat = rdat x) {ls : List Str} {rs : List (Str × List Str)} (ok : TabOk ls rs) (hx : x ∈ rs) : RowE K H r := by
  have e1 : r.look = .str x.1 := congrArg Prod.fst e
  have e2 : r.xs = x.2.map V.str := congrArg Prod.snd e
  refine ⟨SqT.of h.pair, by rw [e1]; exact validN_nm (ok.kval x hx), .inr (SqT.of h.tup), fun v hv => ?_, ?_⟩
  · rw [e2] at hv
    obtain ⟨z, hz, rfl⟩ := List.mem_map.mp hv
    exact validN_nm (ok.lval z ((ok.sub x hx).subset hz))
  · rw [e2, List.length_map]
    have := (ok.sub x hx).length_le
    have := ok.lfew
    omega
theorem rowsT_e {K : PySem.W.Frag} {H : Hp} {rows : List RowIn} {rs : List (Str × List Str)} {ls : List Str} (ok : TabOk ls rs) (h : ∀ r ∈ rows, RowT H r) (e : rows.map RowIn.dat = rs.map rdat) : ∀ r ∈ rows, RowE K H r := fun r hr => by
  have m : r.dat ∈ rs.map rdat := by rw [← e]; exact List.mem_map_of_mem hr
  obtain ⟨x, hx, ex⟩ := List.mem_map.mp m
  exact (h r hr).e ex.symm ok hx
/-- what a call on a table wants of the table that is made, or of the first unknown name -/
def spWithout (K : PySem.W.Frag) (CT : Addr) (C : Cs) : Sp := fun vs H Q E => ∃ (p q : Addr) (ls : List Str) (rs : List (Str × List Str)) (xs : List V), vs = [.ref p, .ref q] ∧ TableAt CT H p ls rs ∧ TabOk ls rs ∧ H q = some (.tup xs) ∧ (∀ v ∈ xs, NmOk H v) ∧
  (unkOf xs ls = none → ∀ H' x, Same H H' → H x = none → TableAt CT H' x (goneOf ls (xs.map strOf)) (lessOf rs (goneOf ls (xs.map strOf))) → Q (.ref x) H') ∧ ∀ v, unkOf xs ls = some v → Out1 C.unk "name" v H E
def spOnly (K : PySem.W.Frag) (CT : Addr) (C : Cs) : Sp := fun vs H Q E => ∃ (p q : Addr) (ls : List Str) (rs : List (Str × List Str)) (xs : List V), vs = [.ref p, .ref q] ∧ TableAt CT H p ls rs ∧ TabOk ls rs ∧ H q = some (.tup xs) ∧ (∀ v ∈ xs, NmOk H v) ∧
  (unkOf xs (rs.map (·.1)) = none → ∀ H' x, Same H H' → H x = none → TableAt CT H' x ls (onlyOf rs (xs.map strOf)) → Q (.ref x) H') ∧ ∀ v, unkOf xs (rs.map (·.1)) = some v → Out1 C.unk "name" v H E
def spWithLook (K : PySem.W.Frag) (CT : Addr) (C : Cs) : Sp := fun vs H Q E => ∃ (p q : Addr) (ls : List Str) (rs : List (Str × List Str)) (nm : V) (xs : List V), vs = [.ref p, nm, .ref q] ∧ TableAt CT H p ls rs ∧ TabOk ls rs ∧ NmOk H nm ∧ H q = some (.tup xs) ∧ (∀ v ∈ xs, NmOk H v) ∧ xs.length ≤ 1000 ∧
  (∀ ls' rs', initT (ls.map V.str) (rs.map rdat ++ [(nm, xs)]) = .ok (ls', rs') → ∀ H' x, Same H H' → H x = none → TableAt CT H' x ls' rs' → Q (.ref x) H') ∧ ∀ e, initT (ls.map V.str) (rs.map rdat ++ [(nm, xs)]) = .error e → Out C H E e
/-- a def with a star parameter, called with these values -/
def starSp (n : Nat) (sp : Sp) : Sp := fun vs H Q E => ∃ ws rest, vs = ws ++ rest ∧ ws.length = n ∧ rest.length ≤ sizeLine ∧ ∀ p, H p = Option.none → sp (ws ++ [V.ref p]) (upd H p (.tup rest)) Q E
structure TabM (P : Program) (w : World) (K : PySem.W.Frag) (mg : Str → Option Value) (base : Heap) (CT : Addr) (C : Cs) : Prop where
  cl : Cls K CT
  nL : NoAttr K CT "lamps"
  nK : NoAttr K CT "looks"
  nS : NoAttr K CT "_shown"
  gT : mg "Table" = some (.ref CT)
  init : ∃ fT fdT, Mk K CT fT ∧ Binds K fdT ["self", "lamps", "looks"] [] ∧ FnOk P w K mg base (L2.CX P w) 8 fT fdT ["self", "lamps", "looks"] (spTabInit2 K CT C)
  rows : ∃ fR fdR, Meth K CT "rows" fR ∧ Binds K fdR ["self"] [] ∧ FnOk P w K mg base CX0 1 fR fdR ["self"] (spTRows K CT)
section
variable {P : Program} {w : World} {K : PySem.W.Frag} {mg : Str → Option Value} {base : Heap} {C : Cs} {CT : Addr}
theorem rows_ne : ¬ (("rows" : Str) = "lamps") ∧ ¬ (("rows" : Str) = "_shown") ∧ ¬ (("rows" : Str) = "looks") := by decide +kernel
theorem scTWithLook : FnScope ["self", "name", "lamps"] ["self", "name", "lamps"] (defScope sTableWithLook) := ⟨rfl, rfl, rfl, by decide +kernel, rfl, by decide +kernel, by decide +kernel⟩
theorem ok_withlook {f : Addr} {fd : FuncData} (F : Fun K "with_look" "Table.with_look" sTableWithLook f fd) (T : TabM P w K mg base CT C) : FnR P w K mg base (L2.CX P w) 10 f (starSp 2 (spWithLook K CT C)) := by
  obtain ⟨oc, od, kV, doc, pm, an, cdv, ct, osl, rfl, lk, hcd⟩ := F.ex
  obtain ⟨fT, fdT, M, bT, GT⟩ := T.init
  obtain ⟨fR, fdR, mR, bR, GR⟩ := T.rows
  refine StX.fn_star (k := 9) (ps := ["self", "name"]) (pv := "lamps") lk hcd scTWithLook StX.cxUp (StX.bind_star2 (B := fun us => bindArgs _ ⟨us, []⟩) (fun _ _ => by rfl) (fun _ _ _ _ => by rfl)) (fun A outer s H vs Q E hr h => ?_)
  obtain ⟨p, q, ls, rs, nm, xs, rfl, hT, ok, hnm, hq, hx, hlen, k, kx⟩ := h
  have hr1 : Room 1 _ := hr.mono (by decide)
  refine ⟨_, (pss_one (ps_ret (pe_make M GT hr (by rfl) T.gT bT .nil (passes_call (takes_of rfl rfl rfl rfl) (fun _ _ _ _ h => h)) (pa_cons (pe_fld (pv 0) rfl) (pa_cons (pe_op op_cat (pe_meth0 (pv 0) T.cl mR GR hr1 bR .nil pass0) (pe_lst (pa_cons (pe_tup (pa_cons (pv 1) (pa_cons (pv 2) pa_nil))) pa_nil))) pa_nil))))), ?_⟩
  have hT2 := hT
  obtain ⟨dx, lt, sd, kt, kvs, hp, hlt, hsd, hkt, hrs⟩ := hT2
  refine ⟨_, rfl, p, CT, dx, _, _, rfl, hp, T.cl, T.nL, pf3_lamps _ _ _, ?_⟩
  refine ⟨_, rfl, p, dx, _, rfl, hp, pf3_no _ _ _ rows_ne.1 rows_ne.2.1 rows_ne.2.2, p, ls, rs, rfl, hT, ok, fun H1 l rows s1 hl hl1 hrt hdat => ?_⟩
  have hrl : rows.length ≤ 24 := by
    have e := congrArg List.length hdat
    rw [List.length_map, List.length_map] at e
    have := ok.kfew
    omega
  refine ⟨_, rfl, _, rfl, by show 2 ≤ sizeLine; decide, fun t ht => ?_⟩
  have s2 : Same H1 (upd H1 t (.tup [nm, .ref q])) := Same.upd_new ht
  refine ⟨by show 1 ≤ sizeLine; decide, fun l2 hl2 => ?_⟩
  have s3 := Same.upd_new hl2 (o := .lst [.ref t])
  refine ⟨l, l2, _, _, rfl, rfl, s3 _ _ (s2 _ _ hl1), upd_same, Nat.le_of_lt (small1000 (by rw [List.length_map]; simp; omega)), fun l3 hl3 => ?_⟩
  have s4 := Same.upd_new hl3 (o := .lst ((rows.map fun r => V.ref r.t) ++ [.ref t]))
  have ht4 := (s3.trans s4) _ _ (upd_same (H := H1) (a := t) (o := .tup [nm, .ref q]))
  have hl34 : upd (upd (upd H1 t (.tup [nm, .ref q])) l2 (.lst [.ref t])) l3 (.lst ((rows.map fun r => V.ref r.t) ++ [.ref t])) l3 = some (.lst ((rows.map fun r => V.ref r.t) ++ [.ref t])) := upd_same
  have s14 := s2.trans (s3.trans s4)
  have s04 := s1.trans s14
  generalize upd (upd (upd H1 t (.tup [nm, .ref q])) l2 (.lst [.ref t])) l3 (.lst ((rows.map fun r => V.ref r.t) ++ [.ref t])) = H4 at *
  refine fun x dx' nx ndx nex => ?_
  have sm : Same H4 (upd (upd H4 dx' (.own x)) x (.ins CT dx' [])) := fun c o e => by
    rw [upd_ne (ne_of_none e nx), upd_ne (ne_of_none e ndx)]; exact e
  have edat : (rows ++ [(⟨t, nm, q, xs⟩ : RowIn)]).map RowIn.dat = rs.map rdat ++ [(nm, xs)] := by
    rw [List.map_append, hdat]
    rfl
  refine ⟨H4, x, dx', lt, l3, ls.map V.str, rows ++ [⟨t, nm, q, xs⟩], rfl, sm, nx, upd_same, .inr (SqT.of (s04 _ _ hlt)), ok.lampsNm, ?_, .inl ?_, fun r hr => ?_, ?_, fun ls' rs' e H' s' tab => ⟨rfl, ?_⟩, fun e he => ?_⟩
  · rw [List.length_map]
    have := ok.lfew
    omega
  · refine SqL.of ?_
    rw [List.map_append]
    exact hl34
  · rcases List.mem_append.mp hr with h | h
    · exact (rowsT_e ok hrt hdat r h).of s14
    · obtain rfl := List.mem_singleton.mp h
      exact ⟨SqT.of ht4, hnm.of s04, .inr (SqT.of (s04 _ _ hq)), fun v hv => (hx v hv).of s04, hlen⟩
  · rw [List.length_append]
    simp
    omega
  · rw [edat] at e
    exact k ls' rs' e H' x (s04.trans s') (s04.free nx) tab
  · rw [edat] at he
    exact Out.of s04 (kx e he)
end
end Dl

namespace Dl
open PySem PySem.Spec PyProof.Rows L2
/-! ### one more look -/
def LN : Str := "longername12"
theorem ln_valid : validN LN = true := by decide +kernel
theorem ln_len : LN.cps.toList.length = 12 := by decide +kernel
theorem rowsApp {ls : List Str} : ∀ {xs ys : List (V × List V)} {acc acc' : List (Str × List Str)}, initRows ls xs acc = .ok acc' → initRows ls (xs ++ ys) acc = initRows ls ys acc'
  | [], ys, acc, acc', h => by cases h; rfl
  | (k, sh) :: r, ys, acc, acc', h => by
    rw [List.cons_append]
    unfold initRows at h
    cases e1 : chkNew k (acc.map (·.1)) with
    | some e => rw [e1] at h; cases h
    | none =>
      rw [e1] at h
      simp only at h
      cases e2 : chkShown sh ls [] with
      | some e => rw [e2] at h; cases h
      | none =>
        rw [e2] at h
        have q := rowsApp (ys := ys) h
        rw [← q]
        rw [initRows, e1, e2]
/-- the word of Table for a table's rows and one more -/
def moreT (ls : List Str) (rs : List (Str × List Str)) (nm : V) (xs : List V) : Except Er (List Str × List (Str × List Str)) :=
  if 24 < rs.length + 1 then .error .many else
  match chkNew nm (rs.map (·.1)) with
  | some e => .error e
  | none => match chkShown xs ls [] with
    | some e => .error e
    | none => .ok (ls, rs ++ [(strOf nm, chosen ls (xs.map strOf))])
theorem init_more {ls : List Str} {rs : List (Str × List Str)} (ok : TabOk ls rs) (nm : V) (xs : List V) : initT (ls.map V.str) (rs.map rdat ++ [(nm, xs)]) = moreT ls rs nm xs := by
  unfold initT moreT
  have e : initRows ls (rs.map rdat) [] = .ok rs := by
    have q := rows_ok' ok.lnd (xs := rs) (acc := []) ok.knd fun x hx => ⟨ok.kval x hx, ok.sub x hx, by simp⟩
    rw [List.nil_append] at q
    exact q
  have lf := ok.lfew
  by_cases h : 24 < rs.length + 1
  · rw [if_pos h, if_pos (by simp only [List.length_append, List.length_map, List.length_cons, List.length_nil]; omega)]
  · rw [if_neg h, if_neg (by rw [List.length_append, List.length_map, List.length_map]; simp only [List.length_cons, List.length_nil]; omega), names_ok ok.lnd ok.lval]
    simp only [rowsApp e]
    rw [initRows]
    cases chkNew nm (rs.map (·.1)) with
    | some er => rfl
    | none =>
      simp only
      cases chkShown xs ls [] with
      | some er => rfl
      | none => rfl
end Dl

/-! in a try's body: o.m(..) of a def with a star parameter, o[k] by the own __getitem__; isinstance of a caught error that has its dict -/
namespace Dl
open PySem PySem.Spec PyProof.Rows L2
section
variable {X : Cx} {CX : CXT} {k : Nat} {C f : Addr} {fd : FuncData} {ps : List Str} {sp : Sp} {E : L2.St → XK} {σ : L2.St} {pins : List (Addr × Obj)} {H : Hp} {s : Shared} {Q : VK}
theorem run_fnRS {us : List Value} {vs : List V} (F : FnR X.prog X.w X.K X.mg X.base CX k f sp) (hr : Room k X.A) (hx : PassesAt CX X σ (E σ)) (I : Inv X pins σ H s) (r : Vals vs us) (h : sp vs H Q (E σ)) :
    codeAny (model X.prog X.w) X.A (.call (.ref f) ⟨us, []⟩) (fun r s' => match r with | .ok (.ret v) => EP X pins σ Q v s' | .ok _ => False | .error e => X.xe e s') s := by
  apply codeAny_mono (F X.A X.stack s H us vs Q (E σ) hr I.env0 r h)
  intro out s2 hout
  match out, hout with
  | .error er, hout => exact hx pins H s er s2 I hout
  | .ok (.ret u), hout => exact I.after hout
def tMethRS (C : Addr) (m : Str) (sp : Sp) (E : L2.St → XK) (ta : TE) (t : TA) : TE := fun σ H Q => ta σ H fun x H1 => ∃ a dx fs, x = .ref a ∧ H1 a = some (.ins C dx fs) ∧ fs.lookup m = none ∧ t σ H1 fun vs H2 => sp (.ref a :: vs) H2 Q (E σ)
theorem pe_methRS {m : Str} {o e : Expr} {es : List Expr} {ta : TE} {t : TA} {apos pos : Pos} {pl : Sem Bool} (he : PE X o ta) (c : Cls X.K C) (hm : Meth X.K C m f)
    (F : FnR X.prog X.w X.K X.mg X.base CX k f sp) (hr : Room k X.A) (hx : ∀ σ, PassesAt CX X σ (E σ)) (ha : PA X (e :: es) t)
    (hst : starEach (e :: es) X.env = (false, eval e X.env) :: starEach es X.env := by rfl) (hpl : (backTo pos (starEach es X.env)).any (·.1) = false := by rfl)
    (ht : eval (.Call (.Attribute o m apos) (e :: es) [] pos) X.env = (do
      let ov ← eval o X.env
      standAt apos.atName
      let (f, first) ← holding [ov] (getMethod ov m pl)
      callWith pos f first (backTo pos (starEach (e :: es) X.env)) (backToKw pos (keywordEach [] X.env))) := by rfl) :
    PE X (.Call (.Attribute o m apos) (e :: es) [] pos) (tMethRS C m sp E ta t) := by
  constructor
  intro pins s σ H Q I h
  apply PySem.W.methodCall_KW (pl := pl) _ ht
  apply thn (he.run pins s σ H _ I h)
  rintro u s1 ⟨x, H1, I1, rx, a, dx, fs, rfl, ea, l, q⟩
  obtain rfl : u = Value.ref a := rx
  apply getmeth_ok I1 ea c hm l
  apply PySem.W.callWith_K (first := [.ref a]) (h₀ := X.base) I1.ok.mod.kin hm.kp _ hst hpl
  apply thn (ha.run pos pins s1 σ H1 _ I1 q)
  rintro us s2 ⟨vs, H2, I2, r, q2⟩
  exact ⟨I2.kIn, wpAny_call (run_fnRS (us := .ref a :: us) (vs := .ref a :: vs) F hr (hx σ) I2 (.cons rfl r) q2)⟩
theorem run_fnSA {A : Around} {us : List Value} {vs : List V} (hA : A.frames = X.A.frames) (F : FnOk X.prog X.w X.K X.mg X.base CX k f fd ps sp) (hr : Room k A)
    (hb : Binds X.K fd ps []) (hx : PassesAt CX X σ (E σ)) (I : Inv X pins σ H s) (r : Vals vs us) (h : sp vs H Q (E σ)) : wpAny (model X.prog X.w) A (call (.ref f) us) (EP X pins σ Q) X.xe s := by
  have e0 : Env0 X.prog X.w X.K X.mg X.base A X.stack s H := by
    have e := I.env0
    exact ⟨by rw [hA]; exact e.frames, e.mod, e.bs, e.bsz, e.funs, e.frf, e.hok, e.bare⟩
  have hl := F.len _ _ _ _ h
  have bind := hb s us I.kIn (by rw [List.append_nil, ← r.length]; exact hl)
  rw [List.append_nil] at bind
  apply wpAny_call
  apply codeAny_mono (F.run A X.stack s H ⟨us, []⟩ us vs Q (E σ) hr e0 bind r h)
  intro out s2 hout
  match out, hout with
  | .error er, hout => exact hx pins H s er s2 I hout
  | .ok (.ret u), hout => exact I.after hout
def tIxOwnS (C : Addr) (sp : Sp) (E : L2.St → XK) (ta tb : TE) : TE := fun σ H Q => ta σ H fun x H1 => tb σ H1 fun y H2 => ∃ a dx fs, x = .ref a ∧ H2 a = some (.ins C dx fs) ∧ sp [.ref a, y] H2 Q (E σ)
theorem pe_ixOwnS {a b : Expr} {ta tb : TE} {pos : Pos} (F : FnOk X.prog X.w X.K X.mg X.base CX k f fd ps sp) (hs : PySem.W.findIn X.K (.ref C) "__getitem__" = some (some (.ref f))) (hfn : PySem.W.fnIn X.K f = true) (hf : PySem.W.isFn X.K (.ref f) = true)
    (hr : Room (k + 1) X.A) (hb : Binds X.K fd ps []) (hx : ∀ σ, PassesAt CX X σ (E σ)) (ha : PE X a ta) (hb' : PE X b tb)
    (hsl : ∀ v u, subscripted b true v u = runValue (.builtin "lifetime.subscript" ⟨[v, u], []⟩) := by intros; rfl) : PE X (.Subscript a b pos) (tIxOwnS C sp E ta tb) := by
  constructor
  intro pins s σ H Q I h
  have h' : tOp (fun x y H2 Q => ∃ a dx fs, x = V.ref a ∧ H2 a = some (.ins C dx fs) ∧ sp [.ref a, y] H2 Q (E σ)) ta tb σ H Q := h
  refine Subscript_ (binT ha hb' I h' fun v u s2 x y H2 I2 rx ry q => ?_)
  obtain ⟨p, dx, fs, rfl, hp, hsp⟩ := q
  cases rx
  obtain ⟨mA, J, _⟩ := ins_get I2.hok hp
  obtain ⟨od, J, _⟩ := J.look
  obtain ⟨m, hF⟩ := I2.fr
  exact PySem.W.sub_K hF I2.ok.mod.kin J hs hfn hf (run_fnSA (A := X.A.in1) rfl F hr.in1 hb (hx σ) I2 (show Vals [V.ref p, y] [Value.ref p, u] from .cons rfl (.cons ry .nil)) hsp) (hsl _ _)
/-- what isinstance asks of an error's class -/
structure IsE (K : PySem.W.Frag) (D : Addr) : Prop where
  hc : (PySem.W.clsIn K D).isSome = true
  ga : PySem.W.findIn K (.ref D) "__getattribute__" = some (some (.builtin "BaseException.__getattribute__"))
  gg : PySem.W.findIn K (.ref D) "__getattr__" = some none
  sb : PySem.W.subIn K (.ref D) (.type "BaseException") = some true
  ha : PySem.W.findIn K (.ref D) "__class__" = some (some (.builtin "object.__class__"))
  hn : PySem.W.specialIn K (.builtin "object.__class__") "__get__" = some (some (.builtin "getset_descriptor.__get__"))
  ht : PySem.W.takesIn K (.builtin "object.__class__") = some true
  hm : PySem.W.mroIn K D (.type "object") = some true
def rIsED (K : PySem.W.Frag) (D a : Addr) (cls : Value) (d : Option Addr) : List V → Hp → VK → Prop := fun xs H Q => ∃ (c : V) (cv : Value) (b : Bool) (dd : Addr) (fs : List (Str × V)), xs = [.ref a, c] ∧ (∀ u, RelV c u → u = cv) ∧ cls = .ref D ∧ d = some dd ∧ H dd = some (.xd fs) ∧ PySem.W.kitOne K (.ref D) cv = some b ∧ Q (.bl b) H
theorem call_isED {a D : Addr} {cls : Value} {d : Option Addr} {oe : Obj} {pn : List (Addr × Obj)} (T : IsE X.K D) (hz : Zc cls d oe) (hf : ∃ vs, oe.data = .fields vs) : CallR (X.suite a ((a, oe) :: pn)) (.builtin "isinstance") (rIsED X.K D a cls d) := by
  intro pins s σ H xs us Q I r h
  obtain ⟨c, cv, b, dd, fs, rfl, hcv, rfl, rfl, hdd, hk, q⟩ := h
  obtain ⟨u1, u2, rfl, r1, r2⟩ := vals2 r
  cases r1
  obtain rfl := hcv _ r2
  obtain ⟨there, _⟩ := I.pin (a, oe) (List.mem_append_left _ List.mem_cons_self)
  obtain ⟨vs, hv⟩ := hf
  obtain ⟨mA, hns, _⟩ := (show ObjOk X.prog X.w H s.heap dd (.xd fs) from I.hok dd _ hdd)
  obtain ⟨od, ho, _⟩ := lookIn_ns hns
  have J : PySem.W.InstAt s.heap a oe D (some od) := ⟨there, hz.1, by unfold PySem.W.notCls; rw [hv] <;> rfl, by rw [hz.2]; exact ho⟩
  exact PySem.W.kia_one (PySem.W.kitx_exc T.hc T.ga T.gg T.sb T.ha T.hn T.ht T.hm) I.kIn J hk (fun z => nomatch z) fun tk => ⟨.bl b, H, I.kept (t' := tk) fun _ _ z => z, rfl, q⟩
end
end Dl

/-! try with several clauses «except C as n»: my own rule -/
namespace Dl
open PySem PySem.Spec PyProof.Rows L2
abbrev Suite := Addr → Value → Option Addr → TS
/-- the ends of a suite whose name at slot i is unbound behind it -/
def unE (i : Nat) (D : Ends) : Ends where
  nx := fun τ G => D.nx (τ.set i none) G
  rt := D.rt
  bk := fun τ G => D.bk (τ.set i none) G
  ct := fun τ G => D.ct (τ.set i none) G
def wAll (K : PySem.W.Frag) (i : Nat) (out : WX) (D : Ends) : List (Value × Suite) → WX
  | [] => out
  | p :: rest => fun cls d τ G => ∃ yes : Bool, PySem.W.exmOne K cls p.1 = some yes ∧ (yes = true → ∀ a, G a = none → p.2 a cls d (unE i D) (τ.set i (some (.ref a))) G) ∧ (yes = false → wAll K i out D rest cls d τ G)
inductive Clauses (X : Cx) (n : Str) : List ExceptHandler → List (Value × Suite) → Prop
  | done : Clauses X n [] []
  | more {x : Str} {c : Value} {ts : Suite} {st : Stmt} {sts : List Stmt} {q q' : Pos} {rest : List ExceptHandler} {l : List (Value × Suite)} (nm : Names X x c)
      (suite : ∀ (a : Addr) (oe : Obj) (cls : Value) (d : Option Addr) (pn : List (Addr × Obj)), Zc cls d oe → (∃ fs, oe.data = .fields fs) → PSs (X.suite a ((a, oe) :: pn)) (st :: sts) (ts a cls d)) (tail : Clauses X n rest l) :
      Clauses X n (.ExceptHandler (some (.Name x q)) (some n) (st :: sts) q' :: rest) ((c, ts) :: l)
section
variable {X : Cx} {n : Str} {i : Nat} {body : List Stmt} {h1 : ExceptHandler} {more : List ExceptHandler} {l : List (Value × Suite)} {pos : Pos} {tb : WX → TS} {out : WX}
theorem ps_try_all (top : X.stack = X.env :: X.outer) (fr : X.env.frame = some X.env.locals) (nd : X.N.Nodup) (at_ : X.N[i]? = some n) (loc : X.env.kindOf n = some .local) (tk : Takes X out)
    (run : ∀ (W : WX) (pn : List (Addr × Obj)) (xe : Value → Shared → Prop), Takes (X.tr pn xe) W → PassesOwn (model X.prog X.w) X.A X.env xe → PSs (X.tr pn xe) body (tb W)) (cs : Clauses X n (h1 :: more) l) :
    PS X (.Try body (h1 :: more) [] [] pos) (fun D τ G => tb (wAll X.K i out D l) D τ G) := by
  constructor
  intro pins s τ G D I want
  have good := I.ok
  have frames : X.A.frames = some (X.env :: X.outer) := top ▸ good.frames
  apply wpAny_Try_except
  have go := (run (wAll X.K i out D l) (X.pn ++ pins)
    (fun e t1 => wpAny (model X.prog X.w) X.A (noteFrame e X.env)
      (fun _ t2 => wpAny (model X.prog X.w) X.A (setFlight e none)
        (fun _ t3 => wpAny (model X.prog X.w) X.A (handleBy e X.env (h1 :: more)) (SP X pins D) X.xe t3) X.xe t2) X.xe t1) ?caught PassesOwn.looking).run [] s τ G D (I.toTry _) want
  case caught =>
    rintro u t ⟨a, B, sI, pins', τ', G', cls, d, rfl, J0, fresh, up, sky, na, os, ag, w⟩
    have J : Inv X pins τ' G' sI := J0.ofTry good
    rw [top] at sky
    show wpAny (model X.prog X.w) X.A (noteFrame (.ref a) X.env) _ _ _
    apply Sky.land Zc.steady frames fr sky
    intro h3 fl up3
    have J3 : Inv X pins τ' G' { t with heap := h3 } := J.landed fresh fl.1 (up.trans up3) os ag
    obtain ⟨ob, fs, hob, zob, dob⟩ := fl.there
    have out_frames : a ∉ frs (X.env :: X.outer) := by
      intro hm
      obtain ⟨_, o2, e2, no⟩ := fl.2.2.1.mem hm
      rw [hob] at e2
      cases e2
      exact no _ dob
    have nl : a ≠ X.env.locals := fun e => out_frames (List.mem_filterMap.mpr ⟨X.env, List.mem_cons_self, fr.trans (congrArg some e.symm)⟩)
    have nf : a ∉ X.fs := by
      intro hm
      obtain ⟨ev, hev, e2⟩ := List.mem_filterMap.mp hm
      exact out_frames (List.mem_filterMap.mpr ⟨ev, List.mem_cons_of_mem _ hev, e2⟩)
    have S3 := J3.suite hob dob na nl nf
    have each : ∀ {hs : List ExceptHandler} {k : List (Value × Suite)}, Clauses X n hs k → wAll X.K i out D k cls d τ' G' → wpAny (model X.prog X.w) X.A (handleBy (.ref a) X.env hs) (SP X pins D) X.xe { t with heap := h3 } := by
      intro hs k hk
      induction hk with
      | done =>
        intro w
        apply wpAny_handleBy_nil
        have fl2 := fl
        obtain ⟨_, _, _, o4, v4, T, _, _, e4, _, d4, i4, _⟩ := fl2
        have off : wpAny (model X.prog X.w) X.A (setFlight (.ref a) X.env.frame) (fun _ t4 => wpAny (model X.prog X.w) X.A (throw (.ref a) : Sem Flow) (SP X pins D) X.xe t4) X.xe { t with heap := h3 } := by
          rw [fr]
          apply HandSPX.setFlight_upZ fl
          intro h4 hh4 up4
          exact wpAny_throw (tk _ _ ⟨a, B, sI, pins, τ', G', cls, d, rfl, J, fresh, (up.trans up3).trans up4, .inr (.inr (top.symm ▸ hh4)), na, os, ag, w⟩)
        unfold PySem.passOn
        apply wpAny_bind
        apply wpAny_field e4 d4 i4
        rw [if_neg (by simp : ¬ ((Value.ref T == Value.none) = true))]
        first
          | exact wpAny_bind (wpAny_pure (wpAny_bind off))
          | exact wpAny_bind off
      | @more x c ts st sts q q' rest k2 nm suite tail ih =>
        rintro ⟨yes, e5, isYes, isNo⟩
        apply wpAny_handleBy_cons (codeAny_handlers_test ?test) (by intro z; cases z)
        case test =>
          have looks : PySem.W.Looks (model X.prog X.w) h3 (typeOf (.ref a)) cls := fun _ _ _ _ keep z => wpAny_typeOf_ref (keep _ _ hob) (zob.1.symm ▸ z)
          have one := PySem.W.exm_one (M := model X.prog X.w) J3.kIn looks e5
          have read : ∀ {Q : Value → Shared → Prop} {E : Value → Shared → Prop}, Q c { t with heap := h3 } → wpAny (model X.prog X.w) (X.A.mark (some (.ref a))) (eval (.Name x q) X.env) Q E { t with heap := h3 } := by
            intro Q E z
            obtain ⟨g, dbg, inMod | ⟨inMod, v, nn⟩⟩ := nm
            · exact ld_glob (X := X.suite a ((a, ob) :: (X.pn ++ pins))) S3 g inMod z dbg
            · exact ld_blt (X := X.suite a ((a, ob) :: (X.pn ++ pins))) S3 g inMod v z nn dbg
          apply read
          apply one.here
          cases yes with
          | false =>
            show wpAny _ X.A (handleBy (.ref a) X.env rest) _ _ _
            exact ih (isNo rfl)
          | true =>
            apply codeAny_handlers_suite_as
            apply HandSPX.lands_againZ fl
            intro h4 fl4 up4
            have J4 : Inv X pins τ' G' { t with heap := h4 } := J.landed fresh fl4.1 ((up.trans up3).trans up4) os ag
            obtain ⟨ob4, fs4, hob4, zob4, dob4⟩ := fl4.there
            have S4 := J4.suite hob4 dob4 na nl nf
            apply store_ok (X := X.suite a ((a, ob4) :: (X.pn ++ pins))) (v := .ref a) S4 nd at_ (.inl loc) rfl ?_ (.inr loc)
            intro t5 S5
            have body5 := (suite a ob4 cls d (X.pn ++ pins) zob4 ⟨_, dob4⟩).run [] t5 _ G' _ S5 (isYes rfl a na)
            apply wpAny_mono body5 ?_ (fun _ _ z => z.elim)
            intro fw t6 end6
            have drop : ∀ {τ6 : L2.St} {G6 : Hp} {R : Shared → Prop}, Inv (X.suite a ((a, ob4) :: (X.pn ++ pins))) [] τ6 G6 t6 → (∀ t7, Inv X pins (τ6.set i none) G6 t7 → R t7) → wpAny (model X.prog X.w) X.A (do bindName X.env n .none; unbindBehindTheSuite X.env n q') (fun _ t7 => R t7) X.xe t6 := by
              intro τ6 G6 R S6 z
              exact gone_ok (S6.unsuite good) nd at_ loc z
            match fw, end6 with
            | .next, ⟨τ6, G6, S6, q6⟩ => exact drop S6 fun t7 J7 => ⟨_, _, J7, q6⟩
            | .brk, ⟨τ6, G6, S6, q6⟩ => exact drop S6 fun t7 J7 => ⟨_, _, J7, q6⟩
            | .cont, ⟨τ6, G6, S6, q6⟩ => exact drop S6 fun t7 J7 => ⟨_, _, J7, q6⟩
            | .ret u, ⟨v6, τ6, G6, S6, r6, q6⟩ => exact drop S6 fun t7 J7 => ⟨_, _, _, J7, r6, q6⟩
    exact each cs w
  apply wpAny_mono go ?_ (fun _ _ z => z)
  intro fw t1 end1
  match fw, end1 with
  | .next, ⟨τ1, G1, J1, q1⟩ => exact wpAny_execs_nil ⟨τ1, G1, J1.ofTry good, q1⟩
  | .brk, ⟨τ1, G1, J1, q1⟩ => exact ⟨τ1, G1, J1.ofTry good, q1⟩
  | .cont, ⟨τ1, G1, J1, q1⟩ => exact ⟨τ1, G1, J1.ofTry good, q1⟩
  | .ret u, ⟨v1, τ1, G1, J1, r1, q1⟩ => exact ⟨v1, τ1, G1, J1.ofTry good, r1, q1⟩
end
end Dl

namespace Dl
open PySem PySem.Spec PyProof.Rows L2
/-! ### what the rules ask, as a law reckons it -/
def erw : Er → Str × V
  | .inv v => ("invalid", v)
  | .dup v => ("duplicate", v)
  | .unk v => ("unknown", v)
  | .many => ("many", .int 24)
/-- None, or a pair of the word and the value -/
def ResAt (H : Hp) (v : V) : Option Er → Prop
  | none => v = .non
  | some e => ∃ t, v = .ref t ∧ H t = some (.tup [.str (erw e).1, (erw e).2])
theorem ResAt.of {H H' : Hp} {v : V} {o : Option Er} (s : Same H H') (h : ResAt H v o) : ResAt H' v o := by
  cases o with
  | none => exact h
  | some e => obtain ⟨t, e1, e2⟩ := h; exact ⟨t, e1, s _ _ e2⟩
def exErr {α : Type} : Except Er α → Option Er
  | .ok _ => none
  | .error e => some e
/-- the word of one name -/
def faultW (v : V) (es : List Str) : Str := match chkNew v es with
  | none => ""
  | some e => (erw e).1
structure TxtD (mg : Str → Option Value) : Prop where
  isinstance : mg "isinstance" = none
  str : mg "str" = none
  len : mg "len" = none
def spFault : Sp := fun vs H Q _ => ∃ (v : V) (u : Addr) (es : List Str), vs = [v, .ref u] ∧ NmOk H v ∧ H u = some (.lst (es.map V.str)) ∧ Q (.str (faultW v es)) H
def spNamesDue (K : PySem.W.Frag) : Sp := fun vs H Q _ => ∃ (p : Addr) (xs : List V), vs = [.ref p] ∧ SqL K H p xs ∧ (∀ v ∈ xs, NmOk H v) ∧ xs.length ≤ 1000 ∧ ∀ H' v, Same H H' → ResAt H' v (exErr (chkNames xs [])) → Q v H'
def spDue (K : PySem.W.Frag) : Sp := fun vs H Q _ => ∃ (a b : Addr) (lamps : List V) (rows : List RowIn), vs = [.ref a, .ref b] ∧ SqL K H a lamps ∧ (∀ v ∈ lamps, NmD H v) ∧ lamps.length ≤ 1000 ∧ SqL K H b (rows.map fun r => V.ref r.t) ∧
  (∀ r ∈ rows, RowOk K H r ∧ ∀ v ∈ r.xs, NmD H v) ∧ rows.length ≤ 1000 ∧ ∀ H' v, Same H H' → ResAt H' v (exErr (initT lamps (rows.map RowIn.dat))) → Q v H'
theorem chkNew_val {v : V} {es : List Str} {er : Er} (hn : chkNew v es = some er) : (erw er).2 = v := by
  cases v with
  | str z =>
    unfold chkNew at hn
    simp only at hn
    split at hn
    · split at hn
      · cases hn; rfl
      · cases hn
    · cases hn; rfl
  | _ => cases hn; rfl
theorem fault_none {v : V} {es : List Str} : (faultW v es = "") ↔ chkNew v es = none := by
  unfold faultW
  cases h : chkNew v es with
  | none => simp
  | some e =>
    have ne1 : ¬ (("invalid" : Str) = "") := by decide +kernel
    have ne2 : ¬ (("duplicate" : Str) = "") := by decide +kernel
    have ne3 : ¬ (("unknown" : Str) = "") := by decide +kernel
    have ne4 : ¬ (("many" : Str) = "") := by decide +kernel
    cases e <;> simp [erw, ne1, ne2, ne3, ne4]
section
variable {P : Program} {w : World} {K : PySem.W.Frag} {mg : Str → Option Value} {base : Heap}
theorem scFault : FnScope ["_law_name_here", "_law_taken", "_law_sign"] ["_law_name_here", "_law_taken"] (defScope sLawFault) := ⟨rfl, rfl, rfl, by decide +kernel, rfl, by decide +kernel, by decide +kernel⟩
theorem ok_fault {f : Addr} {fd : FuncData} (F : Fun K "_law_fault" "_law_fault" sLawFault f fd) (T : TxtD mg) : FnOk P w K mg base CX0 1 f fd ["_law_name_here", "_law_taken"] spFault := by
  refine F.ok scFault (fun vs H Q E h => ?_) (fun cdv A outer s H vs Q E hr h => ?_)
  · obtain ⟨v, u, es, rfl, _⟩ := h
    rfl
  · obtain ⟨v, u, es, rfl, hv, hu, k⟩ := h
    refine ⟨_, (pss_cons (ps_if (PW.pt (pw_or (pt_not (pt_val (pe_callB call_isi (by rfl) T.isinstance (by decide +kernel) (pa_cons (pv 0) (pa_cons (pe_bltn (v := .ty "str") (by rfl) T.str (by decide +kernel) rfl) pa_nil))))) (pw_or (pt_cmpR op_eq (pv 0) pe_str (nomark _)) (pw_or1 (pt_cmpR op_gt (pe_callB call_len_str (by rfl) T.len PySem.boot_len (pa_cons (pv 0) pa_nil)) pe_int (nomark _)))))) (pss_one (ps_ret pe_str)) pss_nil)
        (pss_cons (ps_for PassesOwn.never rfl (pi_str (pv 0)) (pg_name (i := 2) scFault.nd rfl (Or.inl rfl)) (pss_one (ps_if (pt_cmpR op_notIn_sign (pv 2) pe_str (by rfl)) (pss_one (ps_ret pe_str)) pss_nil)))
        (pss_cons (ps_if (pt_cmpR op_in_seq (pv 0) (pv 1) (by rfl)) (pss_one (ps_ret pe_str)) pss_nil)
        (pss_one (ps_ret pe_str))))), ?_⟩
    obtain ⟨ty, b, h1, h2, h3⟩ := nm_type K hv
    refine ⟨_, rfl, v, _, _, _, b, rfl, ClsV.ty "str", h1, h2, b, rfl, ?_⟩
    rcases h3 with ⟨rfl, h3, hns⟩ | ⟨rfl, z, rfl, hz⟩
    · refine iteT ?_
      have e : faultW v es = "invalid" := by
        unfold faultW chkNew
        cases v with
        | str z => exact absurd rfl (hns z)
        | _ => rfl
      rw [e] at k
      exact k
    · refine iteF ?_
      have inv : validN z = false → Q (.str "invalid") H := fun h => by
        have e : faultW (.str z) es = "invalid" := by
          unfold faultW chkNew
          simp [h, erw]
        rw [e] at k
        exact k
      refine ⟨_, rfl, rfl, _, rfl, ?_⟩
      refine ite2 (fun c => ?_) (fun c => ?_)
      · have ez : z = ("" : Str) := by simpa using c
        exact inv (by rw [ez]; decide +kernel)
      have hz1 : 1 ≤ z.length := by
        have q : ¬ z = ("" : Str) := by simpa using c
        exact len_pos q
      refine ⟨_, rfl, z, rfl, hz, _, _, rfl, rfl, _, rfl, ?_⟩
      by_cases h12 : z.length ≤ 12
      · have e2 : decide ((12 : Int) < ((z.length : Nat) : Int)) = false := decide_eq_false (by omega)
        rw [e2]
        refine iteF ?_
        refine ⟨_, rfl, z, rfl, for_it walk_str (fun i σ H' => H' = H ∧ (∃ x, σ = [some (.str z), some (.ref u), x]) ∧ ∀ c ∈ z.cps.toList.take i, c ∈ SG.cps.toList) ⟨rfl, ⟨none, rfl⟩, fun c hc => absurd hc (by simp)⟩ (fun _ _ _ _ _ => trivial) ?_ ?_⟩
        · rintro i x σ H1 H2 hi ⟨rfl, ⟨y, rfl⟩, hall⟩ ⟨rfl, c, hc, rfl⟩
          have hc2 : z.cps.toList[i]? = some c := by rw [Array.getElem?_toList]; exact hc
          have hmem : c ∈ z.cps.toList := List.mem_of_getElem? hc2
          refine ⟨_, rfl, c, SG, rfl, rfl, _, rfl, ?_⟩
          by_cases hm : c ∈ SG.cps.toList
          · rw [decide_eq_true hm]
            refine iteF ⟨rfl, ⟨_, rfl⟩, fun d hd => ?_⟩
            rw [List.take_succ, hc2] at hd
            rcases List.mem_append.mp hd with h | h
            · exact hall d h
            · obtain rfl : d = c := by simpa using h
              exact hm
          · rw [decide_eq_false hm]
            exact iteT (inv (invalid_of hmem hm))
        · rintro σ H1 ⟨rfl, ⟨y, rfl⟩, hall⟩
          have hv2 : validN z = true := by
            rw [valid_of hz1 (by
              have q : z.cps.toList.take z.cps.size = z.cps.toList := by rw [List.take_of_length_le (by simp)]
              rw [q] at hall
              exact hall), decide_eq_true h12]
          refine ⟨_, rfl, _, rfl, u, _, rfl, .inl (SqL.of hu), rfl, flat_strs es, _, rfl, ?_⟩
          show if (inV (.str z) (es.map V.str)) = true then _ else _
          rw [inV_str]
          by_cases hm : z ∈ es
          · rw [decide_eq_true hm]
            have e : faultW (.str z) es = "duplicate" := by unfold faultW chkNew; simp [hv2, hm, erw]
            rw [e] at k
            exact iteT k
          · rw [decide_eq_false hm]
            have e : faultW (.str z) es = "" := by unfold faultW chkNew; simp [hv2, hm]
            rw [e] at k
            exact iteF k
      · have e2 : decide ((12 : Int) < ((z.length : Nat) : Int)) = true := decide_eq_true (by omega)
        rw [e2]
        refine iteT (inv ?_)
        unfold validN
        rw [decide_eq_false h12]
        simp
end
end Dl

namespace Dl
open PySem PySem.Spec PyProof.Rows L2
section
variable {P : Program} {w : World} {K : PySem.W.Frag} {mg : Str → Option Value} {base : Heap}
theorem scNamesDue : FnScope ["_law_names_here", "_law_taken", "_law_name_here", "_law_word"] ["_law_names_here"] (defScope sLawNamesDue) := ⟨rfl, rfl, rfl, by decide +kernel, rfl, by decide +kernel, by decide +kernel⟩
theorem ok_namesdue {f : Addr} {fd : FuncData} (F : Fun K "_law_names_due" "_law_names_due" sLawNamesDue f fd) (gF : Dfn P w K mg base CX0 1 "_law_fault" ["_law_name_here", "_law_taken"] spFault) :
    FnOk P w K mg base CX0 2 f fd ["_law_names_here"] (spNamesDue K) := by
  obtain ⟨fFa, dFa, mFa, kFa, bFa, GFa⟩ := gF
  refine F.ok scNamesDue (fun vs H Q E h => ?_) (fun cdv A outer s H vs Q E hr h => ?_)
  · obtain ⟨p, xs, rfl, _⟩ := h
    rfl
  · obtain ⟨p, xs, rfl, hp, hx, hlen, k⟩ := h
    have hr1 : Room 1 _ := hr
    refine ⟨_, (pss_cons (ps_set (i := 1) scNamesDue.nd rfl (Or.inl rfl) (pe_lst pa_nil))
        (pss_cons (ps_for PassesOwn.never rfl (pi_list (pv 0)) (pg_name (i := 2) scNamesDue.nd rfl (Or.inl rfl)) (pss_cons (ps_set (i := 3) scNamesDue.nd rfl (Or.inl rfl) (pe_call GFa hr1 (by rfl) mFa kFa bFa .nil pass0 (pa_cons (pv 2) (pa_cons (pv 1) pa_nil))))
        (pss_cons (ps_if (pt_cmpR op_ne (pv 3) pe_str (nomark _)) (pss_one (ps_ret (pe_tup (pa_cons (pv 3) (pa_cons (pv 2) pa_nil))))) pss_nil)
        (pss_one (ps_expr (pe_bm PySem.F.plainAttrs_list PySem.F.slot_list_append PySem.F.type_list_append mt_append (pv 1) (pa_cons (pv 2) pa_nil)))))))
        (pss_one (ps_ret pe_non)))), ?_⟩
    refine ⟨Nat.zero_le _, fun u hu => ?_⟩
    refine ⟨_, rfl, p, rfl, ⟨_, Same.seq (Same.upd_new hu) hp⟩, for_it (walk_list (K := K) (a := p) (xs := xs)) (fun i σ H' => ∃ (acc : List Str) (x y : Option V), σ = [some (.ref p), some (.ref u), x, y] ∧ H' u = some (.lst (acc.map V.str)) ∧ Same H H' ∧ chkNames (xs.drop i) acc = chkNames xs [] ∧ acc.length ≤ i)
      ⟨[], none, none, rfl, upd_same, Same.upd_new hu, rfl, Nat.le_refl _⟩ (fun i σ H' _ ⟨_, _, _, _, _, s1, _⟩ => Same.seq s1 hp) ?_ ?_⟩
    · rintro i v σ H1 H2 hi ⟨acc, x, y, rfl, hL, s1, hc, ha⟩ ⟨rfl, hv⟩
      have hd : xs.drop i = v :: xs.drop (i + 1) := by
        rw [List.drop_eq_getElem_cons hi]
        have q := (List.getElem?_eq_some_iff.mp hv).2
        rw [q]
      rw [hd] at hc
      refine ⟨_, rfl, _, rfl, v, u, acc, rfl, (hx v (List.mem_of_getElem? hv)).of s1, hL, ?_⟩
      refine ⟨_, rfl, rfl, _, rfl, ?_⟩
      cases hn : chkNew v acc with
      | none =>
        have e : faultW v acc = "" := fault_none.mpr hn
        rw [e]
        refine iteNS rfl ?_
        obtain ⟨z, rfl, _, _⟩ := chkNew_none hn
        refine ⟨_, rfl, .inl ⟨rfl, _, SqL.of hL⟩, _, rfl, u, _, _, rfl, rfl, hL, ?_, ?_⟩
        · rw [List.length_map]
          exact small1000 (by omega)
        · refine ⟨acc ++ [z], _, _, rfl, ?_, fun b o h => ?_, ?_, ?_⟩
          · rw [upd_same, List.map_append]; rfl
          · rw [upd_ne (ne_of_none h hu)]
            exact s1 _ _ h
          · rw [← hc, chkNames, hn]
            rfl
          · rw [List.length_append]
            simp
            omega
      | some er =>
        have ne : ¬ (V.str (faultW v acc) = V.str "") := fun q => by
          have := fault_none.mp (V.str.inj q)
          rw [hn] at this
          cases this
        rw [decide_eq_false ne]
        have hce : chkNames xs [] = .error er := by rw [← hc, chkNames, hn]
        have hw : faultW v acc = (erw er).1 ∧ (erw er).2 = v := by
          refine ⟨by unfold faultW; rw [hn], ?_⟩
          cases v with
          | str z =>
            unfold chkNew at hn
            simp only at hn
            split at hn
            · split at hn
              · cases hn; rfl
              · cases hn
            · cases hn; rfl
          | _ => cases hn; rfl
        refine iteT ⟨_, rfl, _, rfl, by show 2 ≤ sizeLine; decide, fun t ht => ?_⟩
        refine k _ _ (s1.trans (Same.upd_new ht)) ?_
        rw [hce]
        refine ⟨t, rfl, ?_⟩
        rw [upd_same, hw.1, hw.2]
    · rintro σ H1 ⟨acc, x, y, rfl, hL, s1, hc, ha⟩
      rw [List.drop_length] at hc
      refine k H1 .non s1 ?_
      rw [← hc]
      rfl
end
end Dl

namespace Dl
open PySem PySem.Spec PyProof.Rows L2
theorem names_strs' : ∀ {xs : List V} {acc es : List Str}, chkNames xs acc = .ok es → (∀ z ∈ acc, validN z = true) → es.map V.str = acc.map V.str ++ xs ∧ ∀ z ∈ es, validN z = true
  | [], acc, es, h, ha => by cases h; exact ⟨by simp, ha⟩
  | v :: r, acc, es, h, ha => by
    unfold chkNames at h
    cases e : chkNew v acc with
    | some q => rw [e] at h; cases h
    | none =>
      rw [e] at h
      obtain ⟨z, rfl, hz, _⟩ := chkNew_none e
      have q := names_strs' h fun y hy => by
        rcases List.mem_append.mp hy with hy | hy
        · exact ha y hy
        · obtain rfl := List.mem_singleton.mp hy
          exact hz
      refine ⟨?_, q.2⟩
      rw [q.1, List.map_append, List.append_assoc]
      rfl
theorem names_strs {xs : List V} {es : List Str} (h : chkNames xs [] = .ok es) : xs = es.map V.str ∧ ∀ z ∈ es, validN z = true := by
  have q := names_strs' h fun z hz => absurd hz (by simp)
  exact ⟨by simpa using q.1.symm, q.2⟩
section
variable {P : Program} {w : World} {K : PySem.W.Frag} {mg : Str → Option Value} {base : Heap}
theorem scDue : FnScope ["_law_lamps", "_law_rows", "_law_due_here", "_law_looks", "_law_row", "_law_word", "_law_inner", "_law_lamp"] ["_law_lamps", "_law_rows"] (defScope sLawDue) := ⟨rfl, rfl, rfl, by decide +kernel, rfl, by decide +kernel, by decide +kernel⟩
theorem ok_due {f : Addr} {fd : FuncData} (F : Fun K "_law_due" "_law_due" sLawDue f fd) (T : TxtD mg) (gF : Dfn P w K mg base CX0 1 "_law_fault" ["_law_name_here", "_law_taken"] spFault) (gN : Dfn P w K mg base CX0 2 "_law_names_due" ["_law_names_here"] (spNamesDue K)) :
    FnOk P w K mg base CX0 3 f fd ["_law_lamps", "_law_rows"] (spDue K) := by
  obtain ⟨fFa, dFa, mFa, kFa, bFa, GFa⟩ := gF
  obtain ⟨fNd, dNd, mNd, kNd, bNd, GNd⟩ := gN
  refine F.ok scDue (fun vs H Q E h => ?_) (fun cdv A outer s H vs Q E hr h => ?_)
  · obtain ⟨a, b, lamps, rows, rfl, _⟩ := h
    rfl
  · obtain ⟨a, b, lamps, rows, rfl, ha, hla, hll, hb, hrw, hrl, k⟩ := h
    have hr2 : Room 2 _ := hr
    have hr1 : Room 1 _ := hr.mono (by decide)
    refine ⟨_, (pss_cons (ps_if (PW.pt (pw_or (pt_cmpR op_gt (pe_callB call_len_seq (by rfl) T.len PySem.boot_len (pa_cons (pv 0) pa_nil)) pe_int (nomark _)) (pw_or1 (pt_cmpR op_gt (pe_callB call_len_seq (by rfl) T.len PySem.boot_len (pa_cons (pv 1) pa_nil)) pe_int (nomark _))))) (pss_one (ps_ret (pe_tup (pa_cons pe_str (pa_cons pe_int pa_nil))))) pss_nil)
        (pss_cons (ps_set (i := 2) scDue.nd rfl (Or.inl rfl) (pe_call GNd hr2 (by rfl) mNd kNd bNd .nil pass0 (pa_cons (pv 0) pa_nil)))
        (pss_cons (ps_if (pt_cmpR op_notN (pv 2) pe_non (nomark _)) (pss_one (ps_ret (pv 2))) pss_nil)
        (pss_cons (ps_set (i := 3) scDue.nd rfl (Or.inl rfl) (pe_lst pa_nil))
        (pss_cons (ps_for PassesOwn.never rfl (pi_list (pv 1)) (pg_name (i := 4) scDue.nd rfl (Or.inl rfl)) (pss_cons (ps_set (i := 5) scDue.nd rfl (Or.inl rfl) (pe_call GFa hr1 (by rfl) mFa kFa bFa .nil pass0 (pa_cons (pe_ix ix_tup (pv 4) pe_int (fun _ _ => rfl)) (pa_cons (pv 3) pa_nil))))
        (pss_cons (ps_if (pt_cmpR op_ne (pv 5) pe_str (nomark _)) (pss_one (ps_ret (pe_tup (pa_cons (pv 5) (pa_cons (pe_ix ix_tup (pv 4) pe_int (fun _ _ => rfl)) pa_nil))))) pss_nil)
        (pss_cons (ps_expr (pe_bm PySem.F.plainAttrs_list PySem.F.slot_list_append PySem.F.type_list_append mt_append (pv 3) (pa_cons (pe_ix ix_tup (pv 4) pe_int (fun _ _ => rfl)) pa_nil)))
        (pss_cons (ps_set (i := 6) scDue.nd rfl (Or.inl rfl) (pe_lst pa_nil))
        (pss_one (ps_for PassesOwn.never rfl (pi_list (pe_ix ix_tup (pv 4) pe_int (fun _ _ => rfl))) (pg_name (i := 7) scDue.nd rfl (Or.inl rfl)) (pss_cons (ps_if (pt_cmpR (op_notInD (room65 hr)) (pv 7) (pv 0) (by rfl)) (pss_one (ps_ret (pe_tup (pa_cons pe_str (pa_cons (pv 7) pa_nil))))) pss_nil)
        (pss_cons (ps_if (pt_cmpR op_in_seq (pv 7) (pv 6) (by rfl)) (pss_one (ps_ret (pe_tup (pa_cons pe_str (pa_cons (pv 7) pa_nil))))) pss_nil)
        (pss_one (ps_expr (pe_bm PySem.F.plainAttrs_list PySem.F.slot_list_append PySem.F.type_list_append mt_append (pv 6) (pa_cons (pv 7) pa_nil)))))))))))))
        (pss_one (ps_ret pe_non))))))), ?_⟩
    have many : 24 < lamps.length ∨ 24 < (rows.map RowIn.dat).length → ∀ H' t, Same H H' → H' t = some (.tup [.str "many", .int 24]) → Q (.ref t) H' := fun h H' t s e => by
      refine k H' _ s ?_
      rw [show initT lamps (rows.map RowIn.dat) = .error .many by unfold initT; rw [if_pos h]]
      exact ⟨t, rfl, e⟩
    refine ⟨_, rfl, a, _, rfl, .inl ha, _, _, rfl, rfl, _, rfl, ?_⟩
    refine ite2 (fun c1 => ?_) (fun c1 => ?_)
    · refine ⟨by show 2 ≤ sizeLine; decide, fun t ht => many (.inl ?_) _ t (Same.upd_new ht) upd_same⟩
      have q : (24 : Int) < (lamps.length : Nat) := of_decide_eq_true c1
      omega
    refine ⟨_, rfl, b, _, rfl, .inl hb, _, _, rfl, rfl, _, rfl, ?_⟩
    refine ite2 (fun c2 => ?_) (fun c2 => ?_)
    · refine ⟨by show 2 ≤ sizeLine; decide, fun t ht => many (.inr ?_) _ t (Same.upd_new ht) upd_same⟩
      have q : (24 : Int) < ((rows.map fun r => V.ref r.t).length : Nat) := of_decide_eq_true c2
      rw [List.length_map] at q ⊢
      omega
    have c1' : ¬ 24 < lamps.length := fun x => c1 (decide_eq_true (by show (24 : Int) < (lamps.length : Nat); omega))
    have c2' : ¬ 24 < (rows.map RowIn.dat).length := fun x => c2 (decide_eq_true (by
      show (24 : Int) < ((rows.map fun r => V.ref r.t).length : Nat)
      rw [List.length_map] at x ⊢
      omega))
    have hT : initT lamps (rows.map RowIn.dat) = match chkNames lamps [] with
        | .error e => .error e
        | .ok ls => match initRows ls (rows.map RowIn.dat) [] with
          | .error e => .error e
          | .ok rs => .ok (ls, rs) := by
      show (if _ then _ else _) = _
      rw [if_neg (by intro z; rcases z with z | z; exact c1' z; exact c2' z)]
      all_goals rfl
    refine ⟨_, rfl, a, lamps, rfl, ha, fun v hv => (hla v hv).ok, hll, fun H1 v s1 rv => ?_⟩
    cases hn : chkNames lamps [] with
    | error e =>
      rw [hn] at rv hT
      dsimp only at hT
      have rv2 := rv
      obtain ⟨t, rfl, ht⟩ := rv2
      refine ⟨_, rfl, rfl, _, rfl, ?_⟩
      rw [show (!decide (V.ref t = V.non)) = true by simp]
      refine iteT ⟨_, rfl, k H1 _ s1 ?_⟩
      rw [hT]
      exact rv
    | ok ls =>
      rw [hn] at rv hT
      dsimp only at hT
      obtain rfl : v = .non := rv
      obtain ⟨hls, hval⟩ := names_strs hn
      refine ⟨_, rfl, rfl, _, rfl, ?_⟩
      rw [show (!decide (V.non = V.non)) = false by simp]
      refine iteF ⟨Nat.zero_le _, fun lk hlk => ?_⟩
      have hlk0 : H lk = none := s1.free hlk
      refine ⟨_, rfl, b, rfl, ⟨_, Same.seq (s1.trans (Same.upd_new hlk)) hb⟩, for_it (walk_list (K := K) (a := b) (xs := rows.map fun r => V.ref r.t)) (fun i σ H' => ∃ (x4 x5 x6 x7 : Option V) (acc : List (Str × List Str)),
          σ = [some (.ref a), some (.ref b), some .non, some (.ref lk), x4, x5, x6, x7] ∧ H' lk = some (.lst ((acc.map (·.1)).map V.str)) ∧ Same H H' ∧ initRows ls ((rows.map RowIn.dat).drop i) acc = initRows ls (rows.map RowIn.dat) [] ∧ acc.length ≤ i)
        ⟨none, none, none, none, [], rfl, upd_same, s1.trans (Same.upd_new hlk), rfl, Nat.le_refl _⟩ (fun i σ H' _ ⟨_, _, _, _, _, _, _, s2, _⟩ => Same.seq s2 hb) ?_ ?_⟩
      · rintro i v σ H2 H3 hi ⟨x4, x5, x6, x7, acc, rfl, hL, s3, hc, hal⟩ ⟨rfl, hv⟩
        have hv2 : (rows.map fun r => V.ref r.t)[i]? = some v := hv
        rw [List.length_map] at hi
        obtain ⟨r, hr', rfl⟩ : ∃ r, rows[i]? = some r ∧ v = V.ref r.t := by
          rw [List.getElem?_map] at hv2
          cases e : rows[i]? with
          | none => rw [e] at hv2; cases hv2
          | some r => rw [e] at hv2; exact ⟨r, rfl, (Option.some.inj hv2).symm⟩
        have hd : (rows.map RowIn.dat).drop i = (r.look, r.xs) :: (rows.map RowIn.dat).drop (i + 1) := by
          rw [List.drop_eq_getElem_cons (by rw [List.length_map]; exact hi)]
          rw [List.getElem_map, (List.getElem?_eq_some_iff.mp hr').2]
          rfl
        rw [hd] at hc
        obtain ⟨R, hxs⟩ := hrw r (List.mem_of_getElem? hr')
        have R2 := R.of s3
        refine ⟨_, rfl, r.t, _, 0, r.look, rfl, rfl, R2.pair, rfl, _, rfl, r.look, lk, acc.map (·.1), rfl, R2.name, hL, ?_⟩
        refine ⟨_, rfl, rfl, _, rfl, ?_⟩
        cases hw : chkNew r.look (acc.map (·.1)) with
        | some er =>
          have ne : ¬ (V.str (faultW r.look (acc.map (·.1))) = V.str "") := fun q => by
            have := fault_none.mp (V.str.inj q)
            rw [hw] at this
            cases this
          rw [decide_eq_false ne]
          have hce : initRows ls (rows.map RowIn.dat) [] = .error er := by rw [← hc, initRows, hw]
          have hwe : faultW r.look (acc.map (·.1)) = (erw er).1 ∧ (erw er).2 = r.look := ⟨by unfold faultW; rw [hw], chkNew_val hw⟩
          refine iteT ⟨_, rfl, _, rfl, r.t, _, 0, r.look, rfl, rfl, R2.pair, rfl, by show 2 ≤ sizeLine; decide, fun t ht => ?_⟩
          refine k _ _ (s3.trans (Same.upd_new ht)) ?_
          rw [hT, hce]
          refine ⟨t, rfl, ?_⟩
          rw [upd_same, hwe.1, hwe.2]
        | none =>
          have e : faultW r.look (acc.map (·.1)) = "" := fault_none.mpr hw
          rw [e]
          refine iteNS rfl ?_
          obtain ⟨z, ez, hz, hza⟩ := chkNew_none hw
          refine ⟨_, rfl, .inl ⟨rfl, _, SqL.of hL⟩, _, rfl, r.t, _, 0, r.look, rfl, rfl, R2.pair, rfl, lk, _, _, rfl, rfl, hL, ?_, ?_⟩
          · rw [List.length_map, List.length_map]
            exact small1000 (by omega)
          have s4 : Same H (upd H3 lk (.lst ((acc.map (·.1)).map V.str ++ [r.look]))) := fun c o h => by
            rw [upd_ne (ne_of_none h hlk0)]; exact s3 c o h
          generalize hH4 : upd H3 lk (.lst ((acc.map (·.1)).map V.str ++ [r.look])) = H4 at s4
          have hL4 : H4 lk = some (.lst ((acc.map (·.1)).map V.str ++ [r.look])) := by rw [← hH4, upd_same]
          refine ⟨Nat.zero_le _, fun u hu => ?_⟩
          have hu' : H4 u = none := hu
          have s5 : Same H (upd H4 u (.lst [])) := s4.trans (Same.upd_new hu')
          have nlu : lk ≠ u := ne_of_none hL4 hu'
          have hu0 : H u = none := s4.free hu'
          refine ⟨_, rfl, r.t, _, 1, .ref r.s, rfl, rfl, (R.of s5).pair, rfl, r.s, rfl, ⟨_, (R.of s5).lst⟩, for_it (walk_list (K := K) (a := r.s) (xs := r.xs)) (fun j σ H' => ∃ (x7 : Option V) (prev : List Str),
              σ = [some (.ref a), some (.ref b), some .non, some (.ref lk), some (.ref r.t), some (.str ""), some (.ref u), x7] ∧ H' lk = some (.lst ((acc.map (·.1)).map V.str ++ [r.look])) ∧ H' u = some (.lst (prev.map V.str)) ∧ Same H H' ∧
              r.xs.take j = prev.map V.str ∧ chkShown (r.xs.drop j) ls prev = chkShown r.xs ls [])
            ⟨x7, [], rfl, by rw [upd_ne nlu]; exact hL4, upd_same, s5, rfl, rfl⟩ (fun j σ H' _ ⟨_, _, _, _, _, s6, _⟩ => (R.of s6).lst) ?_ ?_⟩
          · rintro j y σ H5 H6 hj ⟨x7', prev, rfl, hL6, hu6, s6, ht, hcs⟩ ⟨rfl, hy⟩
            have hy2 : r.xs[j]? = some y := hy
            have hdj : r.xs.drop j = y :: r.xs.drop (j + 1) := by
              rw [List.drop_eq_getElem_cons hj]
              rw [(List.getElem?_eq_some_iff.mp hy2).2]
            rw [hdj] at hcs
            have hyD := (hxs y (List.mem_of_getElem? hy2)).of s6
            obtain ⟨d, dp, dc, dd, dany⟩ := hyD.dat K
            refine ⟨_, rfl, _, rfl, d, ls.map PyData.str, dp, .lst (by rw [← hls]; exact Same.seq s6 ha) (dpAll_strs ls), shaped_of dc dd, shaped_strs fun z hz => valid_can (hval z hz), _, rfl, ?_⟩
            rw [dany ls]
            cases hk : knows y ls with
            | false =>
              have hce : initRows ls (rows.map RowIn.dat) [] = .error (.unk y) := by
                rw [← hc, initRows, hw]
                have q : chkShown r.xs ls [] = some (.unk y) := by rw [← hcs, chkShown, if_neg (by rw [hk]; decide)]
                simp only [q]
              refine iteT ⟨_, rfl, by show 2 ≤ sizeLine; decide, fun t ht => ?_⟩
              refine k _ _ (s6.trans (Same.upd_new ht)) ?_
              rw [hT, hce]
              exact ⟨t, rfl, upd_same⟩
            | true =>
              refine iteF ?_
              obtain ⟨zy, rfl, hzy⟩ := knows_str hk
              refine ⟨_, rfl, _, rfl, u, _, rfl, .inl (SqL.of hu6), rfl, flat_strs prev, _, rfl, ?_⟩
              show if (inV (.str zy) (prev.map V.str)) = true then _ else _
              rw [inV_str]
              by_cases hm : zy ∈ prev
              · rw [decide_eq_true hm]
                have hce : initRows ls (rows.map RowIn.dat) [] = .error (.dup (.str zy)) := by
                  rw [← hc, initRows, hw]
                  have q : chkShown r.xs ls [] = some (.dup (.str zy)) := by rw [← hcs, chkShown, if_pos hk, if_pos (show strOf (.str zy) ∈ prev from hm)]
                  simp only [q]
                refine iteT ⟨_, rfl, by show 2 ≤ sizeLine; decide, fun t ht => ?_⟩
                refine k _ _ (s6.trans (Same.upd_new ht)) ?_
                rw [hT, hce]
                exact ⟨t, rfl, upd_same⟩
              · rw [decide_eq_false hm]
                refine iteF ⟨_, rfl, .inl ⟨rfl, _, SqL.of hu6⟩, _, rfl, u, _, _, rfl, rfl, hu6, ?_, ?_⟩
                · have q := congrArg List.length ht
                  rw [List.length_take, List.length_map] at q
                  have := R.len
                  rw [List.length_map]
                  exact small1000 (by omega)
                · refine ⟨_, prev ++ [zy], rfl, by rw [upd_ne nlu]; exact hL6, by rw [upd_same, List.map_append]; rfl, fun c o h => ?_, ?_, ?_⟩
                  · rw [upd_ne (ne_of_none h hu0)]; exact s6 c o h
                  · rw [List.take_succ, ht, hy2, List.map_append]
                    rfl
                  · rw [← hcs, chkShown, if_pos hk, if_neg (show ¬ strOf (.str zy) ∈ prev from hm)]
                    rfl
          · rintro σ H5 ⟨x7', prev, rfl, hL6, hu6, s6, ht, hcs⟩
            rw [List.drop_length] at hcs
            refine ⟨_, _, _, x7', acc ++ [(z, chosen ls (r.xs.map strOf))], rfl, ?_, s6, ?_, ?_⟩
            · rw [hL6, ez]
              simp
            · rw [← hc, initRows, hw]
              simp only [← hcs, chkShown]
              rw [ez]
              rfl
            · rw [List.length_append]
              simp
              omega
      · rintro σ H2 ⟨x4, x5, x6, x7, acc, rfl, hL, s3, hc, hal⟩
        have hc' : initRows ls (rows.map RowIn.dat) [] = .ok acc := by
          rw [← hc, List.drop_eq_nil_of_le (by simp)]
          rfl
        refine k H2 .non s3 ?_
        rw [hT, hc']
        rfl
end
end Dl

namespace Dl
open PySem PySem.Spec PyProof.Rows L2
theorem int_nd {i j : Int} (h : i ≠ j) : decide (V.int i = V.int j) = false := decide_eq_false fun q => h (V.int.inj q)
theorem int_yd {i : Int} : decide (V.int i = V.int i) = true := decide_eq_true rfl
theorem iteY {c : Bool} {A B : Prop} (e : c = true) (h : A) : if c = true then A else B := by rw [if_pos e]; exact h
theorem iteZ {c : Bool} {A B : Prop} (e : c = false) (h : B) : if c = true then A else B := by rw [if_neg (by rw [e]; decide)]; exact h
theorem with_ne : ¬ (("with_look" : Str) = "lamps") ∧ ¬ (("with_look" : Str) = "_shown") ∧ ¬ (("with_look" : Str) = "looks") := by decide +kernel
/-- values that are names, as data -/
theorem nmd_list (K : PySem.W.Frag) {H : Hp} : ∀ {xs : List V}, (∀ v ∈ xs, NmD H v) → ∃ ds, DpAll K H xs ds ∧ PyData.canLayAll0 ds = true ∧ PyData.depthAll ds ≤ 1 ∧ ds.length = xs.length
  | [], _ => ⟨[], .nil, by simp [PyData.canLayAll0], by simp [PyData.depthAll], rfl⟩
  | v :: r, h => by
    obtain ⟨ds, p, c, d, e⟩ := nmd_list K (xs := r) fun y hy => h y (List.mem_cons_of_mem _ hy)
    obtain ⟨dv, pv, cv, dpv, _⟩ := (h v (List.mem_cons_self ..)).dat K
    refine ⟨dv :: ds, .cons pv p, ?_, ?_, by simp [e]⟩
    · rw [PyData.canLayAll0, cv, c]; rfl
    · rw [PyData.depthAll]; omega
theorem shaped_listn {ds : List PyData} (h : PyData.canLayAll0 ds = true) (d : PyData.depthAll ds ≤ 3) : SeqAt.shaped (.list ds) = true := by
  unfold SeqAt.shaped
  rw [PyData.canLay0, h, Bool.true_and, PyData.depth]
  exact decide_eq_true (by omega)
theorem eqv_empty (ds : List PyData) : PyData.eqv (.list ds) (.list []) = decide (ds.length = 0) := by
  cases ds <;> simp [PyData.eqv, PyData.eqvAll]
section
variable {P : Program} {w : World} {K : PySem.W.Frag} {mg : Str → Option Value} {base : Heap} {C : Cs} {CT : Addr}
theorem with_any {H : Hp} {p : Addr} {ls : List Str} {rs : List (Str × List Str)} {nm : V} {Q : VK} {E : XK} (xs : List V) (hT : TableAt CT H p ls rs) (ok : TabOk ls rs) (hn : NmOk H nm) (hx : ∀ v ∈ xs, NmOk H v) (h3 : xs.length ≤ 900)
    (k : ∀ ls' rs', moreT ls rs nm xs = .ok (ls', rs') → ∀ H' x, Same H H' → H x = none → TableAt CT H' x ls' rs' → Q (.ref x) H') (kx : ∀ e, moreT ls rs nm xs = .error e → Out C H E e) : starSp 2 (spWithLook K CT C) (.ref p :: nm :: xs) H Q E :=
  ⟨[.ref p, nm], xs, rfl, rfl, Nat.le_of_lt (small1000 (by omega)), fun q hq => by
    have s := Same.upd_new hq (o := .tup xs)
    exact ⟨p, q, ls, rs, nm, xs, rfl, hT.of s, ok, hn.of s, upd_same, fun v hv => (hx v hv).of s, by omega, fun ls' rs' e H' x s' hx' t => k ls' rs' (by rw [← init_more ok]; exact e) H' x (s.trans s') (s.free hx') t, fun e he => Out.of s (kx e (by rw [← init_more ok]; exact he))⟩⟩
theorem more_ok {ls ls' : List Str} {rs rs' : List (Str × List Str)} {nm : V} {xs : List V} (ok : TabOk ls rs) (h : moreT ls rs nm xs = .ok (ls', rs')) : ∃ z, nm = .str z ∧ validN z = true ∧ ls' = ls ∧ rs' = rs ++ [(z, chosen ls (xs.map strOf))] ∧ TabOk ls' rs' := by
  unfold moreT at h
  split at h
  · cases h
  rename_i few
  cases e1 : chkNew nm (rs.map (·.1)) with
  | some e => rw [e1] at h; cases h
  | none =>
    rw [e1] at h
    simp only at h
    cases e2 : chkShown xs ls [] with
    | some e => rw [e2] at h; cases h
    | none =>
      rw [e2] at h
      obtain ⟨z, rfl, hz, hn⟩ := chkNew_none e1
      cases h
      refine ⟨z, rfl, hz, rfl, rfl, ok.lnd, ok.lval, ok.lfew, ?_, fun x hx => ?_, ?_, fun x hx => ?_⟩
      · rw [List.map_append, List.nodup_append]
        refine ⟨ok.knd, by simp, fun a ha c hc => ?_⟩
        obtain rfl := List.mem_singleton.mp hc
        exact fun e => hn (by rw [e] at ha; exact ha)
      · rcases List.mem_append.mp hx with h | h
        · exact ok.kval x h
        · obtain rfl := List.mem_singleton.mp h
          exact hz
      · rw [List.length_append]
        simp only [List.length_cons, List.length_nil]
        omega
      · rcases List.mem_append.mp hx with h | h
        · exact ok.sub x h
        · obtain rfl := List.mem_singleton.mp h
          exact chosen_is_sub _ _
def spWidened (CT : Addr) (C : Cs) : Sp := fun vs H Q E => ∃ (p g : Addr) (nm : V) (ls : List Str) (rs : List (Str × List Str)) (xs : List V), vs = [.ref p, nm, .ref g] ∧ TableAt CT H p ls rs ∧ TabOk ls rs ∧ NmD H nm ∧ H g = some (.lst xs) ∧ (∀ v ∈ xs, NmD H v) ∧ xs.length ≤ 3 ∧
  (∀ ls' rs', moreT ls rs nm xs = .ok (ls', rs') → ∀ H' x, Same H H' → H x = none → TableAt CT H' x ls' rs' → Q (.ref x) H') ∧ ∀ e, moreT ls rs nm xs = .error e → Out C H E e
theorem scWidened : FnScope ["_law_table", "_law_name_here", "_law_shown"] ["_law_table", "_law_name_here", "_law_shown"] (defScope sLawWidened) := ⟨rfl, rfl, rfl, by decide +kernel, rfl, by decide +kernel, by decide +kernel⟩
theorem ok_widened {f : Addr} {fd : FuncData} (F : Fun K "_law_widened" "_law_widened" sLawWidened f fd) (mlen : mg "len" = none) (cl : Cls K CT) (gM : ∃ fM, Meth K CT "with_look" fM ∧ FnR P w K mg base (L2.CX P w) 10 fM (starSp 2 (spWithLook K CT C))) : FnOk P w K mg base (L2.CX P w) 11 f fd ["_law_table", "_law_name_here", "_law_shown"] (spWidened CT C) := by
  obtain ⟨fM, mM, GM⟩ := gM
  refine F.okX scWidened (fun vs H Q E h => ?_) (fun cdv A outer s H vs Q E hr h => ?_)
  · obtain ⟨p, g, nm, ls, rs, xs, rfl, _⟩ := h
    rfl
  · obtain ⟨p, g, nm, ls, rs, xs, rfl, hT, ok, hn, hg, hx, h3, k, kx⟩ := h
    have hr10 : Room 10 _ := hr
    refine ⟨_, (pss_cons (ps_if (pt_cmpR (op_eqD hr.units) (pv 2) (pe_lst pa_nil) (nomark _)) (pss_one (ps_ret (pe_methR (pv 0) cl mM GM hr10 (passes_call (takes_of rfl rfl rfl rfl) (fun _ _ _ _ h => h)) (pa_cons (pv 1) pa_nil)))) pss_nil)
        (pss_cons (ps_if (pt_cmpR op_eq (pe_callB call_len_seq (by rfl) mlen PySem.boot_len (pa_cons (pv 2) pa_nil)) pe_int (nomark _)) (pss_one (ps_ret (pe_methR (pv 0) cl mM GM hr10 (passes_call (takes_of rfl rfl rfl rfl) (fun _ _ _ _ h => h)) (pa_cons (pv 1) (pa_cons (pe_ix ix_list (pv 2) pe_int (fun _ _ => rfl)) pa_nil))))) pss_nil)
        (pss_cons (ps_if (pt_cmpR op_eq (pe_callB call_len_seq (by rfl) mlen PySem.boot_len (pa_cons (pv 2) pa_nil)) pe_int (nomark _)) (pss_one (ps_ret (pe_methR (pv 0) cl mM GM hr10 (passes_call (takes_of rfl rfl rfl rfl) (fun _ _ _ _ h => h)) (pa_cons (pv 1) (pa_cons (pe_ix ix_list (pv 2) pe_int (fun _ _ => rfl)) (pa_cons (pe_ix ix_list (pv 2) pe_int (fun _ _ => rfl)) pa_nil)))))) pss_nil)
        (pss_one (ps_ret (pe_methR (pv 0) cl mM GM hr10 (passes_call (takes_of rfl rfl rfl rfl) (fun _ _ _ _ h => h)) (pa_cons (pv 1) (pa_cons (pe_ix ix_list (pv 2) pe_int (fun _ _ => rfl)) (pa_cons (pe_ix ix_list (pv 2) pe_int (fun _ _ => rfl)) (pa_cons (pe_ix ix_list (pv 2) pe_int (fun _ _ => rfl)) pa_nil)))))))))), ?_⟩
    refine ⟨_, rfl, Nat.zero_le _, fun e1 he1 => ?_⟩
    have s1 : Same H (upd H e1 (.lst [])) := Same.upd_new he1
    obtain ⟨ds, dp, dc, dd, dl⟩ := nmd_list K fun v hv => (hx v hv).of s1
    refine ⟨.list ds, .list [], .lst (SqL.of (s1 _ _ hg)) dp, .lst (SqL.of upd_same) .nil, shaped_listn dc (by omega), shaped_listn (by simp [PyData.canLayAll0]) (by simp [PyData.depthAll]), _, rfl, ?_⟩
    rw [eqv_empty, dl]
    have hT1 : TableAt CT (upd H e1 (.lst [])) p ls rs := hT.of s1
    have hg1 := s1 _ _ hg
    have hn1 := (hn.of s1).ok
    have hx1 : ∀ v ∈ xs, NmOk (upd H e1 (.lst [])) v := fun v hv => ((hx v hv).of s1).ok
    generalize upd H e1 (.lst []) = H1 at *
    clear dp
    have dt := hT1
    obtain ⟨dx, lt, sd, kt, kvs, hp, _⟩ := dt
    have fin : starSp 2 (spWithLook K CT C) (.ref p :: nm :: xs) H1 Q E := with_any xs hT1 ok hn1 hx1 (by omega) (fun ls' rs' e H' x s' h0 t => k ls' rs' e H' x (s1.trans s') (s1.free h0) t) fun e he => Out.of s1 (kx e he)
    match xs, h3, hg1, fin with
    | [], _, hg1, fin => exact iteY rfl ⟨_, rfl, p, dx, _, rfl, hp, pf3_no _ _ _ with_ne.1 with_ne.2.1 with_ne.2.2, _, rfl, fin⟩
    | [a], _, hg1, fin =>
      refine iteZ rfl ⟨_, rfl, g, _, rfl, .inl (SqL.of hg1), rfl, _, rfl, iteY int_yd ?_⟩
      exact ⟨_, rfl, p, dx, _, rfl, hp, pf3_no _ _ _ with_ne.1 with_ne.2.1 with_ne.2.2, _, rfl, _, rfl, g, _, 0, a, rfl, rfl, SqL.of hg1, rfl, fin⟩
    | [a, b], _, hg1, fin =>
      refine iteZ rfl ⟨_, rfl, g, _, rfl, .inl (SqL.of hg1), rfl, _, rfl, iteZ (int_nd (show ((2 : Nat) : Int) ≠ 1 by decide)) ?_⟩
      refine ⟨_, rfl, g, _, rfl, .inl (SqL.of hg1), rfl, _, rfl, iteY int_yd ?_⟩
      exact ⟨_, rfl, p, dx, _, rfl, hp, pf3_no _ _ _ with_ne.1 with_ne.2.1 with_ne.2.2, _, rfl, _, rfl, g, _, 0, a, rfl, rfl, SqL.of hg1, rfl, _, rfl, g, _, 1, b, rfl, rfl, SqL.of hg1, rfl, fin⟩
    | [a, b, c], _, hg1, fin =>
      refine iteZ rfl ⟨_, rfl, g, _, rfl, .inl (SqL.of hg1), rfl, _, rfl, iteZ (int_nd (show ((3 : Nat) : Int) ≠ 1 by decide)) ?_⟩
      refine ⟨_, rfl, g, _, rfl, .inl (SqL.of hg1), rfl, _, rfl, iteZ (int_nd (show ((3 : Nat) : Int) ≠ 2 by decide)) ?_⟩
      exact ⟨_, rfl, p, dx, _, rfl, hp, pf3_no _ _ _ with_ne.1 with_ne.2.1 with_ne.2.2, _, rfl, _, rfl, g, _, 0, a, rfl, rfl, SqL.of hg1, rfl, _, rfl, g, _, 1, b, rfl, rfl, SqL.of hg1, rfl, _, rfl, g, _, 2, c, rfl, rfl, SqL.of hg1, rfl, fin⟩
    | a :: b :: c :: d :: r, h, _, _ => exact absurd h (by simp)
end
end Dl

namespace Dl
open PySem PySem.Spec PyProof.Rows L2
/-- what the clauses ask of the classes of the errors -/
structure Exm (K : PySem.W.Frag) (C : Cs) : Prop where
  mm : PySem.W.exmOne K (.ref C.many) (.ref C.many) = some true
  im : PySem.W.exmOne K (.ref C.inv) (.ref C.many) = some false
  ii : PySem.W.exmOne K (.ref C.inv) (.ref C.inv) = some true
  dm : PySem.W.exmOne K (.ref C.dup) (.ref C.many) = some false
  di : PySem.W.exmOne K (.ref C.dup) (.ref C.inv) = some false
  dd : PySem.W.exmOne K (.ref C.dup) (.ref C.dup) = some true
  um : PySem.W.exmOne K (.ref C.unk) (.ref C.many) = some false
  ui : PySem.W.exmOne K (.ref C.unk) (.ref C.inv) = some false
  ud : PySem.W.exmOne K (.ref C.unk) (.ref C.dup) = some false
  uu : PySem.W.exmOne K (.ref C.unk) (.ref C.unk) = some true
  xm : XfC K C.many
  xi : XfC K C.inv
  xd : XfC K C.dup
  xu : XfC K C.unk
/-- the suite of a clause: a pair of a word and the error's field, the error at slot i -/
def sayS (C : Addr) (w f : Str) (i : Nat) : Suite := fun a cls d => tRet (tTup (tCons (tC (.str w)) (tCons (tXf a cls d C f (tVar i)) tNil)))
def sayAll (C : Cs) (i : Nat) : List (Value × Suite) := [(.ref C.many, sayS C.many "many" "limit" i), (.ref C.inv, sayS C.inv "invalid" "name" i), (.ref C.dup, sayS C.dup "duplicate" "name" i), (.ref C.unk, sayS C.unk "unknown" "name" i)]
/-- any of the errors is told -/
theorem say_out {K : PySem.W.Frag} {C : Cs} (X : Exm K C) {i : Nat} {out : WX} {D : Ends} {τ : L2.St} {H : Hp} {er : Er} (hi : i < τ.length) (k : ∀ H' t, Same H H' → H t = none → H' t = some (.tup [.str (erw er).1, (erw er).2]) → D.rt (.ref t) H') :
    Out C H (WE (wAll K i out D (sayAll C i)) τ) er := by
  have at_ : ∀ a : Addr, (τ.set i (some (V.ref a)))[i]? = some (some (V.ref a)) := fun a => by simp [hi]
  have fin : ∀ (c : Addr) (f : Str) (w : Str) (v : V), (w, v) = erw er → ∀ d H', Same H H' → H d = none → H' d = some (.xd [(f, v)]) → ∀ a : Addr, sayS c w f i a (.ref c) (some d) (unE i D) (τ.set i (some (.ref a))) H' := fun c f w v e d H' s' nd hd a => by
    refine ⟨_, at_ a, rfl, rfl, d, _, v, rfl, hd, ?_, by show 2 ≤ sizeLine; decide, fun t ht => ?_⟩
    · show List.lookup f [(f, v)] = some v
      rw [List.lookup_cons, beq_self_eq_true]
    · refine k _ t (s'.trans (Same.upd_new ht)) (s'.free ht) ?_
      rw [upd_same, ← e]
  cases er with
  | many => exact fun d H' s' nd hd => ⟨true, X.mm, fun _ a _ => fin C.many "limit" "many" (.int 24) rfl d H' s' nd hd a, fun q => Bool.noConfusion q⟩
  | inv v => exact fun d H' s' nd hd => ⟨false, X.im, fun q => Bool.noConfusion q, fun _ => ⟨true, X.ii, fun _ a _ => fin C.inv "name" "invalid" v rfl d H' s' nd hd a, fun q => Bool.noConfusion q⟩⟩
  | dup v => exact fun d H' s' nd hd => ⟨false, X.dm, fun q => Bool.noConfusion q, fun _ => ⟨false, X.di, fun q => Bool.noConfusion q, fun _ => ⟨true, X.dd, fun _ a _ => fin C.dup "name" "duplicate" v rfl d H' s' nd hd a, fun q => Bool.noConfusion q⟩⟩⟩
  | unk v => exact fun d H' s' nd hd => ⟨false, X.um, fun q => Bool.noConfusion q, fun _ => ⟨false, X.ui, fun q => Bool.noConfusion q, fun _ => ⟨false, X.ud, fun q => Bool.noConfusion q, fun _ => ⟨true, X.uu, fun _ a _ => fin C.unk "name" "unknown" v rfl d H' s' nd hd a, fun q => Bool.noConfusion q⟩⟩⟩⟩
section
variable {P : Program} {w : World} {K : PySem.W.Frag} {mg : Str → Option Value} {base : Heap} {C : Cs} {CT : Addr}
def spTold (CT : Addr) : Sp := fun vs H Q _ => ∃ (p g : Addr) (nm : V) (ls : List Str) (rs : List (Str × List Str)) (xs : List V), vs = [.ref p, nm, .ref g] ∧ TableAt CT H p ls rs ∧ TabOk ls rs ∧ NmD H nm ∧ H g = some (.lst xs) ∧ (∀ v ∈ xs, NmD H v) ∧ xs.length ≤ 3 ∧
  (∀ ls' rs', moreT ls rs nm xs = .ok (ls', rs') → ∀ H' (t l : Addr) (rows : List RowIn), Same H H' → H' t = some (.tup [.str "rows", .ref l]) → H' l = some (.lst (rows.map fun r => V.ref r.t)) → (∀ r ∈ rows, RowT H' r) → rows.map RowIn.dat = rs'.map rdat → Q (.ref t) H') ∧
  ∀ er, moreT ls rs nm xs = .error er → ∀ H' t, Same H H' → H t = none → H' t = some (.tup [.str (erw er).1, (erw er).2]) → Q (.ref t) H'
theorem scTold : FnScope ["_law_table", "_law_name_here", "_law_shown", "_law_wider", "e"] ["_law_table", "_law_name_here", "_law_shown"] (defScope sLawTold) := ⟨rfl, rfl, rfl, by decide +kernel, rfl, by decide +kernel, by decide +kernel⟩
theorem ok_told {f : Addr} {fd : FuncData} (F : Fun K "_law_told" "_law_told" sLawTold f fd) (cl : Cls K CT) (EX : Exm K C) (xI : Ex P w K mg base "InvalidName" "name" C.inv) (xD : Ex P w K mg base "DuplicateName" "name" C.dup) (xU : Ex P w K mg base "UnknownName" "name" C.unk) (xM : Ex P w K mg base "TooMany" "limit" C.many)
    (gR : ∃ fR fdR, Meth K CT "rows" fR ∧ Binds K fdR ["self"] [] ∧ FnOk P w K mg base CX0 1 fR fdR ["self"] (spTRows K CT)) (gW : Dfn P w K mg base (L2.CX P w) 11 "_law_widened" ["_law_table", "_law_name_here", "_law_shown"] (spWidened CT C)) : FnOk P w K mg base CX0 12 f fd ["_law_table", "_law_name_here", "_law_shown"] (spTold CT) := by
  obtain ⟨_, _, TI, _, _⟩ := xI
  obtain ⟨_, _, TD, _, _⟩ := xD
  obtain ⟨_, _, TU, _, _⟩ := xU
  obtain ⟨_, _, TM, _, _⟩ := xM
  obtain ⟨fR, fdR, mR, bR, GR⟩ := gR
  obtain ⟨fW, dW, mWid, kWid, bWid, GWid⟩ := gW
  refine F.ok scTold (fun vs H Q E h => ?_) (fun cdv A outer s H vs Q E hr h => ?_)
  · obtain ⟨p, g, nm, ls, rs, xs, rfl, _⟩ := h
    rfl
  · obtain ⟨p, g, nm, ls, rs, xs, rfl, hT, ok, hn, hg, hx, h3, k, kx⟩ := h
    have hr11 : Room 11 _ := hr
    have hr1 : Room 1 _ := hr.mono (by decide)
    refine ⟨_, pss_cons (ps_try_all (i := 4) (l := sayAll C 4) (tb := fun W => tAsg (tCallS (spWidened CT C) (WE W) (tCons (tVar 0) (tCons (tVar 1) (tCons (tVar 2) tNil)))) (gName 3)) (out := fun _ _ _ _ => False) rfl rfl scTold.nd rfl rfl takes0
          (fun W pn xe tk _ => pss_one (ps_set (i := 3) scTold.nd rfl (Or.inl rfl) (by exact (pe_callS GWid hr11 (by rfl) mWid kWid bWid (fun σ => passAt tk σ) (by exact (pa_cons (pv 0) (pa_cons (pv 1) (pa_cons (pv 2) pa_nil))))))))
          (.more ⟨rfl, by decide, Or.inl TM.gC⟩ (fun a oe cls d pn hz hf => (pss_one (ps_ret (pe_tup (pa_cons pe_str (pa_cons (pe_xf EX.xm TM.no hz hf (pv 4)) pa_nil))))))
            (.more ⟨rfl, by decide, Or.inl TI.gC⟩ (fun a oe cls d pn hz hf => (pss_one (ps_ret (pe_tup (pa_cons pe_str (pa_cons (pe_xf EX.xi TI.no hz hf (pv 4)) pa_nil))))))
            (.more ⟨rfl, by decide, Or.inl TD.gC⟩ (fun a oe cls d pn hz hf => (pss_one (ps_ret (pe_tup (pa_cons pe_str (pa_cons (pe_xf EX.xd TD.no hz hf (pv 4)) pa_nil))))))
            (.more ⟨rfl, by decide, Or.inl TU.gC⟩ (fun a oe cls d pn hz hf => (pss_one (ps_ret (pe_tup (pa_cons pe_str (pa_cons (pe_xf EX.xu TU.no hz hf (pv 4)) pa_nil)))))) .done)))))
      (pss_one (ps_ret (pe_tup (pa_cons pe_str (pa_cons (pe_meth0 (pv 3) cl mR GR hr1 bR .nil pass0) pa_nil))))), ?_⟩
    refine ⟨_, rfl, _, rfl, _, rfl, p, g, nm, ls, rs, xs, rfl, hT, ok, hn, hg, hx, h3, fun ls' rs' e H1 x s1 hx1 hT1 => ?_, fun er he => ?_⟩
    · obtain ⟨_, _, _, _, _, ok'⟩ := more_ok ok e
      have hT2 := hT1
      obtain ⟨dx, lt, sd, kt, kvs, hp, _⟩ := hT2
      refine ⟨_, rfl, x, dx, _, rfl, hp, pf3_no _ _ _ rows_ne.1 rows_ne.2.1 rows_ne.2.2, x, ls', rs', rfl, hT1, ok', fun H2 l rows s2 hl hl2 hrt hdat => ⟨by show 2 ≤ sizeLine; decide, fun t ht => ?_⟩⟩
      have s3 := Same.upd_new ht (o := .tup [.str "rows", .ref l])
      exact k ls' rs' e _ t l rows (s1.trans (s2.trans s3)) upd_same (s3 _ _ hl2) (fun r hr => (hrt r hr).of s3) hdat
    · exact say_out EX (show 4 < 5 by decide) fun H' t s' h0 ht => kx er he H' t s' h0 ht
end
end Dl

namespace Dl
open PySem PySem.Spec PyProof.Rows L2
/-! ### drawn rows: a list of pairs of a look and a list of some of the lamps -/
def BagIn (H : Hp) (b : Addr) : Prop := ∃ L : List Int, H b = some (.lst (L.map V.int)) ∧ BagOk L
theorem BagIn.lst {H : Hp} {b : Addr} (h : BagIn H b) : ∃ xs, H b = some (.lst xs) := let ⟨L, e, _⟩ := h; ⟨_, e⟩
theorem BagIn.upd {H : Hp} {b : Addr} {L : List Int} (h : BagOk L) : BagIn (upd H b (.lst (L.map V.int))) b := ⟨L, upd_same, h⟩
theorem BagIn.of {H H' : Hp} {b : Addr} (s : Same H H') (h : BagIn H b) : BagIn H' b := let ⟨L, e, o⟩ := h; ⟨L, s _ _ e, o⟩
structure RowD (b : Addr) (lamps : List Str) (H : Hp) (r : RowIn) : Prop where
  look : ∃ k, r.look = .str k
  pair : H r.t = some (.tup [r.look, .ref r.s])
  ns : r.s ≠ b
  lst : H r.s = some (.lst r.xs)
  sub : ∃ sh : List Str, r.xs = sh.map V.str ∧ sh.Sublist lamps
theorem ne_tup_lst {H : Hp} {a c : Addr} {xs ys : List V} (h1 : H a = some (.tup xs)) (h2 : H c = some (.lst ys)) : a ≠ c := fun e => by
  rw [e, h2] at h1; cases h1
theorem RowD.of {b : Addr} {lamps : List Str} {H H' : Hp} {r : RowIn} (hb : ∃ xs, H b = some (.lst xs)) (s : SameB b H H') (h : RowD b lamps H r) : RowD b lamps H' r :=
  ⟨h.look, s _ _ (let ⟨_, e⟩ := hb; ne_tup_lst h.pair e) h.pair, h.ns, s _ _ h.ns h.lst, h.sub⟩
def refsOf (rows : List RowIn) : List V := rows.map fun r => V.ref r.t
/-- the rows stand at R -/
structure RowsD (b : Addr) (lamps ks : List Str) (H : Hp) (R : Addr) (rows : List RowIn) : Prop where
  nR : R ≠ b
  lst : H R = some (.lst (refsOf rows))
  all : ∀ r ∈ rows, RowD b lamps H r
  looks : rows.map (·.look) = ks.map V.str
theorem RowsD.of {b : Addr} {lamps ks : List Str} {H H' : Hp} {R : Addr} {rows : List RowIn} (hb : ∃ xs, H b = some (.lst xs)) (s : SameB b H H') (h : RowsD b lamps ks H R rows) : RowsD b lamps ks H' R rows :=
  ⟨h.nR, s _ _ h.nR h.lst, fun r hr => (h.all r hr).of hb s, h.looks⟩
theorem RowsD.length {b : Addr} {lamps ks : List Str} {H : Hp} {R : Addr} {rows : List RowIn} (h : RowsD b lamps ks H R rows) : rows.length = ks.length := by
  have q := congrArg List.length h.looks
  rw [List.length_map, List.length_map] at q
  exact q
/-- a draw keeps everything but the bag -/
theorem draw_same {b : Addr} {H : Hp} {L : List Int} : SameB b H (upd H b (.lst (L.map V.int))) := SameB.upd
def spRows3 : Sp := fun vs H Q _ => ∃ (b a c : Addr) (ls ks : List Str), vs = [.ref b, .ref a, .ref c] ∧ BagIn H b ∧ a ≠ b ∧ c ≠ b ∧ H a = some (.lst (ls.map V.str)) ∧ H c = some (.lst (ks.map V.str)) ∧ ls.length ≤ 24 ∧ ks.length ≤ 24 ∧
  ∀ (H' : Hp) (R : Addr) (rows : List RowIn), SameB b H H' → BagIn H' b → RowsD b ls ks H' R rows → Q (.ref R) H'
theorem map_at {α β : Type} {l : List α} {f : α → β} {i : Nat} {v : β} (h : (l.map f)[i]? = some v) : ∃ x, l[i]? = some x ∧ v = f x := by
  rw [List.getElem?_map] at h
  cases e : l[i]? with
  | none => rw [e] at h; cases h
  | some x => rw [e] at h; exact ⟨x, rfl, (Option.some.inj h).symm⟩
theorem take_at {α : Type} {l : List α} {i : Nat} {x : α} (h : l[i]? = some x) : l.take (i + 1) = l.take i ++ [x] := by
  rw [List.take_succ, h]
  rfl
theorem sub_short {b : Addr} {lamps : List Str} {H : Hp} {r : RowIn} (h : RowD b lamps H r) (n : Nat) (hn : lamps.length ≤ n) : r.xs.length ≤ n := by
  obtain ⟨sh, e, s⟩ := h.sub
  rw [e, List.length_map]
  exact Nat.le_trans s.length_le hn
theorem cut_drop (xs : List V) (i : Nat) : cutV xs (some (i : Int)) none = xs.drop i := by
  unfold cutV
  rw [HT.sIx_nat, HT.sIx_none]
  by_cases h : i ≤ xs.length
  · rw [Nat.min_eq_left h, List.take_of_length_le (by rw [List.length_drop]; omega)]
  · rw [Nat.min_eq_right (by omega), List.drop_eq_nil_of_le (Nat.le_refl _), List.drop_eq_nil_of_le (by omega)]
    simp
/-- the data of rows -/
theorem RowD.dat (K : PySem.W.Frag) {b : Addr} {ls : List Str} {H : Hp} {r : RowIn} (h : RowD b ls H r) (hl : ∀ z ∈ ls, canS z) (hk : ∀ k, r.look = .str k → canS k) : ∃ d, Dp K H (.ref r.t) d ∧ PyData.canLay0 d = true ∧ d.depth ≤ 2 := by
  obtain ⟨k, ek⟩ := h.look
  obtain ⟨sh, es, hs⟩ := h.sub
  have hsh : ∀ z ∈ sh, PyData.canLay0 (.str z) = true := fun z hz => hl z (hs.subset hz)
  refine ⟨.tuple [.str k, .list (sh.map PyData.str)], .tup (SqT.of h.pair) (.cons (by rw [ek]; exact .str k) (.cons (.lst (SqL.of h.lst) (by rw [es]; exact dpAll_strs sh)) .nil)), ?_, ?_⟩
  · rw [PyData.canLay0, PyData.canLayAll0, PyData.canLayAll0, PyData.canLayAll0, show PyData.canLay0 (.str k) = true from hk k ek, PyData.canLay0, canAll_strs hsh]
    rfl
  · simp only [PyData.depth, PyData.depthAll, depthAll_strs]
    decide
theorem rows_dat (K : PySem.W.Frag) {b : Addr} {ls : List Str} {H : Hp} (hl : ∀ z ∈ ls, canS z) : ∀ {rows : List RowIn}, (∀ r ∈ rows, RowD b ls H r ∧ ∀ k, r.look = .str k → canS k) →
    ∃ ds, DpAll K H (refsOf rows) ds ∧ ds.length = rows.length ∧ PyData.canLayAll0 ds = true ∧ PyData.depthAll ds ≤ 2
  | [], _ => ⟨[], .nil, rfl, by simp [PyData.canLayAll0], by simp [PyData.depthAll]⟩
  | r :: q, h => by
    obtain ⟨ds, h1, h2, h3, h4⟩ := rows_dat K hl (rows := q) fun x hx => h x (List.mem_cons_of_mem _ hx)
    obtain ⟨R, hk⟩ := h r (List.mem_cons_self ..)
    obtain ⟨d, d1, d2, d3⟩ := R.dat K hl hk
    refine ⟨d :: ds, .cons d1 h1, by rw [List.length_cons, List.length_cons, h2], ?_, ?_⟩
    · rw [PyData.canLayAll0, d2, h3]; rfl
    · rw [PyData.depthAll]; omega
theorem shaped_list {ds : List PyData} (h1 : PyData.canLayAll0 ds = true) (h2 : PyData.depthAll ds ≤ 2) : SeqAt.shaped (.list ds) = true := by
  unfold SeqAt.shaped
  rw [PyData.canLay0, h1, Bool.true_and, PyData.depth]
  exact decide_eq_true (by omega)
theorem eqv_nil {ds : List PyData} : PyData.eqv (.list ds) (.list []) = decide (ds = []) := by
  cases ds with
  | nil => simp [PyData.eqv, PyData.eqvAll]
  | cons _ _ => simp [PyData.eqv, PyData.eqvAll]
theorem looks_can {b : Addr} {ls ks : List Str} {H : Hp} {R : Addr} {rows : List RowIn} (h : RowsD b ls ks H R rows) (hk : ∀ z ∈ ks, canS z) {r : RowIn} (hr : r ∈ rows) : ∀ k, r.look = .str k → canS k := fun k e => by
  have m : r.look ∈ ks.map V.str := by rw [← h.looks]; exact List.mem_map_of_mem hr
  obtain ⟨z, hz, ez⟩ := List.mem_map.mp m
  rw [e] at ez
  cases ez
  exact hk _ hz
/-- a row as it stands, whatever it holds -/
structure RowG (H : Hp) (r : RowIn) : Prop where
  pair : H r.t = some (.tup [r.look, .ref r.s])
  lst : H r.s = some (.lst r.xs)
theorem RowG.of {H H' : Hp} {r : RowIn} (s : Same H H') (h : RowG H r) : RowG H' r := ⟨s _ _ h.pair, s _ _ h.lst⟩
theorem RowD.g {b : Addr} {ls : List Str} {H : Hp} {r : RowIn} (h : RowD b ls H r) : RowG H r := ⟨h.pair, h.lst⟩
def turned (way : Int) (r : RowIn) : V × List V := (r.look, if way = 1 then r.xs.reverse else r.xs)
theorem row_of {rows : List RowIn} {rs : List (Str × List Str)} (hdat : rows.map RowIn.dat = rs.map rdat) {i : Nat} {v : V} (hv : (refsOf rows)[i]? = some v) : ∃ r, ∃ h : i < rs.length, r ∈ rows ∧ v = .ref r.t ∧ r.look = .str rs[i].1 ∧ r.xs = rs[i].2.map V.str ∧ rs[i]? = some rs[i] := by
  obtain ⟨r, hr, rfl⟩ := map_at (show (rows.map fun r => V.ref r.t)[i]? = some v from hv)
  have hi : i < rows.length := (List.getElem?_eq_some_iff.mp hr).1
  have hrl : rows.length = rs.length := by
    have e := congrArg List.length hdat
    rw [List.length_map, List.length_map] at e
    exact e
  have hir : i < rs.length := by omega
  have ed : r.dat = rdat rs[i] := by
    have e := congrArg (fun l => l[i]?) hdat
    simp only [List.getElem?_map, hr, List.getElem?_eq_getElem hir, Option.map_some] at e
    exact Option.some.inj e
  exact ⟨r, hir, List.mem_of_getElem? hr, rfl, congrArg Prod.fst ed, congrArg Prod.snd ed, List.getElem?_eq_getElem hir⟩
end Dl

namespace Dl
open PySem PySem.Spec PyProof.Rows L2
/-! ### what the laws over drawn tables share -/
def turnOf (way : Int) (x : Str × List Str) : Str × List Str := (x.1, if way = 1 then x.2.reverse else x.2)
def dataOf (x : Str × List Str) : PyData := .tuple [.str x.1, .list (x.2.map PyData.str)]
theorem rows_rs' {b : Addr} {ls : List Str} {H : Hp} : ∀ {rows : List RowIn} {ks : List Str}, (∀ r ∈ rows, RowD b ls H r) → rows.map (·.look) = ks.map V.str → ∃ rs : List (Str × List Str), rows.map RowIn.dat = rs.map rdat ∧ (rs.map fun x : Str × List Str => x.1) = ks ∧ ∀ x ∈ rs, x.2.Sublist ls
  | [], ks, _, e => by
    cases ks with
    | nil => exact ⟨[], rfl, rfl, fun x h => absurd h (by simp)⟩
    | cons _ _ => cases e
  | r :: q, ks, h, e => by
    cases ks with
    | nil => cases e
    | cons k ks =>
      rw [List.map_cons, List.map_cons] at e
      injection e with e1 e2
      obtain ⟨rs, q1, q2, q3⟩ := rows_rs' (rows := q) (ks := ks) (fun x hx => h x (List.mem_cons_of_mem _ hx)) e2
      obtain ⟨sh, s1, s2⟩ := (h r (List.mem_cons_self ..)).sub
      refine ⟨(k, sh) :: rs, ?_, ?_, fun x hx => ?_⟩
      · rw [List.map_cons, List.map_cons, q1]
        have : RowIn.dat r = rdat (k, sh) := by unfold RowIn.dat rdat; rw [e1, s1]
        rw [this]
      · rw [List.map_cons, q2]
      · rcases List.mem_cons.mp hx with h | h
        · rw [h]; exact s2
        · exact q3 x h
theorem NamesOk.bag {zs : List Str} (ok : NamesOk zs) : ∀ z ∈ zs, canS z := fun z h => valid_can (ok.valid h)
theorem tabok_of {ls ks : List Str} {rs : List (Str × List Str)} (okl : NamesOk ls) (okk : NamesOk ks) (e : (rs.map fun x : Str × List Str => x.1) = ks) (sub : ∀ x ∈ rs, x.2.Sublist ls) : TabOk ls rs :=
  ⟨okl.nd, fun z h => okl.valid h, okl.few, by rw [e]; exact okk.nd, fun x h => okk.valid (by rw [← e]; exact List.mem_map_of_mem h), by rw [← List.length_map (f := fun x : Str × List Str => x.1), e]; exact okk.few, sub⟩
theorem turned_map {rows : List RowIn} {rs : List (Str × List Str)} {way : Int} (e : rows.map RowIn.dat = rs.map rdat) : rows.map (turned way) = (rs.map (turnOf way)).map rdat := by
  induction rows generalizing rs with
  | nil => cases rs with
    | nil => rfl
    | cons _ _ => cases e
  | cons r q ih => cases rs with
    | nil => cases e
    | cons x rs =>
      rw [List.map_cons, List.map_cons] at e
      injection e with e1 e2
      rw [List.map_cons, List.map_cons, List.map_cons, ih e2]
      have h1 : r.look = .str x.1 := congrArg Prod.fst e1
      have h2 : r.xs = x.2.map V.str := congrArg Prod.snd e1
      have : turned way r = rdat (turnOf way x) := by
        unfold turned turnOf rdat
        rw [h1, h2]
        by_cases w : way = 1
        · rw [if_pos w, if_pos w, List.map_reverse]
        · rw [if_neg w, if_neg w]
      rw [this]
theorem chosen_turn {ls : List Str} {x : Str × List Str} {way : Int} (h : x.2.Sublist ls) (nd : ls.Nodup) : chosen ls (turnOf way x).2 = x.2 := by
  unfold turnOf
  by_cases w : way = 1
  · simp only [if_pos w]
    have : chosen ls x.2.reverse = chosen ls x.2 := by
      unfold chosen
      apply List.filter_congr
      intro z _
      simp
    rw [this, chosen_sub h nd]
  · simp only [if_neg w]
    exact chosen_sub h nd
theorem turn_rows {ls : List Str} (lnd : ls.Nodup) (way : Int) : ∀ {xs acc : List (Str × List Str)}, (xs.map (·.1)).Nodup → (∀ x ∈ xs, validN x.1 = true ∧ x.2.Sublist ls ∧ x.1 ∉ acc.map (·.1)) → initRows ls ((xs.map (turnOf way)).map rdat) acc = .ok (acc ++ xs)
  | [], acc, _, _ => by rw [List.map_nil, List.map_nil, initRows, List.append_nil]
  | x :: r, acc, nd, h => by
    obtain ⟨h1, h2, h3⟩ := h x (List.mem_cons_self ..)
    rw [List.map_cons, List.nodup_cons] at nd
    have e1 : chkNew (.str x.1) (acc.map (·.1)) = none := by simp only [chkNew, h1, if_true]; rw [if_neg h3]
    have snd : (turnOf way x).2.Nodup := by
      unfold turnOf
      by_cases w : way = 1
      · simp only [if_pos w]; exact List.pairwise_reverse.mpr (List.Pairwise.imp (fun h => Ne.symm h) (h2.nodup lnd))
      · simp only [if_neg w]; exact h2.nodup lnd
    have smem : ∀ z ∈ (turnOf way x).2, z ∈ ls ∧ z ∉ ([] : List Str) := fun z hz => ⟨h2.subset (by
      unfold turnOf at hz
      by_cases w : way = 1
      · simp only [if_pos w] at hz; exact List.mem_reverse.mp hz
      · simp only [if_neg w] at hz; exact hz), by simp⟩
    have e2 : chkShown ((turnOf way x).2.map V.str) ls [] = none := shown_ok' snd smem
    rw [List.map_cons, List.map_cons]
    show initRows ls ((V.str x.1, (turnOf way x).2.map V.str) :: (r.map (turnOf way)).map rdat) acc = _
    rw [initRows, e1, e2]
    show initRows ls ((r.map (turnOf way)).map rdat) (acc ++ [(x.1, chosen ls (((turnOf way x).2.map V.str).map strOf))]) = _
    rw [strs_back, chosen_turn h2 lnd, turn_rows lnd way nd.2 fun y hy => ⟨(h y (List.mem_cons_of_mem _ hy)).1, (h y (List.mem_cons_of_mem _ hy)).2.1, fun m => by
      rw [List.map_append] at m
      rcases List.mem_append.mp m with m | m
      · exact (h y (List.mem_cons_of_mem _ hy)).2.2 m
      · have e : y.1 = x.1 := by simpa using m
        exact nd.1 (by rw [← e]; exact List.mem_map.mpr ⟨y, hy, rfl⟩)⟩, List.append_assoc]
    rfl
theorem init_turn {ls : List Str} {rs : List (Str × List Str)} (ok : TabOk ls rs) (way : Int) : initT (ls.map V.str) ((rs.map (turnOf way)).map rdat) = .ok (ls, rs) := by
  unfold initT
  rw [if_neg (by rw [List.length_map, List.length_map, List.length_map]; have := ok.lfew; have := ok.kfew; omega), names_ok ok.lnd ok.lval]
  have q := turn_rows ok.lnd way (xs := rs) (acc := []) ok.knd fun x hx => ⟨ok.kval x hx, ok.sub x hx, by simp⟩
  rw [List.nil_append] at q
  simp only [q]
theorem dp_rows {K : PySem.W.Frag} {H : Hp} : ∀ {rows : List RowIn} {ts : List (Str × List Str)}, (∀ r ∈ rows, RowG H r) → rows.map RowIn.dat = ts.map rdat → DpAll K H (refsOf rows) (ts.map dataOf)
  | [], ts, _, e => by
    cases ts with
    | nil => exact .nil
    | cons _ _ => cases e
  | r :: q, ts, h, e => by
    cases ts with
    | nil => cases e
    | cons x ts =>
      rw [List.map_cons, List.map_cons] at e
      injection e with e1 e2
      have h1 : r.look = .str x.1 := congrArg Prod.fst e1
      have h2 : r.xs = x.2.map V.str := congrArg Prod.snd e1
      have G := h r (List.mem_cons_self ..)
      have pg := G.pair
      have qg := G.lst
      rw [h1] at pg
      rw [h2] at qg
      exact .cons (.tup (SqT.of pg) (.cons (.str _) (.cons (.lst (SqL.of qg) (dpAll_strs _)) .nil))) (dp_rows (fun y hy => h y (List.mem_cons_of_mem _ hy)) e2)
theorem shaped_rows {ts : List (Str × List Str)} (h : ∀ x ∈ ts, canS x.1 ∧ ∀ z ∈ x.2, canS z) : SeqAt.shaped (.list (ts.map dataOf)) = true := by
  have both : PyData.canLayAll0 (ts.map dataOf) = true ∧ PyData.depthAll (ts.map dataOf) ≤ 2 := by
    induction ts with
    | nil => exact ⟨by simp [PyData.canLayAll0], by simp [PyData.depthAll]⟩
    | cons x r ih =>
      obtain ⟨i1, i2⟩ := ih fun y hy => h y (List.mem_cons_of_mem _ hy)
      obtain ⟨c1, c2⟩ := h x (List.mem_cons_self ..)
      have d1 : PyData.canLay0 (dataOf x) = true := by
        unfold dataOf
        unfold canS at c1
        simp only [PyData.canLay0] at c1
        simp only [PyData.canLay0, PyData.canLayAll0, canAll_strs c2, c1, Bool.and_true]
      have d2 : (dataOf x).depth ≤ 2 := by
        unfold dataOf
        simp only [PyData.depth, PyData.depthAll, depthAll_strs]
        decide
      refine ⟨?_, ?_⟩
      · rw [List.map_cons, PyData.canLayAll0, d1, i1]; rfl
      · rw [List.map_cons, PyData.depthAll]; omega
  exact shaped_list both.1 both.2
theorem ln_len' : LN.length = 12 := by decide +kernel
theorem ln_no {ks : List Str} (ok : NamesOk ks) : LN ∉ ks := fun h => by
  obtain ⟨i, hi, e⟩ := List.getElem_of_mem h
  have q := ((ok.at_ i LN (by rw [List.getElem?_eq_getElem hi, e])).sg (by have := ok.few; omega)).2.2
  rw [ln_len'] at q
  omega
theorem shaped_ofn {d : PyData} (h : PyData.canLay0 d = true) (h2 : d.depth ≤ 4) : SeqAt.shaped d = true := by
  unfold SeqAt.shaped
  rw [h, Bool.true_and]
  exact decide_eq_true (by omega)
theorem eqv_same {d : PyData} (h : SeqAt.shaped d = true) : PyData.eqv d d = true := SeqAt.eqv_refl _ (by
  unfold SeqAt.shaped at h
  exact (Bool.and_eq_true_iff.mp h).1)
section
variable {P : Program} {w : World} {K : PySem.W.Frag} {mg : Str → Option Value} {base : Heap} {C : Cs} {CT : Addr}
/-- Table(list of lamps, list of rows): what the rows as given make -/
theorem make_ok {H7 : Hp} {l R : Addr} {ls : List Str} {ts rs : List (Str × List Str)} {rows : List RowIn} {Q : Hp → Prop} {E : XK} {x dx : Addr} (nx : H7 x = none) (ndx : H7 dx = none) (nex : dx ≠ x) (hl : H7 l = some (.lst (ls.map V.str))) (hR : H7 R = some (.lst (refsOf rows))) (hrw : ∀ r ∈ rows, RowG H7 r) (hd : rows.map RowIn.dat = ts.map rdat)
    (hts : ∀ y ∈ ts, validN y.1 = true ∧ (∀ z ∈ y.2, z ∈ ls) ∧ y.2.length ≤ 24) (hini : initT (ls.map V.str) (ts.map rdat) = .ok (ls, rs)) (lval : ∀ z ∈ ls, validN z = true) (lfew : ls.length ≤ 25) (tfew : ts.length ≤ 25)
    (k : ∀ H8, Same H7 H8 → TableAt CT H8 x ls rs → Q H8) :
    spTabInit2 K CT C (.ref x :: ([.ref l, .ref R] ++ [])) (upd (upd H7 dx (.own x)) x (.ins CT dx [])) (fun v H2 => v = .non ∧ Q H2) E := by
  have sm : Same H7 (upd (upd H7 dx (.own x)) x (.ins CT dx [])) := fun c o e => by
    rw [upd_ne (ne_of_none e nx), upd_ne (ne_of_none e ndx)]; exact e
  have hlen : rows.length = ts.length := by
    have e := congrArg List.length hd
    rw [List.length_map, List.length_map] at e
    exact e
  refine ⟨H7, x, dx, l, R, ls.map V.str, rows, rfl, sm, nx, upd_same, .inl (SqL.of hl), strs_nm lval, by rw [List.length_map]; omega, .inl (SqL.of hR), fun r hr => ?_, by omega, fun ls' rs' e H8 s8 hT8 => ⟨rfl, ?_⟩, fun e he => ?_⟩
  · obtain ⟨i, hi, ei⟩ := List.getElem_of_mem hr
    have hir : i < ts.length := by omega
    have ed : r.dat = rdat ts[i] := by
      have e := congrArg (fun l => l[i]?) hd
      simp only [List.getElem?_map, List.getElem?_eq_getElem hi, List.getElem?_eq_getElem hir, Option.map_some, ei] at e
      exact Option.some.inj e
    obtain ⟨v1, v2, v3⟩ := hts _ (List.getElem_mem hir)
    generalize ts[i] = y at *
    have e1 : r.look = .str y.1 := congrArg Prod.fst ed
    have e2 : r.xs = y.2.map V.str := congrArg Prod.snd ed
    have G := hrw r hr
    refine ⟨SqT.of G.pair, by rw [e1]; exact validN_nm v1, .inl (SqL.of G.lst), by rw [e2]; exact strs_nm fun z hz => lval z (v2 z hz), ?_⟩
    rw [e2, List.length_map]
    omega
  · rw [hd, hini] at e
    cases e
    exact k H8 s8 hT8
  · rw [hd, hini] at he
    cases he
theorem TableAt.ofB {b : Addr} {H H' : Hp} {x : Addr} {ls : List Str} {rs : List (Str × List Str)} (h : TableAt CT H x ls rs) (hb : ∃ xs, H b = some (.lst xs)) (s : SameB b H H') : TableAt CT H' x ls rs := by
  obtain ⟨ys, hb⟩ := hb
  obtain ⟨dx, lt, sd, kt, kvs, hp, hlt, hsd, hkt, hrs⟩ := h
  have ne : ∀ {c : Addr} {o : HO}, H c = some o → (∀ xs, o ≠ .lst xs) → H' c = some o := fun {c o} e n => s _ _ (fun q => by rw [q, hb] at e; cases e; exact n _ rfl) e
  exact ⟨dx, lt, sd, kt, kvs, ne hp (fun _ e => by cases e), ne hlt (fun _ e => by cases e), ne hsd (fun _ e => by cases e), ne hkt (fun _ e => by cases e), hrs.of fun b ys e => ne e (fun _ e => by cases e)⟩
theorem turn_mem {ls : List Str} {rs : List (Str × List Str)} (ok : TabOk ls rs) (way : Int) : ∀ y ∈ rs.map (turnOf way), validN y.1 = true ∧ (∀ z ∈ y.2, z ∈ ls) ∧ y.2.length ≤ 24 := fun y hy => by
  obtain ⟨x, hx, rfl⟩ := List.mem_map.mp hy
  refine ⟨ok.kval x hx, fun z hz => (ok.sub x hx).subset ?_, ?_⟩
  · unfold turnOf at hz
    by_cases w : way = 1
    · simp only [if_pos w] at hz; exact List.mem_reverse.mp hz
    · simp only [if_neg w] at hz; exact hz
  · have := (ok.sub x hx).length_le
    have := ok.lfew
    unfold turnOf
    by_cases w : way = 1
    · simp only [if_pos w, List.length_reverse]; omega
    · simp only [if_neg w]; omega
end
end Dl

namespace Dl
open PySem PySem.Spec PyProof.Rows L2
/-- a value that is data whatever the heap holds -/
def Free (v : V) : Prop := ∀ H, NmD H v
theorem free_str {z : Str} (h : validN z = true) : Free (.str z) := fun H => ⟨valid_can h, by
  unfold validN at h
  simp only [Bool.and_eq_true, decide_eq_true_eq] at h
  have := h.2.1
  omega⟩
/-- data, and not the bag -/
def NmB (b : Addr) (H : Hp) (v : V) : Prop := NmD H v ∧ v ≠ .ref b
theorem NmB.ofB {b : Addr} {H H' : Hp} {v : V} (h : NmB b H v) (s : SameB b H H') : NmB b H' v := by
  obtain ⟨h, n⟩ := h
  refine ⟨?_, n⟩
  cases v with
  | ref p => obtain ⟨zs, e, q⟩ := h; exact ⟨zs, s _ _ (fun e => n (by rw [e])) e, q⟩
  | str z => exact h
  | int i => trivial
  | non => trivial
  | bl _ => exact h.elim
  | byt _ => exact h.elim
  | flt _ => exact h.elim
  | ty _ => exact h.elim
theorem Free.nb {b : Addr} {v : V} (h : Free v) : v ≠ .ref b := fun e => by
  obtain ⟨zs, q, _⟩ := (e ▸ h (fun _ => none) : NmD (fun _ => none) (.ref b))
  cases q
/-- a written text -/
theorem free_lit {z : Str} (h : PyData.canLay0 (.str z) = true) (l : z.length ≤ 1000) : Free (.str z) := fun H => ⟨h, l⟩
theorem can_word {w : Str} (h : canS w) {d : PyData} (hd : PyData.canLay0 d = true) : PyData.canLay0 (.tuple [.str w, d]) = true := by
  unfold canS at h
  simp only [PyData.canLay0] at h
  simp only [PyData.canLay0, PyData.canLayAll0, h, hd, Bool.and_true]
theorem dep_word {w : Str} {d : PyData} {n : Nat} (hd : d.depth ≤ n) : (PyData.tuple [.str w, d]).depth ≤ n + 1 := by
  simp only [PyData.depth, PyData.depthAll]
  omega
/-- the pairs of rows(), as data -/
def dataT (x : Str × List Str) : PyData := .tuple [.str x.1, .tuple (x.2.map PyData.str)]
theorem dp_rowsT {K : PySem.W.Frag} {H : Hp} : ∀ {rows : List RowIn} {ts : List (Str × List Str)}, (∀ r ∈ rows, RowT H r) → rows.map RowIn.dat = ts.map rdat → DpAll K H (refsOf rows) (ts.map dataT)
  | [], ts, _, e => by
    cases ts with
    | nil => exact .nil
    | cons _ _ => cases e
  | r :: q, ts, h, e => by
    cases ts with
    | nil => cases e
    | cons x ts =>
      rw [List.map_cons, List.map_cons] at e
      injection e with e1 e2
      have h1 : r.look = .str x.1 := congrArg Prod.fst e1
      have h2 : r.xs = x.2.map V.str := congrArg Prod.snd e1
      have G := h r (List.mem_cons_self ..)
      have pg := G.pair
      have qg := G.tup
      rw [h1] at pg
      rw [h2] at qg
      exact .cons (.tup (SqT.of pg) (.cons (.str _) (.cons (.tup (SqT.of qg) (dpAll_strs _)) .nil))) (dp_rowsT (fun y hy => h y (List.mem_cons_of_mem _ hy)) e2)
theorem rowsT_both {ts : List (Str × List Str)} (h : ∀ x ∈ ts, canS x.1 ∧ ∀ z ∈ x.2, canS z) : PyData.canLayAll0 (ts.map dataT) = true ∧ PyData.depthAll (ts.map dataT) ≤ 2 := by
  induction ts with
  | nil => exact ⟨by simp [PyData.canLayAll0], by simp [PyData.depthAll]⟩
  | cons x r ih =>
    obtain ⟨i1, i2⟩ := ih fun y hy => h y (List.mem_cons_of_mem _ hy)
    obtain ⟨c1, c2⟩ := h x (List.mem_cons_self ..)
    have d1 : PyData.canLay0 (dataT x) = true := by
      unfold dataT
      unfold canS at c1
      simp only [PyData.canLay0] at c1
      simp only [PyData.canLay0, PyData.canLayAll0, canAll_strs c2, c1, Bool.and_true]
    have d2 : (dataT x).depth ≤ 2 := by
      unfold dataT
      simp only [PyData.depth, PyData.depthAll, depthAll_strs]
      decide
    refine ⟨?_, ?_⟩
    · rw [List.map_cons, PyData.canLayAll0, d1, i1]; rfl
    · rw [List.map_cons, PyData.depthAll]; omega
theorem rowsT_can {ts : List (Str × List Str)} (h : ∀ x ∈ ts, canS x.1 ∧ ∀ z ∈ x.2, canS z) : PyData.canLay0 (.list (ts.map dataT)) = true := by
  rw [PyData.canLay0]; exact (rowsT_both h).1
theorem rowsT_dep {ts : List (Str × List Str)} (h : ∀ x ∈ ts, canS x.1 ∧ ∀ z ∈ x.2, canS z) : (PyData.list (ts.map dataT)).depth ≤ 3 := by
  rw [PyData.depth]; have := (rowsT_both h).2; omega
theorem TabOk.can {ls : List Str} {rs : List (Str × List Str)} (ok : TabOk ls rs) : ∀ x ∈ rs, canS x.1 ∧ ∀ z ∈ x.2, canS z := fun x hx => ⟨valid_can (ok.kval x hx), fun z hz => valid_can (ok.lval z ((ok.sub x hx).subset hz))⟩
theorem shown_val : ∀ {xs : List V} {es prev : List Str} {er : Er}, chkShown xs es prev = some er → (erw er).2 ∈ xs
  | [], _, _, _, h => by cases h
  | v :: r, es, prev, er, h => by
    rw [chkShown] at h
    split at h
    · split at h
      · cases h; exact List.mem_cons_self ..
      · exact List.mem_cons_of_mem _ (shown_val h)
    · cases h; exact List.mem_cons_self ..
theorem more_val {ls : List Str} {rs : List (Str × List Str)} {nm : V} {xs : List V} {er : Er} (h : moreT ls rs nm xs = .error er) : (erw er).2 = .int 24 ∨ (erw er).2 = nm ∨ (erw er).2 ∈ xs := by
  unfold moreT at h
  split at h
  · cases h; exact .inl rfl
  cases e1 : chkNew nm (rs.map (·.1)) with
  | some e =>
    rw [e1] at h
    cases h
    exact .inr (.inl (chkNew_val e1))
  | none =>
    rw [e1] at h
    simp only at h
    cases e2 : chkShown xs ls [] with
    | some e => rw [e2] at h; cases h; exact .inr (.inr (shown_val e2))
    | none => rw [e2] at h; cases h
theorem erw_can (er : Er) : canS (erw er).1 := by
  cases er with
  | inv v => exact (show PyData.canLay0 (.str "invalid") = true by decide +kernel)
  | dup v => exact (show PyData.canLay0 (.str "duplicate") = true by decide +kernel)
  | unk v => exact (show PyData.canLay0 (.str "unknown") = true by decide +kernel)
  | many => exact (show PyData.canLay0 (.str "many") = true by decide +kernel)
end Dl

namespace Dl
open PySem PySem.Spec PyProof.Rows L2
def oddL : List V := [.str "", .str "A", .str "a b", .str "abcdefghijklm", .str "a_b", .int 7, .non, .str "b-", .str " ", .str "-1", .str "a.", .str "aZ9"]
theorem odd_free : ∀ v ∈ oddL, Free v := fun v hv => by
  unfold oddL at hv
  simp only [List.mem_cons, List.not_mem_nil, or_false] at hv
  rcases hv with rfl | rfl | rfl | rfl | rfl | rfl | rfl | rfl | rfl | rfl | rfl | rfl
  case inr.inr.inr.inr.inr.inl => exact fun _ => trivial
  case inr.inr.inr.inr.inr.inr.inl => exact fun _ => trivial
  all_goals exact free_lit (by decide +kernel) (by decide +kernel)
def spOdd : Sp := fun vs H Q _ => ∃ n : Int, vs = [.int n] ∧ 0 ≤ n ∧ n < 12 ∧ ∀ H' v, Same H H' → Free v → Q v H'
section
variable {P : Program} {w : World} {K : PySem.W.Frag} {mg : Str → Option Value} {base : Heap}
theorem scOdd : FnScope ["_law_cell"] ["_law_cell"] (defScope sLawOddName) := ⟨rfl, rfl, rfl, by decide +kernel, rfl, by decide +kernel, by decide +kernel⟩
theorem ok_odd {f : Addr} {fd : FuncData} (F : Fun K "_law_odd_name" "_law_odd_name" sLawOddName f fd) : FnOk P w K mg base CX0 1 f fd ["_law_cell"] spOdd := by
  refine F.ok scOdd (fun vs H Q E h => ?_) (fun cdv A outer s H vs Q E hr h => ?_)
  · obtain ⟨n, rfl, _⟩ := h
    rfl
  · obtain ⟨n, rfl, n0, n12, k⟩ := h
    refine ⟨_, (pss_one (ps_ret (pe_ix ix_list (pe_lst (pa_cons pe_str (pa_cons pe_str (pa_cons pe_str (pa_cons pe_str (pa_cons pe_str (pa_cons pe_int (pa_cons pe_non (pa_cons pe_str (pa_cons pe_str (pa_cons pe_str (pa_cons pe_str (pa_cons pe_str pa_nil))))))))))))) (pv 0) (fun _ _ => rfl)))), ?_⟩
    refine ⟨by show 12 ≤ sizeLine; decide, fun q hq => ?_⟩
    obtain ⟨n, rfl⟩ := Int.eq_ofNat_of_zero_le n0
    have hn : n < oddL.length := by show n < 12; omega
    exact ⟨_, rfl, q, oddL, (n : Int), oddL[n], rfl, rfl, SqL.of upd_same, atI_nat (List.getElem?_eq_getElem hn), k _ _ (Same.upd_new hq) (odd_free _ (List.getElem_mem hn))⟩
end
end Dl

namespace Dl
open PySem PySem.Spec PyProof.Rows L2
/-! Table: shown, alike, [..], len -/
structure TabT (P : Program) (w : World) (K : PySem.W.Frag) (mg : Str → Option Value) (base : Heap) (CT : Addr) (C : Cs) : Prop where
  cl : Cls K CT
  nL : NoAttr K CT "lamps"
  nK : NoAttr K CT "looks"
  nS : NoAttr K CT "_shown"
  tuple : mg "tuple" = none
  len : mg "len" = none
  known : Dfn P w K mg base (L2.CX P w) 4 "check_known" ["name", "names"] (spKnown K C)
def spTLen (CT : Addr) : Sp := fun vs H Q _ => ∃ (p : Addr) (ls : List Str) (rs : List (Str × List Str)), vs = [.ref p] ∧ TableAt CT H p ls rs ∧ Q (.int (rs.length : Int)) H
section
variable {P : Program} {w : World} {K : PySem.W.Frag} {mg : Str → Option Value} {base : Heap} {C : Cs} {CT : Addr}
theorem scTLen : FnScope ["self"] ["self"] (defScope sTableLen) := ⟨rfl, rfl, rfl, by decide +kernel, rfl, by decide +kernel, by decide +kernel⟩
theorem ok_tlen {f : Addr} {fd : FuncData} (F : Fun K "__len__" "Table.__len__" sTableLen f fd) (T : TabT P w K mg base CT C) : FnOk P w K mg base CX0 1 f fd ["self"] (spTLen CT) := by
  refine F.ok scTLen (fun vs H Q E h => ?_) (fun cdv A outer s H vs Q E hr h => ?_)
  · obtain ⟨p, ls, rs, rfl, _⟩ := h
    rfl
  · obtain ⟨p, ls, rs, rfl, ⟨dx, lt, sd, kt, kvs, hp, hlt, hsd, hkt, hrs⟩, k⟩ := h
    refine ⟨_, (pss_one (ps_ret (pe_callB call_len_seq (by rfl) T.len PySem.boot_len (pa_cons (pe_fld (pv 0) rfl) pa_nil)))), ?_⟩
    refine ⟨_, rfl, p, CT, dx, _, _, rfl, hp, T.cl, T.nK, pf3_looks _ _ _, kt, _, rfl, .inr (SqT.of hkt), ?_⟩
    rw [List.length_map, List.length_map]
    exact k
end
end Dl

namespace Dl
open PySem PySem.Spec PyProof.Rows L2
structure TxtL75 (mg : Str → Option Value) : Prop where
  str : mg "str" = none
  list : mg "list" = none
  tuple : mg "tuple" = none
  len : mg "len" = none
  range : mg "range" = none
def rTupOf (K : PySem.W.Frag) : List V → Hp → VK → Prop := fun xs H Q => ∃ p ys, xs = [V.ref p] ∧ ((SqL K H p ys ∧ ∀ l, H l = none → Q (.ref l) (upd H l (.tup ys))) ∨ (SqT K H p ys ∧ Q (.ref p) H))
def rLstOf (K : PySem.W.Frag) : List V → Hp → VK → Prop := fun xs H Q => ∃ p ys, xs = [V.ref p] ∧ (SqL K H p ys ∨ SqT K H p ys) ∧ ∀ l, H l = none → Q (.ref l) (upd H l (.lst ys))
/-- x10, x11, .. -/
def xname (k : Nat) : Str := ("x" : Str) ++ Str.ofString (toString (10 + (0 + (k : Int))))
def xnames (n : Nat) : List Str := (List.range n).map xname
theorem xn_valid : ∀ k, k < 24 → validN (xname k) = true := by decide +kernel
theorem xn_nodup : (xnames 24).Nodup := by decide +kernel
theorem xn_take {n : Nat} (h : n ≤ 24) : (xnames n).Sublist (xnames 24) := by
  unfold xnames
  apply List.Sublist.map
  exact List.range_sublist.mpr h
theorem xn_step (i : Nat) : xnames (i + 1) = xnames i ++ [xname i] := by
  unfold xnames
  rw [List.range_succ, List.map_append]
  rfl
theorem xn_all {n : Nat} (h : n ≤ 24) : ∀ z ∈ xnames n, validN z = true := fun z hz => by
  unfold xnames at hz
  obtain ⟨k, hk, rfl⟩ := List.mem_map.mp hz
  rw [List.mem_range] at hk
  exact xn_valid k (by omega)
/-- every look shows the first lamp -/
def firstL (ls : List Str) (k : Str) : Str × List Str := (k, ls.take 1)
theorem tab_first {ls ks : List Str} (okl : NamesOk ls) (nd : ks.Nodup) (kv : ∀ z ∈ ks, validN z = true) (few : ks.length ≤ 24) : TabOk ls (ks.map (firstL ls)) := by
  have keys : (ks.map (firstL ls)).map (·.1) = ks := by rw [List.map_map]; exact List.map_id _
  refine ⟨okl.nd, fun z h => okl.valid h, okl.few, by rw [keys]; exact nd, fun x hx => ?_, by rw [List.length_map]; exact few, fun x hx => ?_⟩
  · obtain ⟨k, hk, rfl⟩ := List.mem_map.mp hx
    exact kv k hk
  · obtain ⟨k, hk, rfl⟩ := List.mem_map.mp hx
    exact List.take_sublist _ _
theorem shown_strs2 : ∀ {xs : List V} {es prev : List Str}, chkShown xs es prev = none → xs = (xs.map strOf).map V.str
  | [], _, _, _ => rfl
  | v :: r, es, prev, h => by
    rw [chkShown] at h
    split at h
    · rename_i hk
      obtain ⟨z, rfl, _⟩ := knows_str hk
      split at h
      · cases h
      · have q := shown_strs2 h
        rw [List.map_cons, List.map_cons, ← q]
        rfl
    · cases h
theorem more_strs {ls ls' : List Str} {rs rs' : List (Str × List Str)} {nm : V} {xs : List V} (h : moreT ls rs nm xs = .ok (ls', rs')) : xs = (xs.map strOf).map V.str := by
  unfold moreT at h
  split at h
  · cases h
  cases e1 : chkNew nm (rs.map (·.1)) with
  | some e => rw [e1] at h; cases h
  | none =>
    rw [e1] at h
    simp only at h
    cases e2 : chkShown xs ls [] with
    | some e => rw [e2] at h; cases h
    | none => exact shown_strs2 e2
theorem chosen_step {ls zs : List Str} {i : Nat} {l : Str} (h : ls[i]? = some l) : chosen (ls.take (i + 1)) zs = chosen (ls.take i) zs ++ (if decide (l ∈ zs) = true then [l] else []) := by
  unfold chosen
  rw [take_at h, List.filter_append]
  by_cases q : decide (l ∈ zs) = true
  · rw [if_pos q]; simp only [List.filter_cons, List.filter_nil, q, if_true]
  · rw [if_neg q]; simp only [List.filter_cons, List.filter_nil, q, if_false]; rfl
theorem chosen_len {ls zs : List Str} {i : Nat} (h : ls.length ≤ 24) : (chosen (ls.take i) zs).length ≤ 24 := Nat.le_trans (List.length_filter_le _ _) (by rw [List.length_take]; omega)
/-- the due answer, as it stands -/
def DueAt (ls : List Str) (rs : List (Str × List Str)) (nm : V) (ys : List V) (H : Hp) (v : V) : Prop :=
  (∃ er t, moreT ls rs nm ys = .error er ∧ v = .ref t ∧ H t = some (.tup [.str (erw er).1, (erw er).2])) ∨
  (∃ ls' rs' t l rows, moreT ls rs nm ys = .ok (ls', rs') ∧ v = .ref t ∧ H t = some (.tup [.str "rows", .ref l]) ∧ H l = some (.lst (refsOf rows)) ∧ (∀ r ∈ rows, RowT H r) ∧ rows.map RowIn.dat = rs'.map rdat)
theorem DueAt.of {ls : List Str} {rs : List (Str × List Str)} {nm : V} {ys : List V} {H H' : Hp} {v : V} (s : Same H H') (h : DueAt ls rs nm ys H v) : DueAt ls rs nm ys H' v := by
  rcases h with ⟨er, t, e, ev, ht⟩ | ⟨ls', rs', t, l, rows, e, ev, ht, hl, hr, hd⟩
  · exact .inl ⟨er, t, e, ev, s _ _ ht⟩
  · exact .inr ⟨ls', rs', t, l, rows, e, ev, s _ _ ht, s _ _ hl, fun r h => (hr r h).of s, hd⟩
def spLaw75 (K : PySem.W.Frag) : Sp := fun vs H Q _ => ∃ (a : Addr) (ns : List Int), vs = [.ref a] ∧ SqL K H a (ns.map V.int) ∧ ns.length ≤ 63 ∧ ∀ H', Q (.bl true) H'
section
variable {P : Program} {w : World} {K : PySem.W.Frag} {mg : Str → Option Value} {base : Heap} {C : Cs} {CT : Addr}
theorem scLaw75 : FnScope ["_law_script", "_law_bag_here", "_law_lamps", "_law_looks", "_law_rows", "_law_table", "_law_pool", "_law_name_here", "_law_bulbs", "_law_shown", "_law_k", "_law_before", "_law_due_here", "_law_turn", "_law_look", "_law_row", "_law_lamp"] ["_law_script"] (defScope sLaw) := ⟨rfl, rfl, rfl, by decide +kernel, rfl, by decide +kernel, by decide +kernel⟩
theorem ok_law75 {f : Addr} {fd : FuncData} (F : Fun K "law" "law" sLaw f fd) (T : TxtL75 mg) (cl : Cls K CT) (gTab : mg "Table" = some (.ref CT)) (init : ∃ fT fdT, Mk K CT fT ∧ Binds K fdT ["self", "lamps", "looks"] [] ∧ FnOk P w K mg base (L2.CX P w) 8 fT fdT ["self", "lamps", "looks"] (spTabInit2 K CT C))
    (gRw : ∃ fR fdR, Meth K CT "rows" fR ∧ Binds K fdR ["self"] [] ∧ FnOk P w K mg base CX0 1 fR fdR ["self"] (spTRows K CT))
    (gLen : ∃ f fd, PySem.W.findIn K (.ref CT) "__len__" = some (some (.ref f)) ∧ PySem.W.isFn K (.ref f) = true ∧ Binds K fd ["self"] [] ∧ FnOk P w K mg base CX0 1 f fd ["self"] (spTLen CT))
    (gB : Dfn P w K mg base CX0 1 "_law_bag" ["_law_script"] (spBag K)) (gT : Dfn P w K mg base CX0 1 "_law_take" ["_law_bag_here", "_law_size"] spTake)
    (gN : Dfn P w K mg base CX0 3 "_law_names" ["_law_bag_here", "_law_count"] spNames) (gD : Dfn P w K mg base CX0 3 "_law_due" ["_law_lamps", "_law_rows"] (spDue K))
    (gO : Dfn P w K mg base CX0 1 "_law_odd_name" ["_law_cell"] spOdd) (gS : Dfn P w K mg base CX0 12 "_law_told" ["_law_table", "_law_name_here", "_law_shown"] (spTold CT)) :
    FnOk P w K mg base CX0 13 f fd ["_law_script"] (spLaw75 K) := by
  obtain ⟨fM, fdM, M, bM, GM⟩ := init
  obtain ⟨fR, fdR, mR, bR, GR⟩ := gRw
  obtain ⟨fL, fdL, iLen, fnLen, bLen, GLen⟩ := gLen
  obtain ⟨fB, dB, mBag, kBag, bBag, GBag⟩ := gB
  obtain ⟨fT, dT, mTake, kTake, bTake, GTake⟩ := gT
  obtain ⟨fN, dN, mNames, kNames, bNames, GNames⟩ := gN
  obtain ⟨fD, dD, mDue, kDue, bDue, GDue⟩ := gD
  obtain ⟨fO, dO, mOdd, kOdd, bOdd, GOdd⟩ := gO
  obtain ⟨fS, dS, mTold, kTold, bTold, GTold⟩ := gS
  refine F.ok scLaw75 (fun vs H Q E h => ?_) (fun cdv A outer s H vs Q E hr h => ?_)
  · obtain ⟨a, ns, rfl, _⟩ := h
    rfl
  · obtain ⟨a0, ns, rfl, hS, hlen, k⟩ := h
    have hr12 : Room 12 _ := hr
    have hr9 : Room 9 _ := hr.mono (by decide)
    have hr3 : Room 3 _ := hr.mono (by decide)
    have hr2 : Room 2 _ := hr.mono (by decide)
    have hr1 : Room 1 _ := hr.mono (by decide)
    refine ⟨_, (pss_cons (ps_set (i := 1) scLaw75.nd rfl (Or.inl rfl) (pe_call GBag hr1 (by rfl) mBag kBag bBag .nil pass0 (pa_cons (pv 0) pa_nil)))
        (pss_cons (ps_set (i := 2) scLaw75.nd rfl (Or.inr rfl) (pe_call GNames hr3 (by rfl) mNames kNames bNames .nil pass0 (pa_cons (pv 1) (pa_cons (pe_call GTake hr1 (by rfl) mTake kTake bTake .nil pass0 (pa_cons (pv 1) (pa_cons pe_int pa_nil))) pa_nil))))
        (pss_cons (ps_set (i := 3) scLaw75.nd rfl (Or.inl rfl) (pe_call GNames hr3 (by rfl) mNames kNames bNames .nil pass0 (pa_cons (pv 1) (pa_cons (pe_call GTake hr1 (by rfl) mTake kTake bTake .nil pass0 (pa_cons (pv 1) (pa_cons pe_int pa_nil))) pa_nil))))
        (C8.pss_cut (ps_if (pt_cmpR op_eq (pe_call GTake hr1 (by rfl) mTake kTake bTake .nil pass0 (pa_cons (pv 1) (pa_cons pe_int pa_nil))) pe_int (nomark _)) (pss_one (ps_setLc (i := 3) (own := [("_law_k", 10)]) (g := gName 10) (tt := tYes) rfl scLaw75.nd rfl rfl (sw_true rfl rfl rfl (by decide +kernel)) (pi_range1 (by rfl) T.range (pa_cons (pe_op op_add pe_int (pe_call GTake hr1 (by rfl) mTake kTake bTake .nil pass0 (pa_cons (pv 1) (pa_cons pe_int pa_nil)))) pa_nil)) (blkOk_by (N := ["_law_script", "_law_bag_here", "_law_lamps", "_law_looks", "_law_rows", "_law_table", "_law_pool", "_law_name_here", "_law_bulbs", "_law_shown", "_law_k", "_law_before", "_law_due_here", "_law_turn", "_law_look", "_law_row", "_law_lamp"]) (sc := defScope sLaw) (by decide +kernel)) (fun _ _ _ _ _ => (pg_name (i := 10) scLaw75.nd rfl (Or.inl rfl))) (fun _ _ _ _ _ => pts_nil) (fun _ _ _ _ _ => (pe_op op_add_str pe_str (pe_callTy call_str_int (by rfl) T.str (by decide +kernel) (pa_cons (pe_op op_add pe_int (pv 10)) pa_nil)))))) pss_nil)
        (pss_cons (ps_setLc (i := 4) (own := [("_law_look", 14)]) (g := gName 14) (tt := tYes) (te := tTup (tCons (tVar 14) (tCons (tSl (rSlL K) (tVar 2) tNoPart (tPart (tC (.int 1)))) tNil))) rfl scLaw75.nd rfl rfl (sw_true rfl rfl rfl (by decide +kernel)) (pi_list (pv 3)) (blkOk_by (N := ["_law_script", "_law_bag_here", "_law_lamps", "_law_looks", "_law_rows", "_law_table", "_law_pool", "_law_name_here", "_law_bulbs", "_law_shown", "_law_k", "_law_before", "_law_due_here", "_law_turn", "_law_look", "_law_row", "_law_lamp"]) (sc := defScope sLaw) (by decide +kernel)) (fun _ _ _ _ _ => (pg_name (i := 14) scLaw75.nd rfl (Or.inl rfl))) (fun _ _ _ _ _ => pts_nil) (fun _ _ _ _ _ => (pe_tup (pa_cons (pv 14) (pa_cons (pe_slice (by exact sl_list : SlR _ (rSlL K)) (pv 2) po_none (po_some pe_int)) pa_nil)))))
        (pss_cons (ps_set (i := 5) scLaw75.nd rfl (Or.inl rfl) (pe_make M GM hr9 (by rfl) gTab bM .nil passL (pa_cons (pe_callTy call_list_of (by rfl) T.list (by decide +kernel) (pa_cons (pv 2) pa_nil)) (pa_cons (pe_lc (own := [("_law_row", 15)]) (g := gName 15) (tt := tYes) (te := tTup (tCons (tOp (rIxT K) (tVar 15) (tC (.int 0))) (tCons (tCB (rLstOf K) (tCons (tOp (rIxT K) (tVar 15) (tC (.int 1))) tNil)) tNil))) rfl scLaw75.nd (pi_list (pv 4)) (blkOk_by (N := ["_law_script", "_law_bag_here", "_law_lamps", "_law_looks", "_law_rows", "_law_table", "_law_pool", "_law_name_here", "_law_bulbs", "_law_shown", "_law_k", "_law_before", "_law_due_here", "_law_turn", "_law_look", "_law_row", "_law_lamp"]) (sc := defScope sLaw) (by decide +kernel)) (fun _ _ _ _ _ => (pg_name (i := 15) scLaw75.nd rfl (Or.inl rfl))) (fun _ _ _ _ _ => pts_nil) (fun _ _ _ _ _ => (pe_tup (pa_cons (pe_ix (by exact ix_tup : IxR _ (rIxT K)) (pv 15) pe_int (fun _ _ => rfl)) (pa_cons (pe_callTy (by exact call_list_of : CallR _ _ (rLstOf K)) (by rfl) T.list (by decide +kernel) (pa_cons (pe_ix (by exact ix_tup : IxR _ (rIxT K)) (pv 15) pe_int (fun _ _ => rfl)) pa_nil)) pa_nil))))) pa_nil))))
        (pss_cons (ps_set (i := 6) scLaw75.nd rfl (Or.inl rfl) (pe_op op_cat (pe_op op_cat (pv 3) (pv 2)) (pe_lst (pa_cons pe_str (pa_cons pe_str (pa_cons (pe_call GOdd hr1 (by rfl) mOdd kOdd bOdd .nil pass0 (pa_cons (pe_call GTake hr1 (by rfl) mTake kTake bTake .nil pass0 (pa_cons (pv 1) (pa_cons pe_int pa_nil))) pa_nil)) (pa_cons (pe_lst (pa_cons pe_str pa_nil)) pa_nil)))))))
        (pss_cons (ps_set (i := 7) scLaw75.nd rfl (Or.inl rfl) (pe_ix ix_list (pv 6) (pe_call GTake hr1 (by rfl) mTake kTake bTake .nil pass0 (pa_cons (pv 1) (pa_cons (pe_callB call_len_seq (by rfl) T.len PySem.boot_len (pa_cons (pv 6) pa_nil)) pa_nil))) (fun _ _ => rfl)))
        (pss_cons (ps_set (i := 8) scLaw75.nd rfl (Or.inl rfl) (pe_op op_cat (pe_op op_cat (pe_op op_cat (pv 2) (pv 2)) (pv 2)) (pe_lst (pa_cons pe_str (pa_cons pe_int (pa_cons (pe_lst pa_nil) pa_nil))))))
        (pss_cons (ps_set (i := 9) scLaw75.nd rfl (Or.inr rfl) (pe_lst pa_nil))
        (pss_cons (ps_for PassesOwn.never rfl (pi_range1 (by rfl) T.range (pa_cons (pe_call GTake hr1 (by rfl) mTake kTake bTake .nil pass0 (pa_cons (pv 1) (pa_cons pe_int pa_nil))) pa_nil)) (pg_name (i := 10) scLaw75.nd rfl (Or.inl rfl)) (pss_one (ps_expr (pe_bm PySem.F.plainAttrs_list PySem.F.slot_list_append PySem.F.type_list_append mt_append (pv 9) (pa_cons (pe_ix ix_list (pv 8) (pe_call GTake hr1 (by rfl) mTake kTake bTake .nil pass0 (pa_cons (pv 1) (pa_cons (pe_callB call_len_seq (by rfl) T.len PySem.boot_len (pa_cons (pv 8) pa_nil)) pa_nil))) (fun _ _ => rfl)) pa_nil)))))
        (pss_cons (ps_setLc (i := 11) (own := [("_law_row", 15)]) (g := gName 15) (tt := tYes) (te := tTup (tCons (tOp (rIxT K) (tVar 15) (tC (.int 0))) (tCons (tCB (rTupOf K) (tCons (tOp (rIxT K) (tVar 15) (tC (.int 1))) tNil)) tNil))) rfl scLaw75.nd rfl rfl (sw_true rfl rfl rfl (by decide +kernel)) (pi_list (pv 4)) (blkOk_by (N := ["_law_script", "_law_bag_here", "_law_lamps", "_law_looks", "_law_rows", "_law_table", "_law_pool", "_law_name_here", "_law_bulbs", "_law_shown", "_law_k", "_law_before", "_law_due_here", "_law_turn", "_law_look", "_law_row", "_law_lamp"]) (sc := defScope sLaw) (by decide +kernel)) (fun _ _ _ _ _ => (pg_name (i := 15) scLaw75.nd rfl (Or.inl rfl))) (fun _ _ _ _ _ => pts_nil) (fun _ _ _ _ _ => (pe_tup (pa_cons (pe_ix (by exact ix_tup : IxR _ (rIxT K)) (pv 15) pe_int (fun _ _ => rfl)) (pa_cons (pe_callTy (by exact call_tuple_of : CallR _ _ (rTupOf K)) (by rfl) T.tuple (by decide +kernel) (pa_cons (pe_ix (by exact ix_tup : IxR _ (rIxT K)) (pv 15) pe_int (fun _ _ => rfl)) pa_nil)) pa_nil)))))
        (pss_cons (ps_set (i := 12) scLaw75.nd rfl (Or.inl rfl) (pe_call GDue hr3 (by rfl) mDue kDue bDue .nil pass0 (pa_cons (pv 2) (pa_cons (pe_op op_cat (pv 4) (pe_lst (pa_cons (pe_tup (pa_cons (pv 7) (pa_cons (pv 9) pa_nil))) pa_nil))) pa_nil))))
        (C8.pss_cut (ps_if (pt_cmpR op_isN (pv 12) pe_non (nomark _)) (pss_one (ps_set (i := 12) scLaw75.nd rfl (Or.inl rfl) (pe_tup (pa_cons pe_str (pa_cons (pe_op op_cat (pv 11) (pe_lst (pa_cons (pe_tup (pa_cons (pv 7) (pa_cons (pe_callTy call_tuple_of (by rfl) T.tuple (by decide +kernel) (pa_cons (pe_lc (own := [("_law_lamp", 16)]) (g := gName 16) (tt := tTest (tOp (rIn K false) (tVar 16) (tVar 9))) rfl scLaw75.nd (pi_list (pv 2)) (blkOk_by (N := ["_law_script", "_law_bag_here", "_law_lamps", "_law_looks", "_law_rows", "_law_table", "_law_pool", "_law_name_here", "_law_bulbs", "_law_shown", "_law_k", "_law_before", "_law_due_here", "_law_turn", "_law_look", "_law_row", "_law_lamp"]) (sc := defScope sLaw) (by decide +kernel)) (fun _ _ _ _ _ => (pg_name (i := 16) scLaw75.nd rfl (Or.inl rfl))) (fun _ _ _ _ _ => (pts_one (pt_cmpR (by exact op_in_seq : OpR _ _ (rIn K false)) (pv 16) (pv 9) (by rfl)))) (fun _ _ _ _ _ => (pv 16))) pa_nil)) pa_nil))) pa_nil))) pa_nil))))) pss_nil)
        (pss_cons (ps_for PassesOwn.never rfl (pi_range1 (by rfl) T.range (pa_cons pe_int pa_nil)) (pg_name (i := 13) scLaw75.nd rfl (Or.inl rfl)) (pss_one (ps_if (PW.pt (pw_or (pt_cmpR (op_neD hr.units) (pe_call GTold hr12 (by rfl) mTold kTold bTold .nil pass0 (pa_cons (pv 5) (pa_cons (pv 7) (pa_cons (pe_callTy call_list_of (by rfl) T.list (by decide +kernel) (pa_cons (pv 9) pa_nil)) pa_nil)))) (pv 12) (nomark _)) (pw_or1 (pt_cmpR (op_neD hr.units) (pe_meth0 (pv 5) cl mR GR hr1 bR .nil pass0) (pv 11) (nomark _))))) (pss_one (ps_ret pe_bl)) pss_nil)))
        (pss_one (ps_ret (pe_cmpR op_eq (pe_callB (call_lenOwn GLen iLen fnLen hr2 bLen pass0) (by rfl) T.len PySem.boot_len (pa_cons (pv 5) pa_nil)) (pe_callB call_len_seq (by rfl) T.len PySem.boot_len (pa_cons (pv 3) pa_nil)) (nomark _))))))))))))))))))), ?_⟩
    refine ⟨_, rfl, a0, ns, rfl, hS, hlen, fun H1 b L s1 hb0 hL hok => ?_⟩
    refine ⟨_, rfl, _, rfl, b, L, 5, rfl, hL, hok, by decide, by decide, fun L1 n ok1 n0 n1 => ⟨b, L1, n, rfl, upd_same, ok1, n0, by omega, fun H2 a L2 ls s2 han ha hb2 ok2 okl hl => ?_⟩⟩
    have nab : a ≠ b := fun e => by rw [e, upd_same] at han; cases han
    refine ⟨_, rfl, _, rfl, b, L2, 5, rfl, hb2, ok2, by decide, by decide, fun L3 m ok3 m0 m1 => ⟨b, L3, m, rfl, upd_same, ok3, m0, by omega, fun H4 c L4 ks s4 hcn hc hb4 ok4 okk hk => ?_⟩⟩
    have ncb : c ≠ b := fun e => by rw [e, upd_same] at hcn; cases hcn
    have ha4 := s4 _ _ nab (draw_same _ _ nab ha)
    have lcan := okl.bag
    have hll : ls.length ≤ 24 := okl.few
    refine ⟨fun σ' H' => ∃ (c : Addr) (ks : List Str), σ' = [some (.ref a0), some (.ref b), some (.ref a), some (.ref c), none, none, none, none, none, none, none, none, none, none, none, none, none] ∧ BagIn H' b ∧ c ≠ b ∧ H' a = some (.lst (ls.map V.str)) ∧ H' c = some (.lst (ks.map V.str)) ∧ ks.Nodup ∧ (∀ z ∈ ks, validN z = true) ∧ ks.length ≤ 24, ?_, ?_⟩
    · refine ⟨_, rfl, b, L4, 6, rfl, hb4, ok4, by decide, by decide, fun L5 r ok5 r0 r1 => ⟨rfl, _, rfl, ?_⟩⟩
      have s5 : SameB b H4 (upd H4 b (.lst (L5.map V.int))) := draw_same
      have hb5 := upd_same (H := H4) (a := b) (o := .lst (L5.map V.int))
      generalize upd H4 b (.lst (L5.map V.int)) = H5 at *
      refine ite2 (fun _ => ?_) (fun _ => ?_)
      · refine ⟨_, rfl, b, L5, 2, rfl, hb5, ok5, by decide, by decide, fun L6 q ok6 q0 q1 => ?_⟩
        have s6 : SameB b H4 (upd H5 b (.lst (L6.map V.int))) := s5.trans draw_same
        have hb6 := upd_same (H := H5) (a := b) (o := .lst (L6.map V.int))
        generalize upd H5 b (.lst (L6.map V.int)) = H6 at *
        refine ⟨23, q, rfl, rfl, _, rfl, by omega, by omega, fun D hD => lc_range (lo := 0) (n := (23 + q).toNat) (fun i H' => H' = upd H6 D (.lst ((xnames i).map V.str))) rfl ?_ ?_⟩
        · rintro i H7 hi rfl
          refine ⟨rfl, _, rfl, _, _, rfl, rfl, _, rfl, ?_, _, _, rfl, rfl, ?_, _, upd_same, ?_, ?_⟩
          · exact Nat.lt_of_le_of_lt (Nat.log2_le_self _) (by omega)
          · show (("x" : Str)).length + _ ≤ sizeLine
            have v := xn_valid i (by omega)
            unfold validN at v
            simp only [Bool.and_eq_true, decide_eq_true_eq] at v
            have q2 := v.2.1
            unfold xname at q2
            rw [cat_len] at q2
            exact Nat.le_of_lt (small1000 (by omega))
          · rw [List.length_map]
            unfold xnames
            rw [List.length_map, List.length_range]
            exact small1000 (by omega)
          · rw [upd_upd, xn_step, List.map_append]
            rfl
        · rintro H7 rfl
          have nDb : D ≠ b := fun e => by rw [e, hb6] at hD; cases hD
          have s7 := s6.trans (SameB.of (Same.upd_new hD (o := .lst ((xnames (23 + q).toNat).map V.str))))
          refine ⟨D, xnames (23 + q).toNat, rfl, ⟨L6, by rw [upd_ne nDb.symm]; exact hb6, ok6⟩, nDb, s7 _ _ nab ha4, upd_same, (xn_take (by omega)).nodup xn_nodup, xn_all (by omega), ?_⟩
          unfold xnames
          rw [List.length_map, List.length_range]
          omega
      · exact ⟨c, ks, rfl, ⟨L5, hb5, ok5⟩, ncb, s5 _ _ nab ha4, s5 _ _ ncb hc, okk.nd, fun z h => okk.valid h, okk.few⟩
    clear hb4 hc hcn ncb hk okk ha4 s4 ok4 han ha hb2
    rintro σ' H5 ⟨c, ks, rfl, hb5, ncb, ha5, hc5, knd, kval, kfew⟩
    have ok := tab_first okl knd kval kfew
    have keys : (ks.map (firstL ls)).map (·.1) = ks := by rw [List.map_map]; exact List.map_id _
    have hl1 : (ls.take 1).length ≤ 1 := by rw [List.length_take]; omega
    -- the rows
    refine ⟨_, rfl, c, rfl, ⟨_, SqL.of hc5⟩, fun D hD => lc_it (walk_list (K := K) (a := c) (xs := ks.map V.str)) (fun i H' => ∃ rl : List RowIn, Same H5 H' ∧ H' D = some (.lst (refsOf rl)) ∧ (∀ r ∈ rl, RowD b ls H' r ∧ r.s ≠ D) ∧ rl.map RowIn.dat = ((ks.take i).map (firstL ls)).map rdat ∧ rl.length = i) ⟨[], Same.upd_new hD, upd_same, fun r hr => absurd hr (by simp), rfl, rfl⟩ (fun i H' _ ⟨_, s, _⟩ => SqL.of (s _ _ hc5)) ?_ ?_⟩
    · rintro i v H6 H7 hi ⟨rl, s6, hD6, hrl6, hdat6, hln6⟩ ⟨rfl, hv⟩
      obtain ⟨z, hz, rfl⟩ := map_at (show (ks.map V.str)[i]? = some v from hv)
      refine ⟨rfl, _, rfl, _, rfl, 1, rfl, a, _, rfl, SqL.of (s6 _ _ ha5), fun u hu => ⟨by show 2 ≤ sizeLine; decide, fun t ht => ?_⟩⟩
      have hcut : cutV (ls.map V.str) none (some 1) = (ls.take 1).map V.str := by
        have := cut_take (ls.map V.str) 1
        rw [List.map_take]
        exact this
      rw [hcut] at ht ⊢
      have su := Same.upd_new hu (o := .lst ((ls.take 1).map V.str))
      have st := Same.upd_new ht (o := .tup [.str z, .ref u])
      have nuD : u ≠ D := fun e => by rw [e, hD6] at hu; cases hu
      have nub : u ≠ b := fun e => by obtain ⟨xb, hxb⟩ := hb5.lst; rw [e, s6 _ _ hxb] at hu; cases hu
      have ntD : t ≠ D := fun e => by rw [e, su _ _ hD6] at ht; cases ht
      have hi' : i < ks.length := (List.getElem?_eq_some_iff.mp hz).1
      refine ⟨_, st _ _ (su _ _ hD6), by unfold refsOf; rw [List.length_map]; exact small1000 (by omega), rl ++ [⟨t, .str z, u, (ls.take 1).map V.str⟩], fun d o h => ?_, by rw [upd_same]; unfold refsOf; rw [List.map_append]; rfl, fun r hr => ?_, ?_, by rw [List.length_append, hln6]; rfl⟩
      · rw [upd_ne (ne_of_none h hD)]
        exact st _ _ (su _ _ (s6 _ _ h))
      · have keepD : ∀ {d : Addr} {o : HO}, d ≠ D → upd (upd H7 u (.lst ((ls.take 1).map V.str))) t (.tup [.str z, .ref u]) d = some o → upd (upd (upd H7 u (.lst ((ls.take 1).map V.str))) t (.tup [.str z, .ref u])) D (.lst (refsOf rl ++ [.ref t])) d = some o := fun n h => by rw [upd_ne n]; exact h
        rcases List.mem_append.mp hr with h | h
        · obtain ⟨g, nD⟩ := hrl6 r h
          exact ⟨⟨g.look, keepD (ne_tup_lst g.pair hD6) (st _ _ (su _ _ g.pair)), g.ns, keepD nD (st _ _ (su _ _ g.lst)), g.sub⟩, nD⟩
        · obtain rfl := List.mem_singleton.mp h
          exact ⟨⟨⟨z, rfl⟩, keepD ntD upd_same, nub, keepD nuD (st _ _ upd_same), ⟨_, rfl, List.take_sublist _ _⟩⟩, nuD⟩
      · rw [List.map_append, hdat6, take_at hz, List.map_append, List.map_append]
        rfl
    rintro H6 ⟨rows, s6, hR6, hrows, hdat6, hln6⟩
    have lenK : (ks.map V.str).length = ks.length := List.length_map ..
    rw [lenK, List.take_length] at hdat6
    rw [lenK] at hln6
    have ha6 := s6 _ _ ha5
    have hc6 := s6 _ _ hc5
    have hb6 := hb5.of s6
    have nDb : D ≠ b := fun e => by obtain ⟨xb, hxb⟩ := hb5.lst; rw [e, hxb] at hD; cases hD
    have hrw6 : ∀ r ∈ rows, RowD b ls H6 r := fun r hr => (hrows r hr).1
    clear hrows s6 ha5 hc5 hb5 hD s1 s2 hb0 hL
    generalize hrs : ks.map (firstL ls) = rs at *
    have hrl : rows.length = rs.length := by rw [← hrs, List.length_map]; exact hln6
    have hrf := ok.kfew
    -- the table
    refine ⟨_, rfl, a, _, rfl, .inl (SqL.of ha6), fun fi hfi => ?_⟩
    have s7 := Same.upd_new hfi (o := .lst (ls.map V.str))
    have hfi7 := upd_same (H := H6) (a := fi) (o := .lst (ls.map V.str))
    have ha7 := s7 _ _ ha6
    have hc7 := s7 _ _ hc6
    have hb7 := hb6.of s7
    have hR7 := s7 _ _ hR6
    have hrw7 : ∀ r ∈ rows, RowD b ls (upd H6 fi (.lst (ls.map V.str))) r := fun r hr => (hrw6 r hr).of hb6.lst (SameB.of s7)
    generalize upd H6 fi (.lst (ls.map V.str)) = H7 at *
    clear s7 ha6 hc6 hb6 hR6 hrw6 hfi
    refine ⟨_, rfl, D, rfl, ⟨_, SqL.of hR7⟩, fun D2 hD2 => lc_it (walk_list (K := K) (a := D) (xs := refsOf rows)) (fun i H' => ∃ rl : List RowIn, Same H7 H' ∧ H' D2 = some (.lst (refsOf rl)) ∧ (∀ r ∈ rl, RowG H' r ∧ r.s ≠ D2) ∧ rl.map RowIn.dat = (rs.take i).map rdat ∧ rl.length = i) ⟨[], Same.upd_new hD2, upd_same, fun r hr => absurd hr (by simp), rfl, rfl⟩ (fun i H' _ ⟨_, s, _⟩ => SqL.of (s _ _ hR7)) ?_ ?_⟩
    · rintro i v H8 H9 hi ⟨rl, s8, hD8, hrl8, hdat8, hln8⟩ ⟨rfl, hv⟩
      obtain ⟨r, hir, hr, rfl, gl, gx, hri⟩ := row_of hdat6 hv
      have G := (hrw7 r hr).g.of s8
      have pg := G.pair
      have qg := G.lst
      refine ⟨rfl, _, rfl, r.t, _, 0, _, rfl, rfl, SqT.of pg, rfl, _, rfl, r.t, _, 1, _, rfl, rfl, SqT.of pg, rfl, r.s, _, rfl, .inl (SqL.of qg), fun u hu => ⟨by show 2 ≤ sizeLine; decide, fun t ht => ?_⟩⟩
      have su := Same.upd_new hu (o := .lst r.xs)
      have st := Same.upd_new ht (o := .tup [r.look, .ref u])
      have nuD : u ≠ D2 := fun e => by rw [e, hD8] at hu; cases hu
      have ntD : t ≠ D2 := fun e => by rw [e, su _ _ hD8] at ht; cases ht
      refine ⟨_, st _ _ (su _ _ hD8), by unfold refsOf; rw [List.length_map]; exact small1000 (by omega), rl ++ [⟨t, r.look, u, r.xs⟩], fun d o h => ?_, by rw [upd_same]; unfold refsOf; rw [List.map_append]; rfl, fun r' hr' => ?_, ?_, by rw [List.length_append, hln8]; rfl⟩
      · rw [upd_ne (ne_of_none h hD2)]
        exact st _ _ (su _ _ (s8 _ _ h))
      · have keepD : ∀ {d : Addr} {o : HO}, d ≠ D2 → upd (upd H9 u (.lst r.xs)) t (.tup [r.look, .ref u]) d = some o → upd (upd (upd H9 u (.lst r.xs)) t (.tup [r.look, .ref u])) D2 (.lst (refsOf rl ++ [.ref t])) d = some o := fun n h => by rw [upd_ne n]; exact h
        rcases List.mem_append.mp hr' with h | h
        · obtain ⟨g, nD⟩ := hrl8 r' h
          exact ⟨⟨keepD (ne_tup_lst g.pair hD8) (st _ _ (su _ _ g.pair)), keepD nD (st _ _ (su _ _ g.lst))⟩, nD⟩
        · obtain rfl := List.mem_singleton.mp h
          exact ⟨⟨keepD ntD upd_same, keepD nuD (st _ _ upd_same)⟩, nuD⟩
      · rw [List.map_append, hdat8, take_at hri, List.map_append]
        show _ ++ [(r.look, r.xs)] = _ ++ [rdat rs[i]]
        rw [gl, gx]
        rfl
    rintro H8 ⟨rows2, s8, hD8, hrows2, hdat8, hln8⟩
    have lenR : (refsOf rows).length = rs.length := by unfold refsOf; rw [List.length_map, hrl]
    rw [lenR, List.take_length] at hdat8
    refine fun x dx nx ndx nex => make_ok (ts := rs) nx ndx nex (s8 _ _ hfi7) hD8 (fun r hr => (hrows2 r hr).1) hdat8 (fun y hy => ⟨ok.kval y hy, fun z hz => (ok.sub y hy).subset hz, Nat.le_trans (ok.sub y hy).length_le ok.lfew⟩) (init_ok ok) (fun z hz => okl.valid hz) (by omega) (by omega) fun H9 s9 hT9 => ?_
    have s79 := s8.trans s9
    have ha9 := s79 _ _ ha7
    have hc9 := s79 _ _ hc7
    have hb9 := hb7.of s79
    have hR9 := s79 _ _ hR7
    have hrw9 : ∀ r ∈ rows, RowD b ls H9 r := fun r hr => (hrw7 r hr).of hb7.lst (SameB.of s79)
    clear s79 s8 s9 hD8 hrows2 hdat8 hln8 hD2 ha7 hc7 hb7 hR7 hrw7 hfi7
    obtain ⟨L9, hb9, ok9⟩ := hb9
    -- the pool
    refine ⟨_, rfl, _, rfl, c, a, _, _, rfl, rfl, hc9, ha9, Nat.le_of_lt (small1000 (by rw [List.length_map, List.length_map]; omega)), fun p1 hp1 => ?_⟩
    have s10 := Same.upd_new hp1 (o := .lst (ks.map V.str ++ ls.map V.str))
    have hp110 := upd_same (H := H9) (a := p1) (o := .lst (ks.map V.str ++ ls.map V.str))
    have p1b : p1 ≠ b := fun e => by rw [e, hb9] at hp1; cases hp1
    have hb10 := s10 _ _ hb9
    generalize upd H9 p1 (.lst (ks.map V.str ++ ls.map V.str)) = H10 at *
    refine ⟨_, rfl, b, L9, 12, rfl, hb10, ok9, by decide, by decide, fun L11 q ok11 q0 q1 => ⟨q, rfl, q0, q1, fun H12 ov s12 fov => ⟨by show 1 ≤ sizeLine; decide, fun xa hxa => ⟨by show 4 ≤ sizeLine; decide, fun p2 hp2 => ?_⟩⟩⟩⟩
    have s11 : SameB b H10 (upd H10 b (.lst (L11.map V.int))) := draw_same
    have hb11 := upd_same (H := H10) (a := b) (o := .lst (L11.map V.int))
    have sx := Same.upd_new hxa (o := .lst [.str "x"])
    have hb12 := s12 _ _ hb11
    have xab : xa ≠ b := fun e => by rw [e, hb12] at hxa; cases hxa
    have s2' := Same.upd_new hp2 (o := .lst [.str "newlook", .str "other7", ov, .ref xa])
    have sB13 := s11.trans (SameB.of (s12.trans (sx.trans s2')))
    have hp213 := upd_same (H := upd H12 xa (.lst [.str "x"])) (a := p2) (o := .lst [.str "newlook", .str "other7", ov, .ref xa])
    have hxa13 := s2' _ _ (upd_same (H := H12) (a := xa) (o := .lst [.str "x"]))
    have hb13 := (sx.trans s2') _ _ hb12
    generalize upd (upd H12 xa (.lst [.str "x"])) p2 (.lst [.str "newlook", .str "other7", ov, .ref xa]) = H13 at *
    refine ⟨p1, p2, _, _, rfl, rfl, sB13 _ _ p1b hp110, hp213, Nat.le_of_lt (small1000 (by simp only [List.length_append, List.length_map, List.length_cons, List.length_nil]; omega)), fun p hp => ?_⟩
    have spp := Same.upd_new hp (o := .lst ((ks.map V.str ++ ls.map V.str) ++ [.str "newlook", .str "other7", ov, .ref xa]))
    have hP := upd_same (H := H13) (a := p) (o := .lst ((ks.map V.str ++ ls.map V.str) ++ [.str "newlook", .str "other7", ov, .ref xa]))
    have hxaP := spp _ _ hxa13
    have npb : p ≠ b := fun e => by rw [e, hb13] at hp; cases hp
    have hbP := spp _ _ hb13
    have sBP := (SameB.of (b := b) s10).trans (sB13.trans (SameB.of spp))
    have haP := sBP _ _ nab ha9
    have hcP := sBP _ _ ncb hc9
    have hRP := sBP _ _ nDb hR9
    have hTP := hT9.ofB ⟨_, hb9⟩ sBP
    have hrwP : ∀ r ∈ rows, RowD b ls _ r := fun r hr => (hrw9 r hr).of ⟨_, hb9⟩ sBP
    generalize upd H13 p (.lst ((ks.map V.str ++ ls.map V.str) ++ [.str "newlook", .str "other7", ov, .ref xa])) = H14 at *
    have nmP : ∀ v ∈ (ks.map V.str ++ ls.map V.str) ++ [V.str "newlook", .str "other7", ov, .ref xa], NmB b H14 v := fun v hv => by
      rcases List.mem_append.mp hv with hv | hv
      · rcases List.mem_append.mp hv with hv | hv
        · obtain ⟨z, hz, rfl⟩ := List.mem_map.mp hv
          exact ⟨free_str (kval z hz) _, fun e => by cases e⟩
        · obtain ⟨z, hz, rfl⟩ := List.mem_map.mp hv
          exact ⟨free_str (okl.valid hz) _, fun e => by cases e⟩
      · simp only [List.mem_cons, List.not_mem_nil, or_false] at hv
        rcases hv with rfl | rfl | rfl | rfl
        · exact ⟨free_lit (by decide +kernel) (by decide +kernel) _, fun e => by cases e⟩
        · exact ⟨free_lit (by decide +kernel) (by decide +kernel) _, fun e => by cases e⟩
        · exact ⟨fov _, fov.nb⟩
        · exact ⟨⟨["x"], hxaP, fun z h => by obtain rfl := List.mem_singleton.mp h; show PyData.canLay0 _ = true; decide +kernel⟩, fun e => xab (V.ref.inj e)⟩
    have plen : ((ks.map V.str ++ ls.map V.str) ++ [V.str "newlook", .str "other7", ov, .ref xa]).length = ks.length + ls.length + 4 := by
      simp only [List.length_append, List.length_map, List.length_cons, List.length_nil]
    generalize (ks.map V.str ++ ls.map V.str) ++ [V.str "newlook", .str "other7", ov, .ref xa] = pool at *
    clear s10 hp110 p1b hb10 hp1 s11 hb11 sx hb12 s2' sB13 hp213 hxa13 hb13 spp hxaP sBP hp hp2 hxa xab ha9 hc9 hR9 hT9 hrw9 hb9 s12 q0 q1
    -- the name
    refine ⟨_, rfl, _, rfl, _, rfl, p, _, rfl, .inl (SqL.of hP), b, L11, _, rfl, hbP, ok11, by omega, by omega, fun L15 q ok15 q0 q1 => ?_⟩
    obtain ⟨q, rfl⟩ := Int.eq_ofNat_of_zero_le q0
    have hq : q < pool.length := by omega
    have s15 : SameB b H14 (upd H14 b (.lst (L15.map V.int))) := draw_same
    refine ⟨p, _, (q : Int), pool[q], rfl, rfl, SqL.of (s15 _ _ npb hP), atI_nat (List.getElem?_eq_getElem hq), ?_⟩
    have hn15 := (nmP _ (List.getElem_mem hq)).ofB s15
    have hb15 := upd_same (H := H14) (a := b) (o := .lst (L15.map V.int))
    have ha15 := s15 _ _ nab haP
    have hc15 := s15 _ _ ncb hcP
    have hR15 := s15 _ _ nDb hRP
    have hT15 := hTP.ofB ⟨_, hbP⟩ s15
    have hrw15 : ∀ r ∈ rows, RowD b ls _ r := fun r hr => (hrwP r hr).of ⟨_, hbP⟩ s15
    generalize pool[q] = nm at *
    generalize upd H14 b (.lst (L15.map V.int)) = H15 at *
    clear nmP hP haP hcP hRP hTP hrwP hbP s15 plen hq q0 q1
    -- the bulbs
    refine ⟨_, rfl, _, rfl, a, a, _, _, rfl, rfl, ha15, ha15, Nat.le_of_lt (small1000 (by rw [List.length_map]; omega)), fun u1 hu1 => ?_⟩
    have t1 := Same.upd_new hu1 (o := .lst (ls.map V.str ++ ls.map V.str))
    refine ⟨_, rfl, u1, a, _, _, rfl, rfl, upd_same, t1 _ _ ha15, Nat.le_of_lt (small1000 (by simp only [List.length_append, List.length_map]; omega)), fun u2 hu2 => ⟨Nat.zero_le _, fun e1 he1 => ⟨by show 3 ≤ sizeLine; decide, fun u3 hu3 => ?_⟩⟩⟩
    have t2 := Same.upd_new hu2 (o := .lst ((ls.map V.str ++ ls.map V.str) ++ ls.map V.str))
    have t3 := Same.upd_new he1 (o := .lst [])
    have t4 := Same.upd_new hu3 (o := .lst [.str "absent9999", .int 7, .ref e1])
    have hu24 := (t3.trans t4) _ _ (upd_same (H := upd H15 u1 (.lst (ls.map V.str ++ ls.map V.str))) (a := u2) (o := .lst ((ls.map V.str ++ ls.map V.str) ++ ls.map V.str)))
    have he14 := t4 _ _ (upd_same (H := upd (upd H15 u1 (.lst (ls.map V.str ++ ls.map V.str))) u2 (.lst ((ls.map V.str ++ ls.map V.str) ++ ls.map V.str))) (a := e1) (o := .lst []))
    have e1b : e1 ≠ b := fun e => by rw [e, (t1.trans t2) _ _ hb15] at he1; cases he1
    refine ⟨u2, u3, _, _, rfl, rfl, hu24, upd_same, Nat.le_of_lt (small1000 (by simp only [List.length_append, List.length_map, List.length_cons, List.length_nil]; omega)), fun bb hbb => ?_⟩
    have t5 := Same.upd_new hbb (o := .lst (((ls.map V.str ++ ls.map V.str) ++ ls.map V.str) ++ [.str "absent9999", .int 7, .ref e1]))
    have t15 := t1.trans (t2.trans (t3.trans (t4.trans t5)))
    have hBB := upd_same (H := upd (upd (upd (upd H15 u1 (.lst (ls.map V.str ++ ls.map V.str))) u2 (.lst ((ls.map V.str ++ ls.map V.str) ++ ls.map V.str))) e1 (.lst [])) u3 (.lst [.str "absent9999", .int 7, .ref e1])) (a := bb) (o := .lst (((ls.map V.str ++ ls.map V.str) ++ ls.map V.str) ++ [.str "absent9999", .int 7, .ref e1]))
    have nbb : bb ≠ b := fun e => by rw [e, (t1.trans (t2.trans (t3.trans t4))) _ _ hb15] at hbb; cases hbb
    have he15 := t5 _ _ he14
    have hb16 := t15 _ _ hb15
    have ha16 := t15 _ _ ha15
    have hc16 := t15 _ _ hc15
    have hR16 := t15 _ _ hR15
    have hT16 := hT15.of t15
    have hn16 := hn15.ofB (SameB.of t15)
    have hrw16 : ∀ r ∈ rows, RowD b ls _ r := fun r hr => (hrw15 r hr).of ⟨_, hb15⟩ (SameB.of t15)
    generalize upd (upd (upd (upd (upd H15 u1 (.lst (ls.map V.str ++ ls.map V.str))) u2 (.lst ((ls.map V.str ++ ls.map V.str) ++ ls.map V.str))) e1 (.lst [])) u3 (.lst [.str "absent9999", .int 7, .ref e1])) bb (.lst (((ls.map V.str ++ ls.map V.str) ++ ls.map V.str) ++ [.str "absent9999", .int 7, .ref e1])) = H16 at *
    have nmB : ∀ v ∈ ((ls.map V.str ++ ls.map V.str) ++ ls.map V.str) ++ [V.str "absent9999", .int 7, .ref e1], NmB b H16 v := fun v hv => by
      have ofL : v ∈ ls.map V.str → NmB b H16 v := fun hv => by
        obtain ⟨z, hz, rfl⟩ := List.mem_map.mp hv
        exact ⟨free_str (okl.valid hz) _, fun e => by cases e⟩
      rcases List.mem_append.mp hv with hv | hv
      · rcases List.mem_append.mp hv with hv | hv
        · rcases List.mem_append.mp hv with hv | hv
          · exact ofL hv
          · exact ofL hv
        · exact ofL hv
      · simp only [List.mem_cons, List.not_mem_nil, or_false] at hv
        rcases hv with rfl | rfl | rfl
        · exact ⟨free_lit (by decide +kernel) (by decide +kernel) _, fun e => by cases e⟩
        · exact ⟨trivial, fun e => by cases e⟩
        · exact ⟨⟨[], he15, fun z h => absurd h (by simp)⟩, fun e => e1b (V.ref.inj e)⟩
    have blen : (((ls.map V.str ++ ls.map V.str) ++ ls.map V.str) ++ [V.str "absent9999", .int 7, .ref e1]).length = ls.length + ls.length + ls.length + 3 := by
      simp only [List.length_append, List.length_map, List.length_cons, List.length_nil]
    generalize ((ls.map V.str ++ ls.map V.str) ++ ls.map V.str) ++ [V.str "absent9999", .int 7, .ref e1] = bulbs at *
    clear t1 t2 t3 t4 t5 t15 hu24 he14 he15 hbb hu1 hu2 hu3 he1 ha15 hc15 hR15 hT15 hn15 hrw15 hb15 e1b
    -- the shown ones
    refine ⟨Nat.zero_le _, fun g hg0 => ?_⟩
    have t6 := Same.upd_new hg0 (o := .lst [])
    have hg17 := upd_same (H := H16) (a := g) (o := .lst [])
    have ngb : g ≠ b := fun e => by rw [e, hb16] at hg0; cases hg0
    have hb17 := t6 _ _ hb16
    have hBB17 := t6 _ _ hBB
    generalize upd H16 g (.lst []) = H17 at *
    refine ⟨_, rfl, b, L15, 4, rfl, hb17, ok15, by decide, by decide, fun L18 n ok18 n0 n1 => ⟨n, rfl, by omega, by omega, for_range (n := n.toNat) (lo := 0) (fun i σ H' => ∃ (ys : List V) (x10 : Option V), σ = [some (.ref a0), some (.ref b), some (.ref a), some (.ref c), some (.ref D), some (.ref x), some (.ref p), some nm, some (.ref bb), some (.ref g), x10, none, none, none, none, none, none] ∧ SameB b H16 H' ∧ BagIn H' b ∧ H' g = some (.lst ys) ∧ (∀ y ∈ ys, NmB b H16 y) ∧ ys.length = i)
      ⟨[], none, rfl, (SameB.of t6).trans draw_same, BagIn.upd ok18, by rw [upd_ne ngb]; exact hg17, fun y hy => absurd hy (by simp), rfl⟩ ?_ ?_⟩⟩
    · rintro i σ H18 hi ⟨ys, x10, rfl, s18, ⟨L19, hb18, ok19⟩, hg18, hys, hln⟩
      refine ⟨_, rfl, .inl ⟨rfl, _, SqL.of hg18⟩, _, rfl, _, rfl, _, rfl, bb, _, rfl, .inl (SqL.of (s18 _ _ nbb hBB)), b, L19, _, rfl, hb18, ok19, by omega, by omega, fun L20 q ok20 q0 q1 => ?_⟩
      obtain ⟨q, rfl⟩ := Int.eq_ofNat_of_zero_le q0
      have hq : q < bulbs.length := by omega
      have s19 : SameB b H18 (upd H18 b (.lst (L20.map V.int))) := draw_same
      refine ⟨bb, _, (q : Int), bulbs[q], rfl, rfl, SqL.of (s19 _ _ nbb (s18 _ _ nbb hBB)), atI_nat (List.getElem?_eq_getElem hq), ?_⟩
      refine ⟨g, _, _, rfl, rfl, by rw [upd_ne ngb]; exact hg18, by exact small1000 (by omega), ys ++ [bulbs[q]], _, rfl, fun d o nd h => ?_, ⟨L20, by rw [upd_ne ngb.symm, upd_same], ok20⟩, upd_same, fun y hy => ?_, by rw [List.length_append, hln]; rfl⟩
      · rw [upd_ne (ne_of_none h hg0)]
        exact s19 _ _ nd (s18 _ _ nd h)
      · rcases List.mem_append.mp hy with h | h
        · exact hys y h
        · obtain rfl := List.mem_singleton.mp h
          exact nmB _ (List.getElem_mem hq)
    rintro σ H18 ⟨ys, x10, rfl, s18, hb18, hg18, hys, hln⟩
    have hy3 : ys.length ≤ 3 := by omega
    have ha18 := s18 _ _ nab ha16
    have hc18 := s18 _ _ ncb hc16
    have hR18 := s18 _ _ nDb hR16
    have hT18 := hT16.ofB ⟨_, hb16⟩ s18
    have hn18 := (hn16.ofB s18).1
    have hy18 : ∀ y ∈ ys, NmD H18 y := fun y hy => ((hys y hy).ofB s18).1
    have hrw18 : ∀ r ∈ rows, RowG H18 r := fun r hr => ((hrw16 r hr).of ⟨_, hb16⟩ s18).g
    clear hb18 hb17 hb16 ha16 hc16 hR16 hT16 hn16 hrw16 s18 hBB17 hBB hg17 t6 hg0 nmB blen hys ngb nbb
    -- before
    refine ⟨_, rfl, D, rfl, ⟨_, SqL.of hR18⟩, fun B hB => lc_it (walk_list (K := K) (a := D) (xs := refsOf rows)) (fun i H' => ∃ rl : List RowIn, Same H18 H' ∧ H' B = some (.lst (refsOf rl)) ∧ (∀ r ∈ rl, RowT H' r) ∧ rl.map RowIn.dat = (rs.take i).map rdat ∧ rl.length = i) ⟨[], Same.upd_new hB, upd_same, fun r hr => absurd hr (by simp), rfl, rfl⟩ (fun i H' _ ⟨_, s, _⟩ => SqL.of (s _ _ hR18)) ?_ ?_⟩
    · rintro i v H19 H20 hi ⟨rl, s19, hD19, hrt, hdt, hln⟩ ⟨rfl, hv⟩
      obtain ⟨r, hir, hr, rfl, gl, gx, hri⟩ := row_of hdat6 hv
      have G := (hrw18 r hr).of s19
      have pg := G.pair
      have qg := G.lst
      rw [gl] at pg
      rw [gx] at qg
      refine ⟨rfl, _, rfl, r.t, _, 0, _, rfl, rfl, SqT.of pg, rfl, _, rfl, r.t, _, 1, _, rfl, rfl, SqT.of pg, rfl, r.s, _, rfl, .inl ⟨SqL.of qg, fun t1 ht1 => ⟨by show 2 ≤ sizeLine; decide, fun t2 ht2 => ?_⟩⟩⟩
      have n1D : B ≠ t1 := ne_of_none hD19 ht1
      have ht20 := (upd_none ht2).1
      have n21 : t1 ≠ t2 := (upd_none ht2).2.symm
      have n2D : B ≠ t2 := ne_of_none hD19 ht20
      refine ⟨_, by rw [upd_ne n2D, upd_ne n1D]; exact hD19, by unfold refsOf; rw [List.length_map]; exact small1000 (by omega), rl ++ [⟨t2, .str rs[i].1, t1, rs[i].2.map V.str⟩], fun c o h => ?_, by rw [upd_same]; unfold refsOf; rw [List.map_append]; rfl, fun y hy => ?_, ?_, ?_⟩
      · have h3 := s19 _ _ h
        rw [upd_ne (ne_of_none h hB), upd_ne (ne_of_none h3 ht20), upd_ne (ne_of_none h3 ht1)]
        exact h3
      · have keep : ∀ {c : Addr} {ys : List V}, H20 c = some (.tup ys) → upd (upd (upd H20 t1 (.tup (rs[i].2.map V.str))) t2 (.tup [.str rs[i].1, .ref t1])) B (.lst (refsOf rl ++ [.ref t2])) c = some (.tup ys) := fun {c ys} h => by
          have nD : c ≠ B := fun q => by rw [q, hD19] at h; cases h
          rw [upd_ne nD, upd_ne (ne_of_none h ht20), upd_ne (ne_of_none h ht1)]
          exact h
        rcases List.mem_append.mp hy with h | h
        · exact ⟨keep (hrt y h).pair, keep (hrt y h).tup⟩
        · obtain rfl := List.mem_singleton.mp h
          exact ⟨by rw [upd_ne n2D.symm, upd_same], by rw [upd_ne n1D.symm, upd_ne n21, upd_same]⟩
      · rw [List.map_append, hdt, take_at hri, List.map_append]
        rfl
      · rw [List.length_append, hln]
        rfl
    rintro H20 ⟨rl, s20, hB20, hrt, hdt, hln2⟩
    rw [lenR, List.take_length] at hdt
    rw [lenR] at hln2
    have ha20 := s20 _ _ ha18
    have hc20 := s20 _ _ hc18
    have hR20 := s20 _ _ hR18
    have hT20 := hT18.of s20
    have hn20 := hn18.of s20
    have hg20 := s20 _ _ hg18
    have hy20 : ∀ y ∈ ys, NmD H20 y := fun y hy => (hy18 y hy).of s20
    have hrw20 : ∀ r ∈ rows, RowG H20 r := fun r hr => (hrw18 r hr).of s20
    clear s20 ha18 hc18 hR18 hT18 hn18 hg18 hy18 hrw18 hB
    -- what is due
    refine ⟨_, rfl, _, rfl, _, rfl, _, rfl, by show 2 ≤ sizeLine; decide, fun t ht => ⟨by show 1 ≤ sizeLine; decide, fun l hl' => ?_⟩⟩
    have w1 := Same.upd_new ht (o := .tup [nm, .ref g])
    have w2 := Same.upd_new hl' (o := .lst [.ref t])
    refine ⟨D, l, _, _, rfl, rfl, w2 _ _ (w1 _ _ hR20), upd_same, Nat.le_of_lt (small1000 (by unfold refsOf; rw [List.length_map]; simp only [List.length_cons, List.length_nil]; omega)), fun R2 hR2 => ?_⟩
    have w3 := Same.upd_new hR2 (o := .lst (refsOf rows ++ [.ref t]))
    have w13 := w1.trans (w2.trans w3)
    have ht21 := (w2.trans w3) _ _ (upd_same (H := H20) (a := t) (o := .tup [nm, .ref g]))
    have hR21 := upd_same (H := upd (upd H20 t (.tup [nm, .ref g])) l (.lst [.ref t])) (a := R2) (o := .lst (refsOf rows ++ [.ref t]))
    generalize upd (upd (upd H20 t (.tup [nm, .ref g])) l (.lst [.ref t])) R2 (.lst (refsOf rows ++ [.ref t])) = H21 at *
    have edat : (rows ++ [(⟨t, nm, g, ys⟩ : RowIn)]).map RowIn.dat = rs.map rdat ++ [(nm, ys)] := by
      rw [List.map_append, hdat6]
      rfl
    refine ⟨a, R2, ls.map V.str, rows ++ [⟨t, nm, g, ys⟩], rfl, SqL.of (w13 _ _ ha20), fun v hv => ?_, by rw [List.length_map]; omega, ?_, fun r hr => ?_, by rw [List.length_append]; simp only [List.length_cons, List.length_nil]; omega, fun H22 dv s22 res => ?_⟩
    · obtain ⟨z, hz, rfl⟩ := List.mem_map.mp hv
      exact free_str (okl.valid hz) _
    · refine SqL.of ?_
      rw [List.map_append]
      exact hR21
    · rcases List.mem_append.mp hr with h | h
      · obtain ⟨i, hi, ei⟩ := List.getElem_of_mem h
        have hir : i < rs.length := by omega
        have ed : r.dat = rdat rs[i] := by
          have e := congrArg (fun l => l[i]?) hdat6
          simp only [List.getElem?_map, List.getElem?_eq_getElem hi, List.getElem?_eq_getElem hir, Option.map_some, ei] at e
          exact Option.some.inj e
        have e1 : r.look = .str rs[i].1 := congrArg Prod.fst ed
        have e2 : r.xs = rs[i].2.map V.str := congrArg Prod.snd ed
        have G := (hrw20 r h).of w13
        have hm : rs[i] ∈ rs := List.getElem_mem hir
        refine ⟨⟨SqT.of G.pair, by rw [e1]; exact validN_nm (ok.kval _ hm), SqL.of G.lst, by rw [e2]; exact strs_nm fun z hz => ok.lval z ((ok.sub _ hm).subset hz), ?_⟩, fun v hv => ?_⟩
        · rw [e2, List.length_map]
          have := (ok.sub _ hm).length_le
          omega
        · rw [e2] at hv
          obtain ⟨z, hz, rfl⟩ := List.mem_map.mp hv
          exact free_str (ok.lval z ((ok.sub _ hm).subset hz)) _
      · obtain rfl := List.mem_singleton.mp h
        exact ⟨⟨SqT.of ht21, (hn20.of w13).ok, SqL.of (w13 _ _ hg20), fun v hv => ((hy20 v hv).of w13).ok, by show ys.length ≤ 1000; omega⟩, fun v hv => (hy20 v hv).of w13⟩
    rw [edat, init_more ok] at res
    have s222 := w13.trans s22
    have ha22 := s222 _ _ ha20
    have hc22 := s222 _ _ hc20
    have hT22 := hT20.of s222
    have hn22 := hn20.of s222
    have hg22 := s222 _ _ hg20
    have hB22 := s222 _ _ hB20
    have hrt22 : ∀ r ∈ rl, RowT H22 r := fun r hr => (hrt r hr).of s222
    have hy22 : ∀ y ∈ ys, NmD H22 y := fun y hy => (hy20 y hy).of s222
    clear w1 w2 w3 w13 ht21 hR21 s22 s222 ha20 hc20 hT20 hn20 hg20 hB20 hrt hy20 hrw20 hR20 hl' ht hR2 edat
    refine ⟨fun σ' H' => ∃ dv, σ' = [some (.ref a0), some (.ref b), some (.ref a), some (.ref c), some (.ref D), some (.ref x), some (.ref p), some nm, some (.ref bb), some (.ref g), x10, some (.ref B), some dv, none, none, none, none] ∧ Same H22 H' ∧ DueAt ls rs nm ys H' dv, ?_, ?_⟩
    · refine ⟨_, rfl, rfl, _, rfl, ?_⟩
      cases hm : moreT ls rs nm ys with
      | error er =>
        rw [hm] at res
        obtain ⟨t2, rfl, ht2⟩ := res
        refine iteZ (decide_eq_false (fun e => by cases e)) ⟨_, rfl, Same.refl H22, .inl ⟨er, t2, hm, rfl, ht2⟩⟩
      | ok pr =>
        obtain ⟨ls', rs'⟩ := pr
        rw [hm] at res
        obtain rfl : dv = .non := res
        obtain ⟨z, rfl, hz, rfl, rfl, ok'⟩ := more_ok ok hm
        have yst := more_strs hm
        refine iteY (decide_eq_true rfl) ?_
        refine ⟨_, rfl, _, rfl, _, rfl, a, rfl, ⟨_, SqL.of ha22⟩, fun D3 hD3 => lc_it (walk_list (K := K) (a := a) (xs := ls'.map V.str)) (fun i H' => H' = upd H22 D3 (.lst ((chosen (ls'.take i) (ys.map strOf)).map V.str))) (by show _ = _; simp [chosen]) (fun i H' _ e => by rw [e]; exact SqL.of (Same.upd_new hD3 _ _ ha22)) ?_ ?_⟩
        · rintro i v H23 H24 hi rfl ⟨rfl, hv⟩
          obtain ⟨l1, hl1', rfl⟩ := map_at (show (ls'.map V.str)[i]? = some v from hv)
          have sD := Same.upd_new hD3 (o := .lst ((chosen (ls'.take i) (ys.map strOf)).map V.str))
          refine ⟨rfl, _, rfl, _, rfl, g, ys, rfl, .inl (SqL.of (sD _ _ hg22)), rfl, by rw [yst]; exact flat_strs _, _, rfl, ?_⟩
          have ein : inV (.str l1) ys = decide (l1 ∈ ys.map strOf) := by
            conv => lhs; rw [yst]
            exact inV_str
          show if inV (.str l1) ys = true then _ else _
          rw [ein]
          have step := chosen_step (zs := ys.map strOf) hl1'
          by_cases hmm : l1 ∈ ys.map strOf
          · rw [decide_eq_true hmm] at step ⊢
            refine iteT ⟨_, rfl, _, upd_same, by rw [List.length_map]; exact small1000 (by have := chosen_len (zs := ys.map strOf) (i := i) ok.lfew; omega), ?_⟩
            rw [upd_upd, step, if_pos rfl, List.map_append]
            rfl
          · rw [decide_eq_false hmm] at step ⊢
            refine iteF ?_
            rw [step, if_neg (by decide), List.append_nil]
        · rintro H23 rfl
          rw [List.length_map, List.take_length]
          have sD := Same.upd_new hD3 (o := .lst ((chosen ls' (ys.map strOf)).map V.str))
          refine ⟨D3, _, rfl, .inl ⟨SqL.of upd_same, fun tt htt => ⟨by show 2 ≤ sizeLine; decide, fun t2 ht2 => ⟨by show 1 ≤ sizeLine; decide, fun l2 hl2 => ?_⟩⟩⟩⟩
          have v1 := Same.upd_new htt (o := .tup ((chosen ls' (ys.map strOf)).map V.str))
          have v2 := Same.upd_new ht2 (o := .tup [.str z, .ref tt])
          have v3 := Same.upd_new hl2 (o := .lst [.ref t2])
          have htt3 := (v2.trans v3) _ _ (upd_same (H := upd H22 D3 (.lst ((chosen ls' (ys.map strOf)).map V.str))) (a := tt) (o := .tup ((chosen ls' (ys.map strOf)).map V.str)))
          have ht23 := v3 _ _ (upd_same (H := upd (upd H22 D3 (.lst ((chosen ls' (ys.map strOf)).map V.str))) tt (.tup ((chosen ls' (ys.map strOf)).map V.str))) (a := t2) (o := .tup [.str z, .ref tt]))
          have hl23 := upd_same (H := upd (upd (upd H22 D3 (.lst ((chosen ls' (ys.map strOf)).map V.str))) tt (.tup ((chosen ls' (ys.map strOf)).map V.str))) t2 (.tup [.str z, .ref tt])) (a := l2) (o := .lst [.ref t2])
          have v03 := sD.trans (v1.trans (v2.trans v3))
          generalize upd (upd (upd (upd H22 D3 (.lst ((chosen ls' (ys.map strOf)).map V.str))) tt (.tup ((chosen ls' (ys.map strOf)).map V.str))) t2 (.tup [.str z, .ref tt])) l2 (.lst [.ref t2]) = H24 at *
          refine ⟨B, l2, _, _, rfl, rfl, v03 _ _ hB22, hl23, Nat.le_of_lt (small1000 (by unfold refsOf; rw [List.length_map]; simp only [List.length_cons, List.length_nil]; omega)), fun R3 hR3 => ⟨by show 2 ≤ sizeLine; decide, fun t3 ht3 => ?_⟩⟩
          have v4 := Same.upd_new hR3 (o := .lst (refsOf rl ++ [.ref t2]))
          have v5 := Same.upd_new ht3 (o := .tup [.str "rows", .ref R3])
          refine ⟨_, rfl, v03.trans (v4.trans v5), .inr ⟨ls', _, t3, R3, rl ++ [⟨t2, .str z, tt, (chosen ls' (ys.map strOf)).map V.str⟩], hm, rfl, upd_same, ?_, fun r hr => ?_, ?_⟩⟩
          · refine v5 _ _ ?_
            rw [upd_same]
            unfold refsOf
            rw [List.map_append]
            rfl
          · rcases List.mem_append.mp hr with h | h
            · exact (hrt22 r h).of (v03.trans (v4.trans v5))
            · obtain rfl := List.mem_singleton.mp h
              exact ⟨(v4.trans v5) _ _ ht23, (v4.trans v5) _ _ htt3⟩
          · rw [List.map_append, hdt, List.map_append]
            rfl
    clear res
    rintro σ' H23 ⟨dv, rfl, s23, due⟩
    have ha23 := s23 _ _ ha22
    have hc23 := s23 _ _ hc22
    have hT23 := hT22.of s23
    have hn23 := hn22.of s23
    have hg23 := s23 _ _ hg22
    have hB23 := s23 _ _ hB22
    have hrt23 : ∀ r ∈ rl, RowT H23 r := fun r hr => (hrt22 r hr).of s23
    have hy23 : ∀ y ∈ ys, NmD H23 y := fun y hy => (hy22 y hy).of s23
    clear s23 ha22 hc22 hT22 hn22 hg22 hB22 hrt22 hy22
    -- the turns
    refine ⟨2, rfl, by decide, by decide, for_range (n := 2) (lo := 0) (fun i σ H' => ∃ x13 : Option V, σ = [some (.ref a0), some (.ref b), some (.ref a), some (.ref c), some (.ref D), some (.ref x), some (.ref p), some nm, some (.ref bb), some (.ref g), x10, some (.ref B), some dv, x13, none, none, none] ∧ Same H23 H') ⟨none, rfl, Same.refl H23⟩ ?_ ?_⟩
    · rintro i σ H24 hi ⟨x13, rfl, s24⟩
      refine ⟨_, rfl, _, rfl, _, rfl, g, _, rfl, .inl (SqL.of (s24 _ _ hg23)), fun g2 hg2 => ?_⟩
      have s25 := s24.trans (Same.upd_new hg2 (o := .lst ys))
      have second : ∀ H26, Same H23 H26 → ∃ dx fs, H26 x = some (.ins CT dx fs) ∧ fs.lookup ("rows" : Str) = none ∧ spTRows K CT (.ref x :: []) H26 (fun v H27 => ∃ d e, Dp K H27 v d ∧ Dp K H27 (.ref B) e ∧ SeqAt.shaped d = true ∧ SeqAt.shaped e = true ∧ PyData.eqv d e = true ∧ Same H23 H27) E0 := fun H26 s26 => by
        have hT26 := hT23.of s26
        have hT27 := hT26
        obtain ⟨dx, lt, sd, kt, kvs, hp, _⟩ := hT27
        refine ⟨dx, _, hp, pf3_no _ _ _ rows_ne.1 rows_ne.2.1 rows_ne.2.2, x, ls, rs, rfl, hT26, ok, fun H27 l rows' s27 _ hl27 hrt27 hd27 => ?_⟩
        have shp := shaped_ofn (rowsT_can ok.can) (Nat.le_trans (rowsT_dep ok.can) (by decide))
        exact ⟨.list (rs.map dataT), .list (rs.map dataT), .lst (SqL.of hl27) (dp_rowsT hrt27 hd27), .lst (SqL.of ((s26.trans s27) _ _ hB23)) (dp_rowsT (fun r hr => (hrt23 r hr).of (s26.trans s27)) hdt), shp, shp, eqv_same shp, s26.trans s27⟩
      have next : ∀ H26, Same H23 H26 → ∀ {v : V} {d : PyData}, Dp K H26 v d → Dp K H26 dv d → SeqAt.shaped d = true → True := fun _ _ _ _ _ _ _ => trivial
      refine ⟨x, g2, nm, ls, rs, ys, rfl, hT23.of s25, ok, hn23.of s25, upd_same, fun y hy => (hy23 y hy).of s25, hy3, fun ls' rs' hm H26 t l rows' s26 ht hl26 hrt26 hd26 => ?_, fun er hm H26 t s26 _ ht => ?_⟩
      · rcases due with ⟨er, t', e, _, _⟩ | ⟨ls2, rs2, t', l', rowsE, e, rfl, ht', hl', hrE, hdE⟩
        · rw [hm] at e
          cases e
        rw [hm] at e
        cases e
        obtain ⟨_, _, _, _, _, ok'⟩ := more_ok ok hm
        have s236 := s25.trans s26
        have shp := shaped_ofn (d := .tuple [.str "rows", .list (rs'.map dataT)]) (can_word (by show PyData.canLay0 _ = true; decide +kernel) (rowsT_can ok'.can)) (dep_word (rowsT_dep ok'.can))
        refine ⟨_, rfl, .tuple [.str "rows", .list (rs'.map dataT)], .tuple [.str "rows", .list (rs'.map dataT)], .tup (SqT.of ht) (.cons (.str _) (.cons (.lst (SqL.of hl26) (dp_rowsT hrt26 hd26)) .nil)), .tup (SqT.of (s236 _ _ ht')) (.cons (.str _) (.cons (.lst (SqL.of (s236 _ _ hl')) (dp_rowsT (fun r hr => (hrE r hr).of s236) hdE)) .nil)), shp, shp, _, rfl, iteZ (by rw [eqv_same shp]; rfl) ?_⟩
        obtain ⟨dx, fs, h1, h2, h3⟩ := second H26 s236
        obtain ⟨p', ls3, rs3, e3, hT3, ok3, k3⟩ := h3
        cases e3
        refine ⟨_, rfl, x, dx, fs, rfl, h1, h2, x, ls3, rs3, rfl, hT3, ok3, fun H27 l rows'' s27 n1 n2 n3 n4 => ?_⟩
        obtain ⟨d, e, dp1, dp2, sh1, sh2, eq, s28⟩ := k3 H27 l rows'' s27 n1 n2 n3 n4
        exact ⟨_, rfl, d, e, dp1, dp2, sh1, sh2, _, rfl, iteZ (by rw [eq]; rfl) ⟨_, rfl, s28⟩⟩
      · obtain ⟨er', t', e, rfl, ht'⟩ : ∃ er' t', moreT ls rs nm ys = .error er' ∧ dv = .ref t' ∧ H23 t' = some (.tup [.str (erw er').1, (erw er').2]) := by
          rcases due with h | ⟨ls2, rs2, t', l', rowsE, e, _, _, _, _, _⟩
          · exact h
          · rw [hm] at e
            cases e
        rw [hm] at e
        cases e
        have s236 := s25.trans s26
        have hv : ∃ d, Dp K H26 (erw er).2 d ∧ PyData.canLay0 d = true ∧ d.depth ≤ 1 := by
          rcases more_val hm with q | q | q
          · rw [q]; exact ⟨.int 24, .int _, by simp [PyData.canLay0], by simp [PyData.depth]⟩
          · rw [q]
            obtain ⟨d, h1, h2, h3, _⟩ := (hn23.of s236).dat K
            exact ⟨d, h1, h2, h3⟩
          · obtain ⟨d, h1, h2, h3, _⟩ := ((hy23 _ q).of s236).dat K
            exact ⟨d, h1, h2, h3⟩
        obtain ⟨d, dp, dc, dd⟩ := hv
        have shp := shaped_ofn (can_word (erw_can er) dc) (Nat.le_trans (dep_word (w := (erw er).1) dd) (by decide))
        refine ⟨_, rfl, .tuple [.str (erw er).1, d], .tuple [.str (erw er).1, d], .tup (SqT.of ht) (.cons (.str _) (.cons dp .nil)), .tup (SqT.of (s236 _ _ ht')) (.cons (.str _) (.cons dp .nil)), shp, shp, _, rfl, iteZ (by rw [eqv_same shp]; rfl) ?_⟩
        obtain ⟨dx, fs, h1, h2, h3⟩ := second H26 s236
        obtain ⟨p', ls3, rs3, e3, hT3, ok3, k3⟩ := h3
        cases e3
        refine ⟨_, rfl, x, dx, fs, rfl, h1, h2, x, ls3, rs3, rfl, hT3, ok3, fun H27 l rows'' s27 n1 n2 n3 n4 => ?_⟩
        obtain ⟨d, e, dp1, dp2, sh1, sh2, eq, s28⟩ := k3 H27 l rows'' s27 n1 n2 n3 n4
        exact ⟨_, rfl, d, e, dp1, dp2, sh1, sh2, _, rfl, iteZ (by rw [eq]; rfl) ⟨_, rfl, s28⟩⟩
    rintro σ H24 ⟨x13, rfl, s24⟩
    have hT24 := hT23.of s24
    have hT25 := hT24
    obtain ⟨dx, lt, sd, kt, kvs, hp, _⟩ := hT25
    refine ⟨_, rfl, x, dx, _, rfl, hp, x, ls, rs, rfl, hT24, rs.length, rfl, by omega, ?_⟩
    refine ⟨_, rfl, c, _, rfl, .inl (SqL.of (s24 _ _ hc23)), rfl, ?_⟩
    have e : decide (V.int (rs.length : Int) = V.int ((ks.map V.str).length : Int)) = true := by
      rw [List.length_map, ← hrs, List.length_map]
      exact decide_eq_true rfl
    rw [e]
    exact k _
end
end Dl

namespace Dl
open PySem PySem.Spec PyProof.Rows L2
theorem own_exm {K : PySem.W.Frag} {S : Addr} (h1 : PySem.W.subIn K (.ref S) (.type "BaseException") = some true) (h2 : PySem.W.isClsIn K S = true) (h3 : PySem.W.typeIn K (.ref S) = some (.type "type")) (h4 : PySem.W.subIn K (.ref S) (.ref S) = some true) :
    PySem.W.exmOne K (.ref S) (.ref S) = some true := by
  have h5 : ((PySem.W.clsIn K S).isSome && PySem.W.typeIn K (.ref S) == some (.type "type")) = true := by
    rw [h3]
    simpa using (show (PySem.W.clsIn K S).isSome = true from h2)
  have h6 : (PySem.W.subIn K (.ref S) (.type "BaseException") == some true) = true := by rw [h1]; rfl
  have whole : PySem.W.exmOne K (.ref S) (.ref S) = if (PySem.W.subIn K (.ref S) (.type "BaseException") == some true) = true then (if ((PySem.W.clsIn K S).isSome && PySem.W.typeIn K (.ref S) == some (.type "type")) = true then PySem.W.subIn K (.ref S) (.ref S) else none) else none := rfl
  rw [whole, if_pos h6, if_pos h5, h4]
theorem all_mk {l : PySem.W.OpenLaw} {w : World} {K : PySem.W.Frag} {h : Heap} {mg : Str → Option Value} {fa f_is_name f_check_name f_check_new f_check_known f_distinct_names f_check_shown f_chosen_of f_law_bag f_law_take f_law_name f_law_names f_law_fault f_law_names_due f_law_due f_law_odd_name f_law_widened f_law_told f_law C_InvalidName f_InvalidName C_DuplicateName f_DuplicateName C_UnknownName f_UnknownName C_TooMany f_TooMany C_Table f_Table_init f_Table_len f_Table_rows f_Table_with_look : Addr} (X : K.In h) (G : h.Ns mainGlobals mg) (hfa : mg "law" = some (.ref fa))
    {od_is_name an_is_name od_check_name an_check_name od_check_new an_check_new od_check_known an_check_known od_distinct_names an_distinct_names od_check_shown an_check_shown od_chosen_of an_chosen_of od_law_bag an_law_bag od_law_take an_law_take od_law_name an_law_name od_law_names an_law_names od_law_fault an_law_fault od_law_names_due an_law_names_due od_law_due an_law_due od_law_odd_name an_law_odd_name od_law_widened an_law_widened od_law_told an_law_told od_law an_law od_InvalidName an_InvalidName od_DuplicateName an_DuplicateName od_UnknownName an_UnknownName od_TooMany an_TooMany od_Table_init an_Table_init od_Table_len an_Table_len od_Table_rows an_Table_rows od_Table_with_look an_Table_with_look : Option Addr} {sl_is_name sl_check_name sl_check_new sl_check_known sl_distinct_names sl_check_shown sl_chosen_of sl_law_bag sl_law_take sl_law_name sl_law_names sl_law_fault sl_law_names_due sl_law_due sl_law_odd_name sl_law_widened sl_law_told sl_law sl_InvalidName sl_DuplicateName sl_UnknownName sl_TooMany sl_Table_init sl_Table_len sl_Table_rows sl_Table_with_look : Array (Option Value)} {oc_is_name kV_is_name dc_is_name pm_is_name cd_is_name ct_is_name oc_check_name kV_check_name dc_check_name pm_check_name cd_check_name ct_check_name oc_check_new kV_check_new dc_check_new pm_check_new cd_check_new ct_check_new oc_check_known kV_check_known dc_check_known pm_check_known cd_check_known ct_check_known oc_distinct_names kV_distinct_names dc_distinct_names pm_distinct_names cd_distinct_names ct_distinct_names oc_check_shown kV_check_shown dc_check_shown pm_check_shown cd_check_shown ct_check_shown oc_chosen_of kV_chosen_of dc_chosen_of pm_chosen_of cd_chosen_of ct_chosen_of oc_law_bag kV_law_bag dc_law_bag pm_law_bag cd_law_bag ct_law_bag oc_law_take kV_law_take dc_law_take pm_law_take cd_law_take ct_law_take oc_law_name kV_law_name dc_law_name pm_law_name cd_law_name ct_law_name oc_law_names kV_law_names dc_law_names pm_law_names cd_law_names ct_law_names oc_law_fault kV_law_fault dc_law_fault pm_law_fault cd_law_fault ct_law_fault oc_law_names_due kV_law_names_due dc_law_names_due pm_law_names_due cd_law_names_due ct_law_names_due oc_law_due kV_law_due dc_law_due pm_law_due cd_law_due ct_law_due oc_law_odd_name kV_law_odd_name dc_law_odd_name pm_law_odd_name cd_law_odd_name ct_law_odd_name oc_law_widened kV_law_widened dc_law_widened pm_law_widened cd_law_widened ct_law_widened oc_law_told kV_law_told dc_law_told pm_law_told cd_law_told ct_law_told oc_law kV_law dc_law pm_law cd_law ct_law oc_InvalidName kV_InvalidName dc_InvalidName pm_InvalidName cd_InvalidName ct_InvalidName oc_DuplicateName kV_DuplicateName dc_DuplicateName pm_DuplicateName cd_DuplicateName ct_DuplicateName oc_UnknownName kV_UnknownName dc_UnknownName pm_UnknownName cd_UnknownName ct_UnknownName oc_TooMany kV_TooMany dc_TooMany pm_TooMany cd_TooMany ct_TooMany oc_Table_init kV_Table_init dc_Table_init pm_Table_init cd_Table_init ct_Table_init oc_Table_len kV_Table_len dc_Table_len pm_Table_len cd_Table_len ct_Table_len oc_Table_rows kV_Table_rows dc_Table_rows pm_Table_rows cd_Table_rows ct_Table_rows oc_Table_with_look kV_Table_with_look dc_Table_with_look pm_Table_with_look cd_Table_with_look ct_Table_with_look : Value} {t_LONGEST t_SIGNS t_LIMIT : Tok}
    {nm_InvalidName q_InvalidName : Str} {N_InvalidName : Addr} {bs_InvalidName bm_InvalidName : List Value} {sn_InvalidName : List Str} {sub_InvalidName : List Value} {ab_InvalidName : Bool} {col_InvalidName : Option Bool} {dd_InvalidName : Option Addr} {m0_InvalidName m1_InvalidName m2_InvalidName m3_InvalidName m5_InvalidName : Option Value}
    {nm_DuplicateName q_DuplicateName : Str} {N_DuplicateName : Addr} {bs_DuplicateName bm_DuplicateName : List Value} {sn_DuplicateName : List Str} {sub_DuplicateName : List Value} {ab_DuplicateName : Bool} {col_DuplicateName : Option Bool} {dd_DuplicateName : Option Addr} {m0_DuplicateName m1_DuplicateName m2_DuplicateName m3_DuplicateName m5_DuplicateName : Option Value}
    {nm_UnknownName q_UnknownName : Str} {N_UnknownName : Addr} {bs_UnknownName bm_UnknownName : List Value} {sn_UnknownName : List Str} {sub_UnknownName : List Value} {ab_UnknownName : Bool} {col_UnknownName : Option Bool} {dd_UnknownName : Option Addr} {m0_UnknownName m1_UnknownName m2_UnknownName m3_UnknownName m5_UnknownName : Option Value}
    {nm_TooMany q_TooMany : Str} {N_TooMany : Addr} {bs_TooMany bm_TooMany : List Value} {sn_TooMany : List Str} {sub_TooMany : List Value} {ab_TooMany : Bool} {col_TooMany : Option Bool} {dd_TooMany : Option Addr} {m0_TooMany m1_TooMany m2_TooMany m3_TooMany m5_TooMany : Option Value}
    (a_is_name : PySem.W.nsIn K mainGlobals "is_name" = some (some (.ref f_is_name)))
    (l_is_name : K.lookup f_is_name = some ⟨oc_is_name, od_is_name, .func (PySem.W.fnOf "is_name" "is_name" (defArgs sIsName) (defBody sIsName) (defScope sIsName) .none kV_is_name dc_is_name pm_is_name an_is_name cd_is_name ct_is_name), sl_is_name⟩)
    (c_is_name : PySem.W.codeIn K cd_is_name "is_name" = true)
    (k_is_name : PySem.W.keepIn K (.ref f_is_name) = true)
    (a_check_name : PySem.W.nsIn K mainGlobals "check_name" = some (some (.ref f_check_name)))
    (l_check_name : K.lookup f_check_name = some ⟨oc_check_name, od_check_name, .func (PySem.W.fnOf "check_name" "check_name" (defArgs sCheckName) (defBody sCheckName) (defScope sCheckName) .none kV_check_name dc_check_name pm_check_name an_check_name cd_check_name ct_check_name), sl_check_name⟩)
    (c_check_name : PySem.W.codeIn K cd_check_name "check_name" = true)
    (k_check_name : PySem.W.keepIn K (.ref f_check_name) = true)
    (a_check_new : PySem.W.nsIn K mainGlobals "check_new" = some (some (.ref f_check_new)))
    (l_check_new : K.lookup f_check_new = some ⟨oc_check_new, od_check_new, .func (PySem.W.fnOf "check_new" "check_new" (defArgs sCheckNew) (defBody sCheckNew) (defScope sCheckNew) .none kV_check_new dc_check_new pm_check_new an_check_new cd_check_new ct_check_new), sl_check_new⟩)
    (c_check_new : PySem.W.codeIn K cd_check_new "check_new" = true)
    (k_check_new : PySem.W.keepIn K (.ref f_check_new) = true)
    (a_check_known : PySem.W.nsIn K mainGlobals "check_known" = some (some (.ref f_check_known)))
    (l_check_known : K.lookup f_check_known = some ⟨oc_check_known, od_check_known, .func (PySem.W.fnOf "check_known" "check_known" (defArgs sCheckKnown) (defBody sCheckKnown) (defScope sCheckKnown) .none kV_check_known dc_check_known pm_check_known an_check_known cd_check_known ct_check_known), sl_check_known⟩)
    (c_check_known : PySem.W.codeIn K cd_check_known "check_known" = true)
    (k_check_known : PySem.W.keepIn K (.ref f_check_known) = true)
    (a_distinct_names : PySem.W.nsIn K mainGlobals "distinct_names" = some (some (.ref f_distinct_names)))
    (l_distinct_names : K.lookup f_distinct_names = some ⟨oc_distinct_names, od_distinct_names, .func (PySem.W.fnOf "distinct_names" "distinct_names" (defArgs sDistinct) (defBody sDistinct) (defScope sDistinct) .none kV_distinct_names dc_distinct_names pm_distinct_names an_distinct_names cd_distinct_names ct_distinct_names), sl_distinct_names⟩)
    (c_distinct_names : PySem.W.codeIn K cd_distinct_names "distinct_names" = true)
    (k_distinct_names : PySem.W.keepIn K (.ref f_distinct_names) = true)
    (a_check_shown : PySem.W.nsIn K mainGlobals "_check_shown" = some (some (.ref f_check_shown)))
    (l_check_shown : K.lookup f_check_shown = some ⟨oc_check_shown, od_check_shown, .func (PySem.W.fnOf "_check_shown" "_check_shown" (defArgs sCheckShown) (defBody sCheckShown) (defScope sCheckShown) .none kV_check_shown dc_check_shown pm_check_shown an_check_shown cd_check_shown ct_check_shown), sl_check_shown⟩)
    (c_check_shown : PySem.W.codeIn K cd_check_shown "_check_shown" = true)
    (k_check_shown : PySem.W.keepIn K (.ref f_check_shown) = true)
    (a_chosen_of : PySem.W.nsIn K mainGlobals "_chosen_of" = some (some (.ref f_chosen_of)))
    (l_chosen_of : K.lookup f_chosen_of = some ⟨oc_chosen_of, od_chosen_of, .func (PySem.W.fnOf "_chosen_of" "_chosen_of" (defArgs sChosen) (defBody sChosen) (defScope sChosen) .none kV_chosen_of dc_chosen_of pm_chosen_of an_chosen_of cd_chosen_of ct_chosen_of), sl_chosen_of⟩)
    (c_chosen_of : PySem.W.codeIn K cd_chosen_of "_chosen_of" = true)
    (k_chosen_of : PySem.W.keepIn K (.ref f_chosen_of) = true)
    (a_law_bag : PySem.W.nsIn K mainGlobals "_law_bag" = some (some (.ref f_law_bag)))
    (l_law_bag : K.lookup f_law_bag = some ⟨oc_law_bag, od_law_bag, .func (PySem.W.fnOf "_law_bag" "_law_bag" (defArgs sBag) (defBody sBag) (defScope sBag) .none kV_law_bag dc_law_bag pm_law_bag an_law_bag cd_law_bag ct_law_bag), sl_law_bag⟩)
    (c_law_bag : PySem.W.codeIn K cd_law_bag "_law_bag" = true)
    (k_law_bag : PySem.W.keepIn K (.ref f_law_bag) = true)
    (a_law_take : PySem.W.nsIn K mainGlobals "_law_take" = some (some (.ref f_law_take)))
    (l_law_take : K.lookup f_law_take = some ⟨oc_law_take, od_law_take, .func (PySem.W.fnOf "_law_take" "_law_take" (defArgs sTake) (defBody sTake) (defScope sTake) .none kV_law_take dc_law_take pm_law_take an_law_take cd_law_take ct_law_take), sl_law_take⟩)
    (c_law_take : PySem.W.codeIn K cd_law_take "_law_take" = true)
    (k_law_take : PySem.W.keepIn K (.ref f_law_take) = true)
    (a_law_name : PySem.W.nsIn K mainGlobals "_law_name" = some (some (.ref f_law_name)))
    (l_law_name : K.lookup f_law_name = some ⟨oc_law_name, od_law_name, .func (PySem.W.fnOf "_law_name" "_law_name" (defArgs sLawName) (defBody sLawName) (defScope sLawName) .none kV_law_name dc_law_name pm_law_name an_law_name cd_law_name ct_law_name), sl_law_name⟩)
    (c_law_name : PySem.W.codeIn K cd_law_name "_law_name" = true)
    (k_law_name : PySem.W.keepIn K (.ref f_law_name) = true)
    (a_law_names : PySem.W.nsIn K mainGlobals "_law_names" = some (some (.ref f_law_names)))
    (l_law_names : K.lookup f_law_names = some ⟨oc_law_names, od_law_names, .func (PySem.W.fnOf "_law_names" "_law_names" (defArgs sLawNames) (defBody sLawNames) (defScope sLawNames) .none kV_law_names dc_law_names pm_law_names an_law_names cd_law_names ct_law_names), sl_law_names⟩)
    (c_law_names : PySem.W.codeIn K cd_law_names "_law_names" = true)
    (k_law_names : PySem.W.keepIn K (.ref f_law_names) = true)
    (a_law_fault : PySem.W.nsIn K mainGlobals "_law_fault" = some (some (.ref f_law_fault)))
    (l_law_fault : K.lookup f_law_fault = some ⟨oc_law_fault, od_law_fault, .func (PySem.W.fnOf "_law_fault" "_law_fault" (defArgs sLawFault) (defBody sLawFault) (defScope sLawFault) .none kV_law_fault dc_law_fault pm_law_fault an_law_fault cd_law_fault ct_law_fault), sl_law_fault⟩)
    (c_law_fault : PySem.W.codeIn K cd_law_fault "_law_fault" = true)
    (k_law_fault : PySem.W.keepIn K (.ref f_law_fault) = true)
    (a_law_names_due : PySem.W.nsIn K mainGlobals "_law_names_due" = some (some (.ref f_law_names_due)))
    (l_law_names_due : K.lookup f_law_names_due = some ⟨oc_law_names_due, od_law_names_due, .func (PySem.W.fnOf "_law_names_due" "_law_names_due" (defArgs sLawNamesDue) (defBody sLawNamesDue) (defScope sLawNamesDue) .none kV_law_names_due dc_law_names_due pm_law_names_due an_law_names_due cd_law_names_due ct_law_names_due), sl_law_names_due⟩)
    (c_law_names_due : PySem.W.codeIn K cd_law_names_due "_law_names_due" = true)
    (k_law_names_due : PySem.W.keepIn K (.ref f_law_names_due) = true)
    (a_law_due : PySem.W.nsIn K mainGlobals "_law_due" = some (some (.ref f_law_due)))
    (l_law_due : K.lookup f_law_due = some ⟨oc_law_due, od_law_due, .func (PySem.W.fnOf "_law_due" "_law_due" (defArgs sLawDue) (defBody sLawDue) (defScope sLawDue) .none kV_law_due dc_law_due pm_law_due an_law_due cd_law_due ct_law_due), sl_law_due⟩)
    (c_law_due : PySem.W.codeIn K cd_law_due "_law_due" = true)
    (k_law_due : PySem.W.keepIn K (.ref f_law_due) = true)
    (a_law_odd_name : PySem.W.nsIn K mainGlobals "_law_odd_name" = some (some (.ref f_law_odd_name)))
    (l_law_odd_name : K.lookup f_law_odd_name = some ⟨oc_law_odd_name, od_law_odd_name, .func (PySem.W.fnOf "_law_odd_name" "_law_odd_name" (defArgs sLawOddName) (defBody sLawOddName) (defScope sLawOddName) .none kV_law_odd_name dc_law_odd_name pm_law_odd_name an_law_odd_name cd_law_odd_name ct_law_odd_name), sl_law_odd_name⟩)
    (c_law_odd_name : PySem.W.codeIn K cd_law_odd_name "_law_odd_name" = true)
    (k_law_odd_name : PySem.W.keepIn K (.ref f_law_odd_name) = true)
    (a_law_widened : PySem.W.nsIn K mainGlobals "_law_widened" = some (some (.ref f_law_widened)))
    (l_law_widened : K.lookup f_law_widened = some ⟨oc_law_widened, od_law_widened, .func (PySem.W.fnOf "_law_widened" "_law_widened" (defArgs sLawWidened) (defBody sLawWidened) (defScope sLawWidened) .none kV_law_widened dc_law_widened pm_law_widened an_law_widened cd_law_widened ct_law_widened), sl_law_widened⟩)
    (c_law_widened : PySem.W.codeIn K cd_law_widened "_law_widened" = true)
    (k_law_widened : PySem.W.keepIn K (.ref f_law_widened) = true)
    (a_law_told : PySem.W.nsIn K mainGlobals "_law_told" = some (some (.ref f_law_told)))
    (l_law_told : K.lookup f_law_told = some ⟨oc_law_told, od_law_told, .func (PySem.W.fnOf "_law_told" "_law_told" (defArgs sLawTold) (defBody sLawTold) (defScope sLawTold) .none kV_law_told dc_law_told pm_law_told an_law_told cd_law_told ct_law_told), sl_law_told⟩)
    (c_law_told : PySem.W.codeIn K cd_law_told "_law_told" = true)
    (k_law_told : PySem.W.keepIn K (.ref f_law_told) = true)
    (a_law : PySem.W.nsIn K mainGlobals "law" = some (some (.ref f_law)))
    (l_law : K.lookup f_law = some ⟨oc_law, od_law, .func (PySem.W.fnOf "law" "law" (defArgs sLaw) (defBody sLaw) (defScope sLaw) .none kV_law dc_law pm_law an_law cd_law ct_law), sl_law⟩)
    (c_law : PySem.W.codeIn K cd_law "law" = true)
    (k_law : PySem.W.keepIn K (.ref f_law) = true)
    (a_InvalidName : PySem.W.nsIn K mainGlobals "InvalidName" = some (some (.ref C_InvalidName)))
    (x_InvalidName : K.lookup C_InvalidName = some (excClassObj nm_InvalidName q_InvalidName C_InvalidName N_InvalidName bs_InvalidName bm_InvalidName true sn_InvalidName sub_InvalidName ab_InvalidName col_InvalidName dd_InvalidName m0_InvalidName m1_InvalidName m2_InvalidName m3_InvalidName m5_InvalidName "ValueError.__new__"))
    (hb_InvalidName : PySem.HandSPX.refsVE bm_InvalidName = true)
    (sa_InvalidName : PySem.W.findIn K (.ref C_InvalidName) "__setattr__" = some (some (.builtin "object.__setattr__")))
    (e_InvalidName : PySem.W.subIn K (.ref C_InvalidName) (.type "BaseException") = some true)
    (tc_InvalidName : PySem.W.typeIn K (.ref C_InvalidName) = some (.type "type"))
    (kc_InvalidName : PySem.W.keepIn K (.ref C_InvalidName) = true)
    (no_InvalidName : PySem.W.findIn K (.ref C_InvalidName) "name" = some none)
    (i_InvalidName : PySem.W.findIn K (.ref C_InvalidName) "__init__" = some (some (.ref f_InvalidName)))
    (ti_InvalidName : PySem.W.typeIn K (.ref f_InvalidName) = some (.type "function"))
    (l_InvalidName : K.lookup f_InvalidName = some ⟨oc_InvalidName, od_InvalidName, .func (PySem.W.fnOf "__init__" "InvalidName.__init__" (defArgs sInv) (defBody sInv) (defScope sInv) .none kV_InvalidName dc_InvalidName pm_InvalidName an_InvalidName cd_InvalidName ct_InvalidName), sl_InvalidName⟩)
    (c_InvalidName : PySem.W.codeIn K cd_InvalidName "InvalidName.__init__" = true)
    (k_InvalidName : PySem.W.keepIn K (.ref f_InvalidName) = true)
    (ga_InvalidName : PySem.W.findIn K (.ref C_InvalidName) "__getattribute__" = some (some (.builtin "BaseException.__getattribute__")))
    (gg_InvalidName : PySem.W.findIn K (.ref C_InvalidName) "__getattr__" = some none)
    (hd_InvalidName : PySem.W.hasDictIn K C_InvalidName = true)
    (ic_InvalidName : PySem.W.isClsIn K C_InvalidName = true)
    (a_DuplicateName : PySem.W.nsIn K mainGlobals "DuplicateName" = some (some (.ref C_DuplicateName)))
    (x_DuplicateName : K.lookup C_DuplicateName = some (excClassObj nm_DuplicateName q_DuplicateName C_DuplicateName N_DuplicateName bs_DuplicateName bm_DuplicateName true sn_DuplicateName sub_DuplicateName ab_DuplicateName col_DuplicateName dd_DuplicateName m0_DuplicateName m1_DuplicateName m2_DuplicateName m3_DuplicateName m5_DuplicateName "ValueError.__new__"))
    (hb_DuplicateName : PySem.HandSPX.refsVE bm_DuplicateName = true)
    (sa_DuplicateName : PySem.W.findIn K (.ref C_DuplicateName) "__setattr__" = some (some (.builtin "object.__setattr__")))
    (e_DuplicateName : PySem.W.subIn K (.ref C_DuplicateName) (.type "BaseException") = some true)
    (tc_DuplicateName : PySem.W.typeIn K (.ref C_DuplicateName) = some (.type "type"))
    (kc_DuplicateName : PySem.W.keepIn K (.ref C_DuplicateName) = true)
    (no_DuplicateName : PySem.W.findIn K (.ref C_DuplicateName) "name" = some none)
    (i_DuplicateName : PySem.W.findIn K (.ref C_DuplicateName) "__init__" = some (some (.ref f_DuplicateName)))
    (ti_DuplicateName : PySem.W.typeIn K (.ref f_DuplicateName) = some (.type "function"))
    (l_DuplicateName : K.lookup f_DuplicateName = some ⟨oc_DuplicateName, od_DuplicateName, .func (PySem.W.fnOf "__init__" "DuplicateName.__init__" (defArgs sDup) (defBody sDup) (defScope sDup) .none kV_DuplicateName dc_DuplicateName pm_DuplicateName an_DuplicateName cd_DuplicateName ct_DuplicateName), sl_DuplicateName⟩)
    (c_DuplicateName : PySem.W.codeIn K cd_DuplicateName "DuplicateName.__init__" = true)
    (k_DuplicateName : PySem.W.keepIn K (.ref f_DuplicateName) = true)
    (ga_DuplicateName : PySem.W.findIn K (.ref C_DuplicateName) "__getattribute__" = some (some (.builtin "BaseException.__getattribute__")))
    (gg_DuplicateName : PySem.W.findIn K (.ref C_DuplicateName) "__getattr__" = some none)
    (hd_DuplicateName : PySem.W.hasDictIn K C_DuplicateName = true)
    (ic_DuplicateName : PySem.W.isClsIn K C_DuplicateName = true)
    (a_UnknownName : PySem.W.nsIn K mainGlobals "UnknownName" = some (some (.ref C_UnknownName)))
    (x_UnknownName : K.lookup C_UnknownName = some (excClassObj nm_UnknownName q_UnknownName C_UnknownName N_UnknownName bs_UnknownName bm_UnknownName true sn_UnknownName sub_UnknownName ab_UnknownName col_UnknownName dd_UnknownName m0_UnknownName m1_UnknownName m2_UnknownName m3_UnknownName m5_UnknownName "ValueError.__new__"))
    (hb_UnknownName : PySem.HandSPX.refsVE bm_UnknownName = true)
    (sa_UnknownName : PySem.W.findIn K (.ref C_UnknownName) "__setattr__" = some (some (.builtin "object.__setattr__")))
    (e_UnknownName : PySem.W.subIn K (.ref C_UnknownName) (.type "BaseException") = some true)
    (tc_UnknownName : PySem.W.typeIn K (.ref C_UnknownName) = some (.type "type"))
    (kc_UnknownName : PySem.W.keepIn K (.ref C_UnknownName) = true)
    (no_UnknownName : PySem.W.findIn K (.ref C_UnknownName) "name" = some none)
    (i_UnknownName : PySem.W.findIn K (.ref C_UnknownName) "__init__" = some (some (.ref f_UnknownName)))
    (ti_UnknownName : PySem.W.typeIn K (.ref f_UnknownName) = some (.type "function"))
    (l_UnknownName : K.lookup f_UnknownName = some ⟨oc_UnknownName, od_UnknownName, .func (PySem.W.fnOf "__init__" "UnknownName.__init__" (defArgs sUnk) (defBody sUnk) (defScope sUnk) .none kV_UnknownName dc_UnknownName pm_UnknownName an_UnknownName cd_UnknownName ct_UnknownName), sl_UnknownName⟩)
    (c_UnknownName : PySem.W.codeIn K cd_UnknownName "UnknownName.__init__" = true)
    (k_UnknownName : PySem.W.keepIn K (.ref f_UnknownName) = true)
    (ga_UnknownName : PySem.W.findIn K (.ref C_UnknownName) "__getattribute__" = some (some (.builtin "BaseException.__getattribute__")))
    (gg_UnknownName : PySem.W.findIn K (.ref C_UnknownName) "__getattr__" = some none)
    (hd_UnknownName : PySem.W.hasDictIn K C_UnknownName = true)
    (ic_UnknownName : PySem.W.isClsIn K C_UnknownName = true)
    (a_TooMany : PySem.W.nsIn K mainGlobals "TooMany" = some (some (.ref C_TooMany)))
    (x_TooMany : K.lookup C_TooMany = some (excClassObj nm_TooMany q_TooMany C_TooMany N_TooMany bs_TooMany bm_TooMany true sn_TooMany sub_TooMany ab_TooMany col_TooMany dd_TooMany m0_TooMany m1_TooMany m2_TooMany m3_TooMany m5_TooMany "ValueError.__new__"))
    (hb_TooMany : PySem.HandSPX.refsVE bm_TooMany = true)
    (sa_TooMany : PySem.W.findIn K (.ref C_TooMany) "__setattr__" = some (some (.builtin "object.__setattr__")))
    (e_TooMany : PySem.W.subIn K (.ref C_TooMany) (.type "BaseException") = some true)
    (tc_TooMany : PySem.W.typeIn K (.ref C_TooMany) = some (.type "type"))
    (kc_TooMany : PySem.W.keepIn K (.ref C_TooMany) = true)
    (no_TooMany : PySem.W.findIn K (.ref C_TooMany) "limit" = some none)
    (i_TooMany : PySem.W.findIn K (.ref C_TooMany) "__init__" = some (some (.ref f_TooMany)))
    (ti_TooMany : PySem.W.typeIn K (.ref f_TooMany) = some (.type "function"))
    (l_TooMany : K.lookup f_TooMany = some ⟨oc_TooMany, od_TooMany, .func (PySem.W.fnOf "__init__" "TooMany.__init__" (defArgs sMany) (defBody sMany) (defScope sMany) .none kV_TooMany dc_TooMany pm_TooMany an_TooMany cd_TooMany ct_TooMany), sl_TooMany⟩)
    (c_TooMany : PySem.W.codeIn K cd_TooMany "TooMany.__init__" = true)
    (k_TooMany : PySem.W.keepIn K (.ref f_TooMany) = true)
    (ga_TooMany : PySem.W.findIn K (.ref C_TooMany) "__getattribute__" = some (some (.builtin "BaseException.__getattribute__")))
    (gg_TooMany : PySem.W.findIn K (.ref C_TooMany) "__getattr__" = some none)
    (hd_TooMany : PySem.W.hasDictIn K C_TooMany = true)
    (ic_TooMany : PySem.W.isClsIn K C_TooMany = true)
    (su_TooMany_TooMany : PySem.W.subIn K (.ref C_TooMany) (.ref C_TooMany) = some true)
    (ex_InvalidName_TooMany : PySem.W.exmOne K (.ref C_InvalidName) (.ref C_TooMany) = some false)
    (su_InvalidName_InvalidName : PySem.W.subIn K (.ref C_InvalidName) (.ref C_InvalidName) = some true)
    (ex_DuplicateName_TooMany : PySem.W.exmOne K (.ref C_DuplicateName) (.ref C_TooMany) = some false)
    (ex_DuplicateName_InvalidName : PySem.W.exmOne K (.ref C_DuplicateName) (.ref C_InvalidName) = some false)
    (su_DuplicateName_DuplicateName : PySem.W.subIn K (.ref C_DuplicateName) (.ref C_DuplicateName) = some true)
    (ex_UnknownName_TooMany : PySem.W.exmOne K (.ref C_UnknownName) (.ref C_TooMany) = some false)
    (ex_UnknownName_InvalidName : PySem.W.exmOne K (.ref C_UnknownName) (.ref C_InvalidName) = some false)
    (ex_UnknownName_DuplicateName : PySem.W.exmOne K (.ref C_UnknownName) (.ref C_DuplicateName) = some false)
    (su_UnknownName_UnknownName : PySem.W.subIn K (.ref C_UnknownName) (.ref C_UnknownName) = some true)
    (a_Table : PySem.W.nsIn K mainGlobals "Table" = some (some (.ref C_Table)))
    (pg_Table : PySem.W.plainGet K C_Table Str.empty = true)
    (hd_Table : PySem.W.hasDictIn K C_Table = true)
    (po_Table : PySem.W.plainOver K C_Table = true)
    (sa_Table : PySem.W.findIn K (.ref C_Table) "__setattr__" = some (some (.builtin "object.__setattr__")))
    (mk_Table : PySem.W.makesIn K C_Table = true)
    (kc_Table : PySem.W.keepIn K (.ref C_Table) = true)
    (n_Table_lamps : PySem.W.findIn K (.ref C_Table) "lamps" = some none)
    (n_Table_looks : PySem.W.findIn K (.ref C_Table) "looks" = some none)
    (n_Table__shown : PySem.W.findIn K (.ref C_Table) "_shown" = some none)
    (i_Table_init : PySem.W.findIn K (.ref C_Table) "__init__" = some (some (.ref f_Table_init)))
    (fn_Table_init : PySem.W.isFn K (.ref f_Table_init) = true)
    (l_Table_init : K.lookup f_Table_init = some ⟨oc_Table_init, od_Table_init, .func (PySem.W.fnOf "__init__" "Table.__init__" (defArgs sTabInit) (defBody sTabInit) (defScope sTabInit) .none kV_Table_init dc_Table_init pm_Table_init an_Table_init cd_Table_init ct_Table_init), sl_Table_init⟩)
    (c_Table_init : PySem.W.codeIn K cd_Table_init "Table.__init__" = true)
    (k_Table_init : PySem.W.keepIn K (.ref f_Table_init) = true)
    (i_Table_len : PySem.W.findIn K (.ref C_Table) "__len__" = some (some (.ref f_Table_len)))
    (fn_Table_len : PySem.W.isFn K (.ref f_Table_len) = true)
    (l_Table_len : K.lookup f_Table_len = some ⟨oc_Table_len, od_Table_len, .func (PySem.W.fnOf "__len__" "Table.__len__" (defArgs sTableLen) (defBody sTableLen) (defScope sTableLen) .none kV_Table_len dc_Table_len pm_Table_len an_Table_len cd_Table_len ct_Table_len), sl_Table_len⟩)
    (c_Table_len : PySem.W.codeIn K cd_Table_len "Table.__len__" = true)
    (k_Table_len : PySem.W.keepIn K (.ref f_Table_len) = true)
    (i_Table_rows : PySem.W.findIn K (.ref C_Table) "rows" = some (some (.ref f_Table_rows)))
    (fn_Table_rows : PySem.W.isFn K (.ref f_Table_rows) = true)
    (l_Table_rows : K.lookup f_Table_rows = some ⟨oc_Table_rows, od_Table_rows, .func (PySem.W.fnOf "rows" "Table.rows" (defArgs sTableRows) (defBody sTableRows) (defScope sTableRows) .none kV_Table_rows dc_Table_rows pm_Table_rows an_Table_rows cd_Table_rows ct_Table_rows), sl_Table_rows⟩)
    (c_Table_rows : PySem.W.codeIn K cd_Table_rows "Table.rows" = true)
    (k_Table_rows : PySem.W.keepIn K (.ref f_Table_rows) = true)
    (i_Table_with_look : PySem.W.findIn K (.ref C_Table) "with_look" = some (some (.ref f_Table_with_look)))
    (fn_Table_with_look : PySem.W.isFn K (.ref f_Table_with_look) = true)
    (l_Table_with_look : K.lookup f_Table_with_look = some ⟨oc_Table_with_look, od_Table_with_look, .func (PySem.W.fnOf "with_look" "Table.with_look" (defArgs sTableWithLook) (defBody sTableWithLook) (defScope sTableWithLook) .none kV_Table_with_look dc_Table_with_look pm_Table_with_look an_Table_with_look cd_Table_with_look ct_Table_with_look), sl_Table_with_look⟩)
    (c_Table_with_look : PySem.W.codeIn K cd_Table_with_look "Table.with_look" = true)
    (k_Table_with_look : PySem.W.keepIn K (.ref f_Table_with_look) = true)
    (z_len : PySem.W.nsIn K mainGlobals "len" = some none)
    (z_int : PySem.W.nsIn K mainGlobals "int" = some none)
    (z_tuple : PySem.W.nsIn K mainGlobals "tuple" = some none)
    (z_abs : PySem.W.nsIn K mainGlobals "abs" = some none)
    (z_isinstance : PySem.W.nsIn K mainGlobals "isinstance" = some none)
    (z_str : PySem.W.nsIn K mainGlobals "str" = some none)
    (z_all : PySem.W.nsIn K mainGlobals "all" = some none)
    (z_list : PySem.W.nsIn K mainGlobals "list" = some none)
    (z_range : PySem.W.nsIn K mainGlobals "range" = some none)
    (z_enumerate : PySem.W.nsIn K mainGlobals "enumerate" = some none)
    (v_LONGEST : PySem.W.nsIn K mainGlobals "LONGEST" = some (some (.int 12 t_LONGEST)))
    (v_SIGNS : PySem.W.nsIn K mainGlobals "SIGNS" = some (some (.str SG t_SIGNS)))
    (v_LIMIT : PySem.W.nsIn K mainGlobals "LIMIT" = some (some (.int 24 t_LIMIT))) :
    ∃ fd : FuncData, (∀ (s : Shared) (v : Value), BindsTo s fd ⟨[v], []⟩ [("_law_script", v)]) ∧ ∀ base : Heap, K.In base → base.Ns mainGlobals mg → FnOk l.prog w K mg base CX0 13 fa fd ["_law_script"] (spLaw75 K) := by
  have e := hfa.symm.trans (PySem.W.mg_of X G a_law)
  cases e
  have n_len := PySem.W.mg_none_of X G z_len
  have n_int := PySem.W.mg_none_of X G z_int
  have n_tuple := PySem.W.mg_none_of X G z_tuple
  have n_abs := PySem.W.mg_none_of X G z_abs
  have n_isinstance := PySem.W.mg_none_of X G z_isinstance
  have n_str := PySem.W.mg_none_of X G z_str
  have n_all := PySem.W.mg_none_of X G z_all
  have n_list := PySem.W.mg_none_of X G z_list
  have n_range := PySem.W.mg_none_of X G z_range
  have n_enumerate := PySem.W.mg_none_of X G z_enumerate
  have TB : TxtB mg := ⟨n_len, n_int, n_abs⟩
  have TN : TxtN mg := ⟨n_isinstance, n_str, n_len, n_all, ⟨_, PySem.W.mg_of X G v_LONGEST⟩, ⟨_, PySem.W.mg_of X G v_SIGNS⟩⟩
  have TM : TxtM mg := ⟨n_range, n_len, n_str⟩
  have TL : TxtL75 mg := ⟨n_str, n_list, n_tuple, n_len, n_range⟩
  have TD : TxtD mg := ⟨n_isinstance, n_str, n_len⟩
  have cl : Cls K C_Table := ⟨pg_Table, hd_Table, po_Table, sa_Table⟩
  have TT : TxtT K mg C_Table := ⟨cl, n_Table_lamps, n_Table_looks, n_Table__shown, n_len, n_tuple, ⟨_, PySem.W.mg_of X G v_LIMIT⟩⟩
  have E_InvalidName : ErrC K mg "InvalidName" "name" C_InvalidName f_InvalidName := ⟨⟨⟨_, _, _, _, _, _, _, _, _, _, _, _, _, _, _, x_InvalidName, hb_InvalidName⟩, sa_InvalidName, e_InvalidName, tc_InvalidName, kc_InvalidName⟩, PySem.W.mg_of X G a_InvalidName, i_InvalidName, ti_InvalidName, no_InvalidName⟩
  have E_DuplicateName : ErrC K mg "DuplicateName" "name" C_DuplicateName f_DuplicateName := ⟨⟨⟨_, _, _, _, _, _, _, _, _, _, _, _, _, _, _, x_DuplicateName, hb_DuplicateName⟩, sa_DuplicateName, e_DuplicateName, tc_DuplicateName, kc_DuplicateName⟩, PySem.W.mg_of X G a_DuplicateName, i_DuplicateName, ti_DuplicateName, no_DuplicateName⟩
  have E_UnknownName : ErrC K mg "UnknownName" "name" C_UnknownName f_UnknownName := ⟨⟨⟨_, _, _, _, _, _, _, _, _, _, _, _, _, _, _, x_UnknownName, hb_UnknownName⟩, sa_UnknownName, e_UnknownName, tc_UnknownName, kc_UnknownName⟩, PySem.W.mg_of X G a_UnknownName, i_UnknownName, ti_UnknownName, no_UnknownName⟩
  have E_TooMany : ErrC K mg "TooMany" "limit" C_TooMany f_TooMany := ⟨⟨⟨_, _, _, _, _, _, _, _, _, _, _, _, _, _, _, x_TooMany, hb_TooMany⟩, sa_TooMany, e_TooMany, tc_TooMany, kc_TooMany⟩, PySem.W.mg_of X G a_TooMany, i_TooMany, ti_TooMany, no_TooMany⟩
  let cs : Cs := ⟨C_InvalidName, C_DuplicateName, C_UnknownName, C_TooMany⟩
  have EX : Exm K cs := ⟨own_exm e_TooMany ic_TooMany tc_TooMany su_TooMany_TooMany, ex_InvalidName_TooMany, own_exm e_InvalidName ic_InvalidName tc_InvalidName su_InvalidName_InvalidName, ex_DuplicateName_TooMany, ex_DuplicateName_InvalidName, own_exm e_DuplicateName ic_DuplicateName tc_DuplicateName su_DuplicateName_DuplicateName, ex_UnknownName_TooMany, ex_UnknownName_InvalidName, ex_UnknownName_DuplicateName, own_exm e_UnknownName ic_UnknownName tc_UnknownName su_UnknownName_UnknownName, ⟨ga_TooMany, gg_TooMany, e_TooMany, hd_TooMany⟩, ⟨ga_InvalidName, gg_InvalidName, e_InvalidName, hd_InvalidName⟩, ⟨ga_DuplicateName, gg_DuplicateName, e_DuplicateName, hd_DuplicateName⟩, ⟨ga_UnknownName, gg_UnknownName, e_UnknownName, hd_UnknownName⟩⟩
  have F_InvalidName := fun_mk (st := sInv) l_InvalidName c_InvalidName k_InvalidName
  have b_InvalidName := F_InvalidName.binds (ps := ["self", "name"]) fun _ _ _ _ _ _ us hl => match us, hl with | [_, _], _ => rfl
  have F_DuplicateName := fun_mk (st := sDup) l_DuplicateName c_DuplicateName k_DuplicateName
  have b_DuplicateName := F_DuplicateName.binds (ps := ["self", "name"]) fun _ _ _ _ _ _ us hl => match us, hl with | [_, _], _ => rfl
  have F_UnknownName := fun_mk (st := sUnk) l_UnknownName c_UnknownName k_UnknownName
  have b_UnknownName := F_UnknownName.binds (ps := ["self", "name"]) fun _ _ _ _ _ _ us hl => match us, hl with | [_, _], _ => rfl
  have F_TooMany := fun_mk (st := sMany) l_TooMany c_TooMany k_TooMany
  have b_TooMany := F_TooMany.binds (ps := ["self", "limit"]) fun _ _ _ _ _ _ us hl => match us, hl with | [_, _], _ => rfl
  have F_is_name := fun_mk (st := sIsName) l_is_name c_is_name k_is_name
  have b_is_name := F_is_name.binds (ps := ["value"]) fun _ _ _ _ _ _ us hl => match us, hl with | [_], _ => rfl
  have F_check_name := fun_mk (st := sCheckName) l_check_name c_check_name k_check_name
  have b_check_name := F_check_name.binds (ps := ["name"]) fun _ _ _ _ _ _ us hl => match us, hl with | [_], _ => rfl
  have F_check_new := fun_mk (st := sCheckNew) l_check_new c_check_new k_check_new
  have b_check_new := F_check_new.binds (ps := ["name", "earlier"]) fun _ _ _ _ _ _ us hl => match us, hl with | [_, _], _ => rfl
  have F_check_known := fun_mk (st := sCheckKnown) l_check_known c_check_known k_check_known
  have b_check_known := F_check_known.binds (ps := ["name", "names"]) fun _ _ _ _ _ _ us hl => match us, hl with | [_, _], _ => rfl
  have F_distinct_names := fun_mk (st := sDistinct) l_distinct_names c_distinct_names k_distinct_names
  have b_distinct_names := F_distinct_names.binds (ps := ["names"]) fun _ _ _ _ _ _ us hl => match us, hl with | [_], _ => rfl
  have F_check_shown := fun_mk (st := sCheckShown) l_check_shown c_check_shown k_check_shown
  have b_check_shown := F_check_shown.binds (ps := ["shown", "lamps"]) fun _ _ _ _ _ _ us hl => match us, hl with | [_, _], _ => rfl
  have F_chosen_of := fun_mk (st := sChosen) l_chosen_of c_chosen_of k_chosen_of
  have b_chosen_of := F_chosen_of.binds (ps := ["names", "chosen"]) fun _ _ _ _ _ _ us hl => match us, hl with | [_, _], _ => rfl
  have F_law_bag := fun_mk (st := sBag) l_law_bag c_law_bag k_law_bag
  have b_law_bag := F_law_bag.binds (ps := ["_law_script"]) fun _ _ _ _ _ _ us hl => match us, hl with | [_], _ => rfl
  have F_law_take := fun_mk (st := sTake) l_law_take c_law_take k_law_take
  have b_law_take := F_law_take.binds (ps := ["_law_bag_here", "_law_size"]) fun _ _ _ _ _ _ us hl => match us, hl with | [_, _], _ => rfl
  have F_law_name := fun_mk (st := sLawName) l_law_name c_law_name k_law_name
  have b_law_name := F_law_name.binds (ps := ["_law_bag_here", "_law_used"]) fun _ _ _ _ _ _ us hl => match us, hl with | [_, _], _ => rfl
  have F_law_names := fun_mk (st := sLawNames) l_law_names c_law_names k_law_names
  have b_law_names := F_law_names.binds (ps := ["_law_bag_here", "_law_count"]) fun _ _ _ _ _ _ us hl => match us, hl with | [_, _], _ => rfl
  have F_law_fault := fun_mk (st := sLawFault) l_law_fault c_law_fault k_law_fault
  have b_law_fault := F_law_fault.binds (ps := ["_law_name_here", "_law_taken"]) fun _ _ _ _ _ _ us hl => match us, hl with | [_, _], _ => rfl
  have F_law_names_due := fun_mk (st := sLawNamesDue) l_law_names_due c_law_names_due k_law_names_due
  have b_law_names_due := F_law_names_due.binds (ps := ["_law_names_here"]) fun _ _ _ _ _ _ us hl => match us, hl with | [_], _ => rfl
  have F_law_due := fun_mk (st := sLawDue) l_law_due c_law_due k_law_due
  have b_law_due := F_law_due.binds (ps := ["_law_lamps", "_law_rows"]) fun _ _ _ _ _ _ us hl => match us, hl with | [_, _], _ => rfl
  have F_law_odd_name := fun_mk (st := sLawOddName) l_law_odd_name c_law_odd_name k_law_odd_name
  have b_law_odd_name := F_law_odd_name.binds (ps := ["_law_cell"]) fun _ _ _ _ _ _ us hl => match us, hl with | [_], _ => rfl
  have F_law_widened := fun_mk (st := sLawWidened) l_law_widened c_law_widened k_law_widened
  have b_law_widened := F_law_widened.binds (ps := ["_law_table", "_law_name_here", "_law_shown"]) fun _ _ _ _ _ _ us hl => match us, hl with | [_, _, _], _ => rfl
  have F_law_told := fun_mk (st := sLawTold) l_law_told c_law_told k_law_told
  have b_law_told := F_law_told.binds (ps := ["_law_table", "_law_name_here", "_law_shown"]) fun _ _ _ _ _ _ us hl => match us, hl with | [_, _, _], _ => rfl
  have F_Table_init := fun_mk (st := sTabInit) l_Table_init c_Table_init k_Table_init
  have b_Table_init := F_Table_init.binds (ps := ["self", "lamps", "looks"]) fun _ _ _ _ _ _ us hl => match us, hl with | [_, _, _], _ => rfl
  have F_Table_len := fun_mk (st := sTableLen) l_Table_len c_Table_len k_Table_len
  have b_Table_len := F_Table_len.binds (ps := ["self"]) fun _ _ _ _ _ _ us hl => match us, hl with | [_], _ => rfl
  have F_Table_rows := fun_mk (st := sTableRows) l_Table_rows c_Table_rows k_Table_rows
  have b_Table_rows := F_Table_rows.binds (ps := ["self"]) fun _ _ _ _ _ _ us hl => match us, hl with | [_], _ => rfl
  have F_Table_with_look := fun_mk (st := sTableWithLook) l_Table_with_look c_Table_with_look k_Table_with_look
  have mT := PySem.W.mg_of X G a_Table
  refine ⟨_, fun s v => .of_eq rfl, fun base _ _ => ok_law75 (C := cs) (CT := C_Table) (fun_mk (st := sLaw) l_law c_law k_law) TL cl mT ?_ ?_ ?_ ?_ ?_ ?_ ?_ ?_ ?_⟩
  · have xI : Ex l.prog w K mg base "InvalidName" "name" cs.inv := ⟨_, _, E_InvalidName, b_InvalidName, ok_einv F_InvalidName E_InvalidName⟩
    have xD : Ex l.prog w K mg base "DuplicateName" "name" cs.dup := ⟨_, _, E_DuplicateName, b_DuplicateName, ok_edup F_DuplicateName E_DuplicateName⟩
    have xU : Ex l.prog w K mg base "UnknownName" "name" cs.unk := ⟨_, _, E_UnknownName, b_UnknownName, ok_eunk F_UnknownName E_UnknownName⟩
    have xM : Ex l.prog w K mg base "TooMany" "limit" cs.many := ⟨_, _, E_TooMany, b_TooMany, ok_emany F_TooMany E_TooMany⟩
    have gN : Dfn l.prog w K mg base CX0 1 "is_name" ["value"] (spIsName K) := ⟨_, _, PySem.W.mg_of X G a_is_name, F_is_name.kp, b_is_name, ok_isname F_is_name TN⟩
    have gCN : Dfn l.prog w K mg base (L2.CX l.prog w) 3 "check_name" ["name"] (spCheckName cs) := ⟨_, _, PySem.W.mg_of X G a_check_name, F_check_name.kp, b_check_name, ok_checkname F_check_name gN xI⟩
    have gNL : Dfn l.prog w K mg base (L2.CX l.prog w) 4 "check_new" ["name", "earlier"] (spNewL K cs) := ⟨_, _, PySem.W.mg_of X G a_check_new, F_check_new.kp, b_check_new, ok_newL F_check_new gCN xD⟩
    have gND : Dfn l.prog w K mg base (L2.CX l.prog w) 4 "check_new" ["name", "earlier"] (spNewD K cs) := ⟨_, _, PySem.W.mg_of X G a_check_new, F_check_new.kp, b_check_new, ok_newD F_check_new gCN xD⟩
    have gK : Dfn l.prog w K mg base (L2.CX l.prog w) 4 "check_known" ["name", "names"] (spKnown K cs) := ⟨_, _, PySem.W.mg_of X G a_check_known, F_check_known.kp, b_check_known, ok_known F_check_known TN xU⟩
    have gD : Dfn l.prog w K mg base (L2.CX l.prog w) 6 "distinct_names" ["names"] (spDistinct K cs) := ⟨_, _, PySem.W.mg_of X G a_distinct_names, F_distinct_names.kp, b_distinct_names, ok_distinct F_distinct_names n_tuple gNL⟩
    have gS : Dfn l.prog w K mg base (L2.CX l.prog w) 6 "_check_shown" ["shown", "lamps"] (spShown2 K cs) := ⟨_, _, PySem.W.mg_of X G a_check_shown, F_check_shown.kp, b_check_shown, ok_shown2 F_check_shown n_enumerate gK xD⟩
    have gC : Dfn l.prog w K mg base CX0 1 "_chosen_of" ["names", "chosen"] (spChosen K) := ⟨_, _, PySem.W.mg_of X G a_chosen_of, F_chosen_of.kp, b_chosen_of, ok_chosen F_chosen_of n_tuple⟩
    have ini : ∃ fT fdT, Mk K C_Table fT ∧ Binds K fdT ["self", "lamps", "looks"] [] ∧ FnOk l.prog w K mg base (L2.CX l.prog w) 8 fT fdT ["self", "lamps", "looks"] (spTabInit2 K C_Table cs) := ⟨_, _, ⟨mk_Table, i_Table_init, fn_Table_init, kc_Table⟩, b_Table_init, ok_tabinit2 F_Table_init TT xM gD gND gS gC⟩
    have rw_ : ∃ fR fdR, Meth K C_Table "rows" fR ∧ Binds K fdR ["self"] [] ∧ FnOk l.prog w K mg base CX0 1 fR fdR ["self"] (spTRows K C_Table) := ⟨_, _, ⟨i_Table_rows, fn_Table_rows, F_Table_rows.kp⟩, b_Table_rows, ok_trows F_Table_rows cl n_Table_looks n_Table__shown⟩
    have TAB : TabM l.prog w K mg base C_Table cs := ⟨cl, n_Table_lamps, n_Table_looks, n_Table__shown, mT, ini, rw_⟩
    have TABT : TabT l.prog w K mg base C_Table cs := ⟨cl, n_Table_lamps, n_Table_looks, n_Table__shown, n_tuple, n_len, gK⟩
    have mWi : ∃ fM, Meth K C_Table "with_look" fM ∧ FnR l.prog w K mg base (L2.CX l.prog w) 10 fM (starSp 2 (spWithLook K C_Table cs)) := ⟨_, ⟨i_Table_with_look, fn_Table_with_look, F_Table_with_look.kp⟩, ok_withlook F_Table_with_look TAB⟩
    exact ini
  · have xI : Ex l.prog w K mg base "InvalidName" "name" cs.inv := ⟨_, _, E_InvalidName, b_InvalidName, ok_einv F_InvalidName E_InvalidName⟩
    have xD : Ex l.prog w K mg base "DuplicateName" "name" cs.dup := ⟨_, _, E_DuplicateName, b_DuplicateName, ok_edup F_DuplicateName E_DuplicateName⟩
    have xU : Ex l.prog w K mg base "UnknownName" "name" cs.unk := ⟨_, _, E_UnknownName, b_UnknownName, ok_eunk F_UnknownName E_UnknownName⟩
    have xM : Ex l.prog w K mg base "TooMany" "limit" cs.many := ⟨_, _, E_TooMany, b_TooMany, ok_emany F_TooMany E_TooMany⟩
    have gN : Dfn l.prog w K mg base CX0 1 "is_name" ["value"] (spIsName K) := ⟨_, _, PySem.W.mg_of X G a_is_name, F_is_name.kp, b_is_name, ok_isname F_is_name TN⟩
    have gCN : Dfn l.prog w K mg base (L2.CX l.prog w) 3 "check_name" ["name"] (spCheckName cs) := ⟨_, _, PySem.W.mg_of X G a_check_name, F_check_name.kp, b_check_name, ok_checkname F_check_name gN xI⟩
    have gNL : Dfn l.prog w K mg base (L2.CX l.prog w) 4 "check_new" ["name", "earlier"] (spNewL K cs) := ⟨_, _, PySem.W.mg_of X G a_check_new, F_check_new.kp, b_check_new, ok_newL F_check_new gCN xD⟩
    have gND : Dfn l.prog w K mg base (L2.CX l.prog w) 4 "check_new" ["name", "earlier"] (spNewD K cs) := ⟨_, _, PySem.W.mg_of X G a_check_new, F_check_new.kp, b_check_new, ok_newD F_check_new gCN xD⟩
    have gK : Dfn l.prog w K mg base (L2.CX l.prog w) 4 "check_known" ["name", "names"] (spKnown K cs) := ⟨_, _, PySem.W.mg_of X G a_check_known, F_check_known.kp, b_check_known, ok_known F_check_known TN xU⟩
    have gD : Dfn l.prog w K mg base (L2.CX l.prog w) 6 "distinct_names" ["names"] (spDistinct K cs) := ⟨_, _, PySem.W.mg_of X G a_distinct_names, F_distinct_names.kp, b_distinct_names, ok_distinct F_distinct_names n_tuple gNL⟩
    have gS : Dfn l.prog w K mg base (L2.CX l.prog w) 6 "_check_shown" ["shown", "lamps"] (spShown2 K cs) := ⟨_, _, PySem.W.mg_of X G a_check_shown, F_check_shown.kp, b_check_shown, ok_shown2 F_check_shown n_enumerate gK xD⟩
    have gC : Dfn l.prog w K mg base CX0 1 "_chosen_of" ["names", "chosen"] (spChosen K) := ⟨_, _, PySem.W.mg_of X G a_chosen_of, F_chosen_of.kp, b_chosen_of, ok_chosen F_chosen_of n_tuple⟩
    have ini : ∃ fT fdT, Mk K C_Table fT ∧ Binds K fdT ["self", "lamps", "looks"] [] ∧ FnOk l.prog w K mg base (L2.CX l.prog w) 8 fT fdT ["self", "lamps", "looks"] (spTabInit2 K C_Table cs) := ⟨_, _, ⟨mk_Table, i_Table_init, fn_Table_init, kc_Table⟩, b_Table_init, ok_tabinit2 F_Table_init TT xM gD gND gS gC⟩
    have rw_ : ∃ fR fdR, Meth K C_Table "rows" fR ∧ Binds K fdR ["self"] [] ∧ FnOk l.prog w K mg base CX0 1 fR fdR ["self"] (spTRows K C_Table) := ⟨_, _, ⟨i_Table_rows, fn_Table_rows, F_Table_rows.kp⟩, b_Table_rows, ok_trows F_Table_rows cl n_Table_looks n_Table__shown⟩
    have TAB : TabM l.prog w K mg base C_Table cs := ⟨cl, n_Table_lamps, n_Table_looks, n_Table__shown, mT, ini, rw_⟩
    have TABT : TabT l.prog w K mg base C_Table cs := ⟨cl, n_Table_lamps, n_Table_looks, n_Table__shown, n_tuple, n_len, gK⟩
    have mWi : ∃ fM, Meth K C_Table "with_look" fM ∧ FnR l.prog w K mg base (L2.CX l.prog w) 10 fM (starSp 2 (spWithLook K C_Table cs)) := ⟨_, ⟨i_Table_with_look, fn_Table_with_look, F_Table_with_look.kp⟩, ok_withlook F_Table_with_look TAB⟩
    exact rw_
  · have xI : Ex l.prog w K mg base "InvalidName" "name" cs.inv := ⟨_, _, E_InvalidName, b_InvalidName, ok_einv F_InvalidName E_InvalidName⟩
    have xD : Ex l.prog w K mg base "DuplicateName" "name" cs.dup := ⟨_, _, E_DuplicateName, b_DuplicateName, ok_edup F_DuplicateName E_DuplicateName⟩
    have xU : Ex l.prog w K mg base "UnknownName" "name" cs.unk := ⟨_, _, E_UnknownName, b_UnknownName, ok_eunk F_UnknownName E_UnknownName⟩
    have xM : Ex l.prog w K mg base "TooMany" "limit" cs.many := ⟨_, _, E_TooMany, b_TooMany, ok_emany F_TooMany E_TooMany⟩
    have gN : Dfn l.prog w K mg base CX0 1 "is_name" ["value"] (spIsName K) := ⟨_, _, PySem.W.mg_of X G a_is_name, F_is_name.kp, b_is_name, ok_isname F_is_name TN⟩
    have gCN : Dfn l.prog w K mg base (L2.CX l.prog w) 3 "check_name" ["name"] (spCheckName cs) := ⟨_, _, PySem.W.mg_of X G a_check_name, F_check_name.kp, b_check_name, ok_checkname F_check_name gN xI⟩
    have gNL : Dfn l.prog w K mg base (L2.CX l.prog w) 4 "check_new" ["name", "earlier"] (spNewL K cs) := ⟨_, _, PySem.W.mg_of X G a_check_new, F_check_new.kp, b_check_new, ok_newL F_check_new gCN xD⟩
    have gND : Dfn l.prog w K mg base (L2.CX l.prog w) 4 "check_new" ["name", "earlier"] (spNewD K cs) := ⟨_, _, PySem.W.mg_of X G a_check_new, F_check_new.kp, b_check_new, ok_newD F_check_new gCN xD⟩
    have gK : Dfn l.prog w K mg base (L2.CX l.prog w) 4 "check_known" ["name", "names"] (spKnown K cs) := ⟨_, _, PySem.W.mg_of X G a_check_known, F_check_known.kp, b_check_known, ok_known F_check_known TN xU⟩
    have gD : Dfn l.prog w K mg base (L2.CX l.prog w) 6 "distinct_names" ["names"] (spDistinct K cs) := ⟨_, _, PySem.W.mg_of X G a_distinct_names, F_distinct_names.kp, b_distinct_names, ok_distinct F_distinct_names n_tuple gNL⟩
    have gS : Dfn l.prog w K mg base (L2.CX l.prog w) 6 "_check_shown" ["shown", "lamps"] (spShown2 K cs) := ⟨_, _, PySem.W.mg_of X G a_check_shown, F_check_shown.kp, b_check_shown, ok_shown2 F_check_shown n_enumerate gK xD⟩
    have gC : Dfn l.prog w K mg base CX0 1 "_chosen_of" ["names", "chosen"] (spChosen K) := ⟨_, _, PySem.W.mg_of X G a_chosen_of, F_chosen_of.kp, b_chosen_of, ok_chosen F_chosen_of n_tuple⟩
    have ini : ∃ fT fdT, Mk K C_Table fT ∧ Binds K fdT ["self", "lamps", "looks"] [] ∧ FnOk l.prog w K mg base (L2.CX l.prog w) 8 fT fdT ["self", "lamps", "looks"] (spTabInit2 K C_Table cs) := ⟨_, _, ⟨mk_Table, i_Table_init, fn_Table_init, kc_Table⟩, b_Table_init, ok_tabinit2 F_Table_init TT xM gD gND gS gC⟩
    have rw_ : ∃ fR fdR, Meth K C_Table "rows" fR ∧ Binds K fdR ["self"] [] ∧ FnOk l.prog w K mg base CX0 1 fR fdR ["self"] (spTRows K C_Table) := ⟨_, _, ⟨i_Table_rows, fn_Table_rows, F_Table_rows.kp⟩, b_Table_rows, ok_trows F_Table_rows cl n_Table_looks n_Table__shown⟩
    have TAB : TabM l.prog w K mg base C_Table cs := ⟨cl, n_Table_lamps, n_Table_looks, n_Table__shown, mT, ini, rw_⟩
    have TABT : TabT l.prog w K mg base C_Table cs := ⟨cl, n_Table_lamps, n_Table_looks, n_Table__shown, n_tuple, n_len, gK⟩
    have mWi : ∃ fM, Meth K C_Table "with_look" fM ∧ FnR l.prog w K mg base (L2.CX l.prog w) 10 fM (starSp 2 (spWithLook K C_Table cs)) := ⟨_, ⟨i_Table_with_look, fn_Table_with_look, F_Table_with_look.kp⟩, ok_withlook F_Table_with_look TAB⟩
    exact ⟨_, _, i_Table_len, fn_Table_len, b_Table_len, ok_tlen F_Table_len TABT⟩
  · exact ⟨_, _, PySem.W.mg_of X G a_law_bag, F_law_bag.kp, b_law_bag, ok_bag F_law_bag TB⟩
  · exact ⟨_, _, PySem.W.mg_of X G a_law_take, F_law_take.kp, b_law_take, ok_take F_law_take TB⟩
  · have gT : Dfn l.prog w K mg base CX0 1 "_law_take" ["_law_bag_here", "_law_size"] spTake := ⟨_, _, PySem.W.mg_of X G a_law_take, F_law_take.kp, b_law_take, ok_take F_law_take TB⟩
    have g1 : Dfn l.prog w K mg base CX0 2 "_law_name" ["_law_bag_here", "_law_used"] spName := ⟨_, _, PySem.W.mg_of X G a_law_name, F_law_name.kp, b_law_name, ok_name F_law_name TM gT⟩
    exact ⟨_, _, PySem.W.mg_of X G a_law_names, F_law_names.kp, b_law_names, ok_names F_law_names TM g1⟩
  · have gF : Dfn l.prog w K mg base CX0 1 "_law_fault" ["_law_name_here", "_law_taken"] spFault := ⟨_, _, PySem.W.mg_of X G a_law_fault, F_law_fault.kp, b_law_fault, ok_fault F_law_fault TD⟩
    have gNd : Dfn l.prog w K mg base CX0 2 "_law_names_due" ["_law_names_here"] (spNamesDue K) := ⟨_, _, PySem.W.mg_of X G a_law_names_due, F_law_names_due.kp, b_law_names_due, ok_namesdue F_law_names_due gF⟩
    exact ⟨_, _, PySem.W.mg_of X G a_law_due, F_law_due.kp, b_law_due, ok_due F_law_due TD gF gNd⟩
  · exact ⟨_, _, PySem.W.mg_of X G a_law_odd_name, F_law_odd_name.kp, b_law_odd_name, ok_odd F_law_odd_name⟩
  · have xI : Ex l.prog w K mg base "InvalidName" "name" cs.inv := ⟨_, _, E_InvalidName, b_InvalidName, ok_einv F_InvalidName E_InvalidName⟩
    have xD : Ex l.prog w K mg base "DuplicateName" "name" cs.dup := ⟨_, _, E_DuplicateName, b_DuplicateName, ok_edup F_DuplicateName E_DuplicateName⟩
    have xU : Ex l.prog w K mg base "UnknownName" "name" cs.unk := ⟨_, _, E_UnknownName, b_UnknownName, ok_eunk F_UnknownName E_UnknownName⟩
    have xM : Ex l.prog w K mg base "TooMany" "limit" cs.many := ⟨_, _, E_TooMany, b_TooMany, ok_emany F_TooMany E_TooMany⟩
    have gN : Dfn l.prog w K mg base CX0 1 "is_name" ["value"] (spIsName K) := ⟨_, _, PySem.W.mg_of X G a_is_name, F_is_name.kp, b_is_name, ok_isname F_is_name TN⟩
    have gCN : Dfn l.prog w K mg base (L2.CX l.prog w) 3 "check_name" ["name"] (spCheckName cs) := ⟨_, _, PySem.W.mg_of X G a_check_name, F_check_name.kp, b_check_name, ok_checkname F_check_name gN xI⟩
    have gNL : Dfn l.prog w K mg base (L2.CX l.prog w) 4 "check_new" ["name", "earlier"] (spNewL K cs) := ⟨_, _, PySem.W.mg_of X G a_check_new, F_check_new.kp, b_check_new, ok_newL F_check_new gCN xD⟩
    have gND : Dfn l.prog w K mg base (L2.CX l.prog w) 4 "check_new" ["name", "earlier"] (spNewD K cs) := ⟨_, _, PySem.W.mg_of X G a_check_new, F_check_new.kp, b_check_new, ok_newD F_check_new gCN xD⟩
    have gK : Dfn l.prog w K mg base (L2.CX l.prog w) 4 "check_known" ["name", "names"] (spKnown K cs) := ⟨_, _, PySem.W.mg_of X G a_check_known, F_check_known.kp, b_check_known, ok_known F_check_known TN xU⟩
    have gD : Dfn l.prog w K mg base (L2.CX l.prog w) 6 "distinct_names" ["names"] (spDistinct K cs) := ⟨_, _, PySem.W.mg_of X G a_distinct_names, F_distinct_names.kp, b_distinct_names, ok_distinct F_distinct_names n_tuple gNL⟩
    have gS : Dfn l.prog w K mg base (L2.CX l.prog w) 6 "_check_shown" ["shown", "lamps"] (spShown2 K cs) := ⟨_, _, PySem.W.mg_of X G a_check_shown, F_check_shown.kp, b_check_shown, ok_shown2 F_check_shown n_enumerate gK xD⟩
    have gC : Dfn l.prog w K mg base CX0 1 "_chosen_of" ["names", "chosen"] (spChosen K) := ⟨_, _, PySem.W.mg_of X G a_chosen_of, F_chosen_of.kp, b_chosen_of, ok_chosen F_chosen_of n_tuple⟩
    have ini : ∃ fT fdT, Mk K C_Table fT ∧ Binds K fdT ["self", "lamps", "looks"] [] ∧ FnOk l.prog w K mg base (L2.CX l.prog w) 8 fT fdT ["self", "lamps", "looks"] (spTabInit2 K C_Table cs) := ⟨_, _, ⟨mk_Table, i_Table_init, fn_Table_init, kc_Table⟩, b_Table_init, ok_tabinit2 F_Table_init TT xM gD gND gS gC⟩
    have rw_ : ∃ fR fdR, Meth K C_Table "rows" fR ∧ Binds K fdR ["self"] [] ∧ FnOk l.prog w K mg base CX0 1 fR fdR ["self"] (spTRows K C_Table) := ⟨_, _, ⟨i_Table_rows, fn_Table_rows, F_Table_rows.kp⟩, b_Table_rows, ok_trows F_Table_rows cl n_Table_looks n_Table__shown⟩
    have TAB : TabM l.prog w K mg base C_Table cs := ⟨cl, n_Table_lamps, n_Table_looks, n_Table__shown, mT, ini, rw_⟩
    have TABT : TabT l.prog w K mg base C_Table cs := ⟨cl, n_Table_lamps, n_Table_looks, n_Table__shown, n_tuple, n_len, gK⟩
    have mWi : ∃ fM, Meth K C_Table "with_look" fM ∧ FnR l.prog w K mg base (L2.CX l.prog w) 10 fM (starSp 2 (spWithLook K C_Table cs)) := ⟨_, ⟨i_Table_with_look, fn_Table_with_look, F_Table_with_look.kp⟩, ok_withlook F_Table_with_look TAB⟩
    have gWd : Dfn l.prog w K mg base (L2.CX l.prog w) 11 "_law_widened" ["_law_table", "_law_name_here", "_law_shown"] (spWidened C_Table cs) := ⟨_, _, PySem.W.mg_of X G a_law_widened, F_law_widened.kp, b_law_widened, ok_widened F_law_widened n_len cl mWi⟩
    exact ⟨_, _, PySem.W.mg_of X G a_law_told, F_law_told.kp, b_law_told, ok_told F_law_told cl EX xI xD xU xM rw_ gWd⟩
theorem walk {l : PySem.W.OpenLaw} {q : Program} {loose : List Str} {XP : (Str → Option Value) → Heap → Prop} {YP : World → Heap → Prop} {d : DefRec} {K : Params → PySem.W.Frag} (hn : l.most = some 63) (hdf : d.params.defaults = [])
    (hY : ∀ (w : World) (h : Heap), YP w h → (K w.params).In h)
    (F : ∀ (w : World) (mg : Str → Option Value) (fa : Addr) (h : Heap), (K w.params).In h → h.Ns mainGlobals mg → mg d.name = some (.ref fa) →
      ∃ fd : FuncData, (∀ (s : Shared) (u : Value), BindsTo s fd ⟨[u], []⟩ [("_law_script", u)]) ∧ ∀ base : Heap, (K w.params).In base → base.Ns mainGlobals mg → FnOk l.prog w (K w.params) mg base CX0 13 fa fd ["_law_script"] (spLaw75 (K w.params))) :
    PySem.W.WalkO q loose XP YP l.row.toRowW d [] (fun f vs => PySem.call f vs) :=
  walk_of (n := 63) (k := 13) (x := "_law_script") (CX := fun _ => CX0) (sp := fun w => spLaw75 (K w.params)) hn (by decide) hdf ⟨rfl, by decide, by decide⟩ hY F
    (fun _ _ a ns hl _ hS => ⟨a, ns, rfl, hS, hl, fun _ => rfl⟩) fun _ _ _ _ _ z => z
end Dl

open PySem PySem.W PyProof.Rows in
set_option maxRecDepth 100000 in
set_option maxHeartbeats 0 in
theorem PySem.Challenge.cw_dimmerlog_k75_refused_looks_holds : PySem.Challenge.rw_dimmerlog_k75_refused_looks.Holds := by
  w_on; o_law; k_head; (case hw => w_witness2)
  k_fill
  refine Dl.walk (l := PySem.Challenge.rw_dimmerlog_k75_refused_looks) rfl rfl (fun w h Y => PySem.W.kIn_of Y) ?F
  case F =>
    intro w mg fa h KX G hmg
    refine' Dl.all_mk KX G hmg ?a_is_name ?l_is_name ?c_is_name ?k_is_name ?a_check_name ?l_check_name ?c_check_name ?k_check_name ?a_check_new ?l_check_new ?c_check_new ?k_check_new ?a_check_known ?l_check_known ?c_check_known ?k_check_known ?a_distinct_names ?l_distinct_names ?c_distinct_names ?k_distinct_names ?a_check_shown ?l_check_shown ?c_check_shown ?k_check_shown ?a_chosen_of ?l_chosen_of ?c_chosen_of ?k_chosen_of ?a_law_bag ?l_law_bag ?c_law_bag ?k_law_bag ?a_law_take ?l_law_take ?c_law_take ?k_law_take ?a_law_name ?l_law_name ?c_law_name ?k_law_name ?a_law_names ?l_law_names ?c_law_names ?k_law_names ?a_law_fault ?l_law_fault ?c_law_fault ?k_law_fault ?a_law_names_due ?l_law_names_due ?c_law_names_due ?k_law_names_due ?a_law_due ?l_law_due ?c_law_due ?k_law_due ?a_law_odd_name ?l_law_odd_name ?c_law_odd_name ?k_law_odd_name ?a_law_widened ?l_law_widened ?c_law_widened ?k_law_widened ?a_law_told ?l_law_told ?c_law_told ?k_law_told ?a_law ?l_law ?c_law ?k_law ?a_InvalidName ?x_InvalidName ?hb_InvalidName ?sa_InvalidName ?e_InvalidName ?tc_InvalidName ?kc_InvalidName ?no_InvalidName ?i_InvalidName ?ti_InvalidName ?l_InvalidName ?c_InvalidName ?k_InvalidName ?ga_InvalidName ?gg_InvalidName ?hd_InvalidName ?ic_InvalidName ?a_DuplicateName ?x_DuplicateName ?hb_DuplicateName ?sa_DuplicateName ?e_DuplicateName ?tc_DuplicateName ?kc_DuplicateName ?no_DuplicateName ?i_DuplicateName ?ti_DuplicateName ?l_DuplicateName ?c_DuplicateName ?k_DuplicateName ?ga_DuplicateName ?gg_DuplicateName ?hd_DuplicateName ?ic_DuplicateName ?a_UnknownName ?x_UnknownName ?hb_UnknownName ?sa_UnknownName ?e_UnknownName ?tc_UnknownName ?kc_UnknownName ?no_UnknownName ?i_UnknownName ?ti_UnknownName ?l_UnknownName ?c_UnknownName ?k_UnknownName ?ga_UnknownName ?gg_UnknownName ?hd_UnknownName ?ic_UnknownName ?a_TooMany ?x_TooMany ?hb_TooMany ?sa_TooMany ?e_TooMany ?tc_TooMany ?kc_TooMany ?no_TooMany ?i_TooMany ?ti_TooMany ?l_TooMany ?c_TooMany ?k_TooMany ?ga_TooMany ?gg_TooMany ?hd_TooMany ?ic_TooMany ?su_TooMany_TooMany ?ex_InvalidName_TooMany ?su_InvalidName_InvalidName ?ex_DuplicateName_TooMany ?ex_DuplicateName_InvalidName ?su_DuplicateName_DuplicateName ?ex_UnknownName_TooMany ?ex_UnknownName_InvalidName ?ex_UnknownName_DuplicateName ?su_UnknownName_UnknownName ?a_Table ?pg_Table ?hd_Table ?po_Table ?sa_Table ?mk_Table ?kc_Table ?n_Table_lamps ?n_Table_looks ?n_Table__shown ?i_Table_init ?fn_Table_init ?l_Table_init ?c_Table_init ?k_Table_init ?i_Table_len ?fn_Table_len ?l_Table_len ?c_Table_len ?k_Table_len ?i_Table_rows ?fn_Table_rows ?l_Table_rows ?c_Table_rows ?k_Table_rows ?i_Table_with_look ?fn_Table_with_look ?l_Table_with_look ?c_Table_with_look ?k_Table_with_look ?z_len ?z_int ?z_tuple ?z_abs ?z_isinstance ?z_str ?z_all ?z_list ?z_range ?z_enumerate ?v_LONGEST ?v_SIGNS ?v_LIMIT
    (case a_is_name => k_is)
    (case l_is_name => k_is)
    (case c_is_name => k_is)
    (case k_is_name => k_is)
    (case a_check_name => k_is)
    (case l_check_name => k_is)
    (case c_check_name => k_is)
    (case k_check_name => k_is)
    (case a_check_new => k_is)
    (case l_check_new => k_is)
    (case c_check_new => k_is)
    (case k_check_new => k_is)
    (case a_check_known => k_is)
    (case l_check_known => k_is)
    (case c_check_known => k_is)
    (case k_check_known => k_is)
    (case a_distinct_names => k_is)
    (case l_distinct_names => k_is)
    (case c_distinct_names => k_is)
    (case k_distinct_names => k_is)
    (case a_check_shown => k_is)
    (case l_check_shown => k_is)
    (case c_check_shown => k_is)
    (case k_check_shown => k_is)
    (case a_chosen_of => k_is)
    (case l_chosen_of => k_is)
    (case c_chosen_of => k_is)
    (case k_chosen_of => k_is)
    (case a_law_bag => k_is)
    (case l_law_bag => k_is)
    (case c_law_bag => k_is)
    (case k_law_bag => k_is)
    (case a_law_take => k_is)
    (case l_law_take => k_is)
    (case c_law_take => k_is)
    (case k_law_take => k_is)
    (case a_law_name => k_is)
    (case l_law_name => k_is)
    (case c_law_name => k_is)
    (case k_law_name => k_is)
    (case a_law_names => k_is)
    (case l_law_names => k_is)
    (case c_law_names => k_is)
    (case k_law_names => k_is)
    (case a_law_fault => k_is)
    (case l_law_fault => k_is)
    (case c_law_fault => k_is)
    (case k_law_fault => k_is)
    (case a_law_names_due => k_is)
    (case l_law_names_due => k_is)
    (case c_law_names_due => k_is)
    (case k_law_names_due => k_is)
    (case a_law_due => k_is)
    (case l_law_due => k_is)
    (case c_law_due => k_is)
    (case k_law_due => k_is)
    (case a_law_odd_name => k_is)
    (case l_law_odd_name => k_is)
    (case c_law_odd_name => k_is)
    (case k_law_odd_name => k_is)
    (case a_law_widened => k_is)
    (case l_law_widened => k_is)
    (case c_law_widened => k_is)
    (case k_law_widened => k_is)
    (case a_law_told => k_is)
    (case l_law_told => k_is)
    (case c_law_told => k_is)
    (case k_law_told => k_is)
    (case a_law => k_is)
    (case l_law => k_is)
    (case c_law => k_is)
    (case k_law => k_is)
    (case a_InvalidName => k_is)
    (case x_InvalidName => k_is)
    (case hb_InvalidName => (first | rfl | decide +kernel))
    (case sa_InvalidName => k_is)
    (case e_InvalidName => k_is)
    (case tc_InvalidName => k_is)
    (case kc_InvalidName => k_is)
    (case no_InvalidName => k_is)
    (case i_InvalidName => k_is)
    (case ti_InvalidName => k_is)
    (case l_InvalidName => k_is)
    (case c_InvalidName => k_is)
    (case k_InvalidName => k_is)
    (case ga_InvalidName => k_is)
    (case gg_InvalidName => k_is)
    (case hd_InvalidName => k_is)
    (case ic_InvalidName => k_is)
    (case a_DuplicateName => k_is)
    (case x_DuplicateName => k_is)
    (case hb_DuplicateName => (first | rfl | decide +kernel))
    (case sa_DuplicateName => k_is)
    (case e_DuplicateName => k_is)
    (case tc_DuplicateName => k_is)
    (case kc_DuplicateName => k_is)
    (case no_DuplicateName => k_is)
    (case i_DuplicateName => k_is)
    (case ti_DuplicateName => k_is)
    (case l_DuplicateName => k_is)
    (case c_DuplicateName => k_is)
    (case k_DuplicateName => k_is)
    (case ga_DuplicateName => k_is)
    (case gg_DuplicateName => k_is)
    (case hd_DuplicateName => k_is)
    (case ic_DuplicateName => k_is)
    (case a_UnknownName => k_is)
    (case x_UnknownName => k_is)
    (case hb_UnknownName => (first | rfl | decide +kernel))
    (case sa_UnknownName => k_is)
    (case e_UnknownName => k_is)
    (case tc_UnknownName => k_is)
    (case kc_UnknownName => k_is)
    (case no_UnknownName => k_is)
    (case i_UnknownName => k_is)
    (case ti_UnknownName => k_is)
    (case l_UnknownName => k_is)
    (case c_UnknownName => k_is)
    (case k_UnknownName => k_is)
    (case ga_UnknownName => k_is)
    (case gg_UnknownName => k_is)
    (case hd_UnknownName => k_is)
    (case ic_UnknownName => k_is)
    (case a_TooMany => k_is)
    (case x_TooMany => k_is)
    (case hb_TooMany => (first | rfl | decide +kernel))
    (case sa_TooMany => k_is)
    (case e_TooMany => k_is)
    (case tc_TooMany => k_is)
    (case kc_TooMany => k_is)
    (case no_TooMany => k_is)
    (case i_TooMany => k_is)
    (case ti_TooMany => k_is)
    (case l_TooMany => k_is)
    (case c_TooMany => k_is)
    (case k_TooMany => k_is)
    (case ga_TooMany => k_is)
    (case gg_TooMany => k_is)
    (case hd_TooMany => k_is)
    (case ic_TooMany => k_is)
    (case su_TooMany_TooMany => (first | rfl | k_is))
    (case ex_InvalidName_TooMany => (first | k_is | rfl))
    (case su_InvalidName_InvalidName => (first | rfl | k_is))
    (case ex_DuplicateName_TooMany => (first | k_is | rfl))
    (case ex_DuplicateName_InvalidName => (first | k_is | rfl))
    (case su_DuplicateName_DuplicateName => (first | rfl | k_is))
    (case ex_UnknownName_TooMany => (first | k_is | rfl))
    (case ex_UnknownName_InvalidName => (first | k_is | rfl))
    (case ex_UnknownName_DuplicateName => (first | k_is | rfl))
    (case su_UnknownName_UnknownName => (first | rfl | k_is))
    (case a_Table => k_is)
    (case pg_Table => k_is)
    (case hd_Table => k_is)
    (case po_Table => k_is)
    (case sa_Table => k_is)
    (case mk_Table => k_is)
    (case kc_Table => k_is)
    (case n_Table_lamps => k_is)
    (case n_Table_looks => k_is)
    (case n_Table__shown => k_is)
    (case i_Table_init => k_is)
    (case fn_Table_init => k_is)
    (case l_Table_init => k_is)
    (case c_Table_init => k_is)
    (case k_Table_init => k_is)
    (case i_Table_len => k_is)
    (case fn_Table_len => k_is)
    (case l_Table_len => k_is)
    (case c_Table_len => k_is)
    (case k_Table_len => k_is)
    (case i_Table_rows => k_is)
    (case fn_Table_rows => k_is)
    (case l_Table_rows => k_is)
    (case c_Table_rows => k_is)
    (case k_Table_rows => k_is)
    (case i_Table_with_look => k_is)
    (case fn_Table_with_look => k_is)
    (case l_Table_with_look => k_is)
    (case c_Table_with_look => k_is)
    (case k_Table_with_look => k_is)
    (case z_len => k_is)
    (case z_int => k_is)
    (case z_tuple => k_is)
    (case z_abs => k_is)
    (case z_isinstance => k_is)
    (case z_str => k_is)
    (case z_all => k_is)
    (case z_list => k_is)
    (case z_range => k_is)
    (case z_enumerate => k_is)
    (case v_LONGEST => k_is)
    (case v_SIGNS => k_is)
    (case v_LIMIT => k_is)
