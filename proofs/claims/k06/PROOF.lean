import PyProof.Rows.All
import Wide.All
import OpenK.AllK
import Wide.FinOn
import HandS.ForMost
import HandS.Exc
import HandS.TryOnly
import HandS.ExcOwn
import HandS.WordsExc
import HandS.ExcInit
import HandS.ExcField
import HandS.IsInst
import HandS.Walk
import HandS.Conv
import HandS.Wide
import HandS.TryMany
import HandS.CallSlots
import HandS.Flow
import HandS.Deep
import HandS.Star
import HandS.MethStar
import HandS.ExcIs
import HandS.Rev
import HandS.More
import KE.GoesEnum
import KE.GoesMore
import HandS.ListEq
import HandS.DictEq
import HandS.DeepEq
import HandS.OwnEq
import HandS.Codes
import KE.KExcIs
import PySem.Challenge.RW_dimmerlog_k06_parts_of_tables
set_option Elab.async false
set_option linter.all false
set_option maxRecDepth 100000
set_option maxHeartbeats 4000000
namespace Dl
open PySem L2
def top (i : Nat) : Stmt := PySem.Challenge.pw_dimmerlog_k06_parts_of_tables.main.body.getD i (.Pass ⟨0, 0, 0, 0⟩)
abbrev sWall : Stmt := top 0
abbrev sInv : Stmt := inClass (top 3) 0
abbrev sDup : Stmt := inClass (top 4) 0
abbrev sUnk : Stmt := inClass (top 5) 0
abbrev sLine : Stmt := inClass (top 6) 0
abbrev sMany : Stmt := inClass (top 7) 0
abbrev sIsName : Stmt := top 11
abbrev sCheckName : Stmt := top 12
abbrev sCheckNew : Stmt := top 13
abbrev sCheckKnown : Stmt := top 14
abbrev sCheckAll : Stmt := top 15
abbrev sDistinct : Stmt := top 16
abbrev sTabInit : Stmt := inClass (top 19) 0
abbrev sTableRead : Stmt := inClass (top 19) 1
abbrev sTableStr : Stmt := inClass (top 19) 2
abbrev sTableGetitem : Stmt := inClass (top 19) 3
abbrev sTableIter : Stmt := inClass (top 19) 4
abbrev sTableLen : Stmt := inClass (top 19) 5
abbrev sTableEq : Stmt := inClass (top 19) 6
abbrev sTableShown : Stmt := inClass (top 19) 7
abbrev sTableSeen : Stmt := inClass (top 19) 8
abbrev sTableRows : Stmt := inClass (top 19) 9
abbrev sTableWithout : Stmt := inClass (top 19) 10
abbrev sTableOnly : Stmt := inClass (top 19) 11
abbrev sTableWithLook : Stmt := inClass (top 19) 12
abbrev sTableExchanged : Stmt := inClass (top 19) 13
abbrev sTableAlike : Stmt := inClass (top 19) 14
abbrev sTableGroups : Stmt := inClass (top 19) 15
abbrev sCheckShown : Stmt := top 20
abbrev sChosen : Stmt := top 21
abbrev sReadLamps : Stmt := top 22
abbrev sReadLook : Stmt := top 23
abbrev sBag : Stmt := top 25
abbrev sTake : Stmt := top 26
abbrev sLawName : Stmt := top 27
abbrev sLawNames : Stmt := top 28
abbrev sLawFreeRows : Stmt := top 29
abbrev sLawPlantedRows : Stmt := top 30
abbrev sLawFlipped : Stmt := top 31
abbrev sLawRows : Stmt := top 32
abbrev sLawGiven : Stmt := top 33
abbrev sLawWordTuple : Stmt := top 34
abbrev sLawIsTable : Stmt := top 35
abbrev sLawTakenOut : Stmt := top 36
abbrev sLawOnly : Stmt := top 37
abbrev sLawWith : Stmt := top 38
abbrev sLawSome : Stmt := top 39
abbrev sLaw : Stmt := top 40
end Dl

/-! The bag of draws: _law_bag, _law_take. -/
namespace Dl
open PySem L2

/-! ### the mathematics of the bag -/
structure BagOk (L : List Int) : Prop where
  ex : ∃ (s d : Int) (r : List Int), L = s :: d :: r ∧ 0 ≤ s ∧ s < 2147483647 ∧ 0 ≤ d ∧ ∀ x ∈ r, 0 ≤ x
theorem BagOk.put0 {d : Int} {r : List Int} (x : Int) (hd : 0 ≤ d) (hr : ∀ x ∈ r, 0 ≤ x) : BagOk (x % 2147483647 :: d :: r) :=
  ⟨_, _, _, rfl, Int.emod_nonneg _ (by decide), Int.emod_lt_of_pos _ (by decide), hd, hr⟩

/-- the names that the two defs read -/
structure TxtB (mg : Str → Option Value) : Prop where
  len : mg "len" = none
  int : mg "int" = none
  abs : mg "abs" = none

def spTake : Sp := fun vs H Q _ => ∃ (b : Addr) (L : List Int) (n : Int), vs = [.ref b, .int n] ∧ H b = some (.lst (L.map V.int)) ∧ BagOk L ∧ 1 ≤ n ∧ n < 1000000 ∧
  ∀ (L' : List Int) (r : Int), BagOk L' → 0 ≤ r → r < n → Q (.int r) (upd H b (.lst (L'.map V.int)))
section
variable {P : Program} {w : World} {K : PySem.W.Frag} {mg : Str → Option Value} {base : Heap}
theorem scTake : FnScope ["_law_bag_here", "_law_size", "_law_cell", "_law_digit"] ["_law_bag_here", "_law_size"] (defScope sTake) := ⟨rfl, rfl, rfl, by decide +kernel, rfl, by decide +kernel, by decide +kernel⟩
theorem upd_upd {H : Hp} {a : Addr} {o u : HO} : upd (upd H a o) a u = upd H a u := by
  funext b
  by_cases h : b = a
  · subst h; rw [upd_same, upd_same]
  · rw [upd_ne h, upd_ne h, upd_ne h]
theorem upd_id {H : Hp} {a : Addr} {o : HO} (h : H a = some o) : upd H a o = H := by
  funext b
  by_cases e : b = a
  · subst e; rw [upd_same, h]
  · rw [upd_ne e]
theorem ix_at {n j : Nat} (h : j < n) : ixN n (j : Int) = some j := by
  unfold ixN
  rw [if_pos (by omega), if_pos (by omega)]; simp
theorem ok_take {f : Addr} {fd : FuncData} (F : Fun K "_law_take" "_law_take" sTake f fd) (T : TxtB mg) : FnOk P w K mg base CX0 1 f fd ["_law_bag_here", "_law_size"] spTake := by
  refine F.ok scTake (fun vs H Q E h => ?_) (fun cdv A outer s H vs Q E hr h => ?_)
  · obtain ⟨b, L, n, rfl, _⟩ := h
    rfl
  · obtain ⟨b, L, n, rfl, hb, ⟨z, d, r, rfl, hz0, hz1, hd0, hr0⟩, hn1, hn2, k⟩ := h
    refine ⟨_, pss_cons (ps_if (PW.pt (pw_and (pt_cmpR op_eq (pe_ix ix_list (pv 0) pe_int (fun _ _ => rfl)) pe_int (nomark _)) (pw_and1 (pt_cmpR op_gt (pe_callB call_len_seq (by rfl) T.len PySem.boot_len (pa_cons (pv 0) pa_nil)) pe_int (nomark _)))))
        (pss_cons (ps_set (i := 2) scTake.nd rfl (Or.inl rfl) (pe_bm PySem.F.plainAttrs_list PySem.F.slot_list_pop PySem.F.type_list_pop mt_popAt (pv 0) (pa_cons pe_int pa_nil)))
        (pss_one (ps_if (pt_cmpR op_ge (pv 2) (pe_op op_pow pe_int pe_int) (nomark _))
          (pss_one (ps_asg (pv 2) (pg_sub (pv 0) pe_int set_list)))
          (pss_cons (ps_asg (pe_op op_mod (pe_callTy call_int1 (by rfl) T.int (by decide +kernel) (pa_cons (pe_op op_add (pe_op op_add (pe_op op_mul (pe_ix ix_list (pv 0) pe_int (fun _ _ => rfl)) pe_int) (pe_op op_mul (pv 2) pe_int)) pe_int) pa_nil)) pe_int) (pg_sub (pv 0) pe_int set_list))
          (pss_one (ps_ret (pe_op op_mod (pe_callTy call_int1 (by rfl) T.int (by decide +kernel) (pa_cons (pe_op op_fdiv (pe_op op_add (pe_op op_mul (pe_ix ix_list (pv 0) pe_int (fun _ _ => rfl)) pe_int) pe_int) pe_int) pa_nil)) (pv 1))))))))
        pss_nil)
      (pss_cons (ps_if (pt_cmpR op_gt (pe_ix ix_list (pv 0) pe_int (fun _ _ => rfl)) pe_int (nomark _))
        (pss_cons (ps_set (i := 3) scTake.nd rfl (Or.inl rfl) (pe_op op_mod (pe_callTy call_int1 (by rfl) T.int (by decide +kernel) (pa_cons (pe_ix ix_list (pv 0) pe_int (fun _ _ => rfl)) pa_nil)) (pv 1)))
        (pss_cons (ps_asg (pe_op op_fdivW (pe_ix ix_list (pv 0) pe_int (fun _ _ => rfl)) (pv 1)) (pg_sub (pv 0) pe_int set_list))
        (pss_one (ps_ret (pv 3)))))
        pss_nil)
      (pss_cons (ps_asg (pe_op op_mod (pe_callTy call_int1 (by rfl) T.int (by decide +kernel) (pa_cons (pe_op op_mul (pe_ix ix_list (pv 0) pe_int (fun _ _ => rfl)) pe_int) pa_nil)) pe_int) (pg_sub (pv 0) pe_int set_list))
      (pss_one (ps_ret (pe_op op_mod (pe_callTy call_int1 (by rfl) T.int (by decide +kernel) (pa_cons (pe_op op_fdiv (pe_ix ix_list (pv 0) pe_int (fun _ _ => rfl)) pe_int) pa_nil)) (pv 1)))))), ?_⟩
    -- bag[1] == 0 and len(bag) > 2
    refine ⟨_, rfl, b, _, _, _, rfl, rfl, SqL.of hb, (atI_nat (j := 1) rfl), rfl, _, rfl, ?_⟩
    refine ite2 (fun e => ?_) (fun e => ?_)
    · refine ⟨_, rfl, b, _, rfl, .inl (SqL.of hb), _, _, rfl, rfl, _, rfl, ?_⟩
      refine ite2 (fun e2 => ?_) (fun e2 => ?_)
      · -- cell = bag.pop(2)
        have hl : 2 < (z :: d :: r).length := by
          have q := of_decide_eq_true e2
          have q2 : ((2 : Int) < (((z :: d :: r).map V.int).length : Nat)) := q
          rw [List.length_map] at q2
          omega
        match r, hr0, hb, k, hl with
        | [], _, _, _, hl => exact absurd hl (by simp)
        | c :: r, hr0, hb, k, _ =>
        have hc0 : 0 ≤ c := hr0 c (List.mem_cons_self ..)
        have hr1 : ∀ x ∈ r, 0 ≤ x := fun x hx => hr0 x (List.mem_cons_of_mem _ hx)
        have hsq : seqIndex? (2 : Int) ((z :: d :: c :: r).map V.int).length = some 2 := by
          have q : ((z :: d :: c :: r).map V.int).length = r.length + 3 := by simp
          rw [q]
          unfold seqIndex?
          simp
          omega
        refine ⟨_, rfl, .inl ⟨rfl, _, SqL.of hb⟩, b, _, 2, 2, _, rfl, rfl, hb, by decide, by decide, hsq, rfl, ?_⟩
        refine ⟨_, rfl, _, _, rfl, rfl, ⟨by decide, by decide, by decide⟩, _, _, rfl, rfl, _, rfl, ?_⟩
        refine ite2 (fun e4 => ?_) (fun e4 => ?_)
        · refine ⟨_, rfl, _, rfl, b, _, _, 1, rfl, rfl, upd_same, ix_at (j := 1) (by simp), ?_⟩
          have hd1 : 0 ≤ c := hc0
          have hz1' := hz0
          have hz1'' := hz1
          have k1 : ∀ (L' : List Int) (x : Int), BagOk L' → 0 ≤ x → x < n → Q (.int x) (upd (upd (upd H b (HO.lst ((z :: d :: r).map V.int))) b (HO.lst ((z :: c :: r).map V.int))) b (.lst (L'.map V.int))) := fun L' x h1 h2 h3 => by
            rw [upd_upd, upd_upd]
            exact k L' x h1 h2 h3
          have hb1 : (upd (upd H b (HO.lst ((z :: d :: r).map V.int))) b (HO.lst ((z :: c :: r).map V.int))) b = some (.lst ((z :: c :: r).map V.int)) := upd_same
          refine ⟨_, rfl, b, _, _, _, rfl, rfl, SqL.of hb1, (atI_nat (j := 1) rfl), _, _, rfl, rfl, _, rfl, ?_⟩
          refine ite2 (fun e3 => ?_) (fun e3 => ?_)
          · refine ⟨_, rfl, b, _, _, _, rfl, rfl, SqL.of hb1, (atI_nat (j := 1) rfl), .inl ⟨_, rfl, ?_⟩⟩
            refine ⟨_, rfl, _, _, rfl, rfl, (by show (0 : Int) < n; omega), ?_⟩
            refine ⟨_, rfl, b, _, _, _, rfl, rfl, SqL.of hb1, (atI_nat (j := 1) rfl), _, rfl, _, _, rfl, rfl, wide_div (b := 20) (by show (0 : Int) < n; omega) (by show n.natAbs < 2 ^ 20; omega) (by decide) (by decide), ?_⟩
            refine ⟨_, rfl, b, _, _, 1, rfl, rfl, hb1, ix_at (j := 1) (by simp), ?_⟩
            refine ⟨_, rfl, ?_⟩
            exact k1 (z :: (c / n) :: r) _ ⟨_, _, _, rfl, hz1', hz1'', Int.ediv_nonneg hd1 (by omega), hr1⟩ (Int.emod_nonneg _ (by omega)) (Int.emod_lt_of_pos _ (by omega))
          · refine ⟨_, rfl, b, _, _, _, rfl, rfl, SqL.of hb1, (atI_nat (j := 0) rfl), _, _, rfl, rfl, .inl ⟨by show -(2 ^ 64) < z; omega, by show z < 2 ^ 64; omega⟩, .inl ⟨_, rfl, ?_⟩⟩
            refine ⟨_, _, rfl, rfl, (by show (0 : Int) < 2147483647; decide), ?_⟩
            refine ⟨_, rfl, b, _, _, 0, rfl, rfl, hb1, ix_at (j := 0) (by simp), ?_⟩
            refine ⟨_, rfl, b, _, _, _, rfl, rfl, SqL.of upd_same, (atI_nat (j := 0) rfl), _, _, rfl, rfl, ⟨by decide, by decide⟩, .inl ⟨_, rfl, ?_⟩⟩
            refine ⟨_, rfl, _, _, rfl, rfl, (by show (0 : Int) < n; omega), ?_⟩
            exact k1 (z * 48271 % 2147483647 :: c :: r) _ (BagOk.put0 _ hd1 hr1) (Int.emod_nonneg _ (by omega)) (Int.emod_lt_of_pos _ (by omega))
        · have hc1 : c < 10 ^ 18 := by
            have q := of_decide_eq_false (p := ((10 : Int) ^ (18 : Int).toNat ≤ c)) (by simpa using e4)
            have q2 : (10 : Int) ^ (18 : Int).toNat = 1000000000000000000 := by decide
            omega
          refine ⟨_, rfl, b, _, _, _, rfl, rfl, SqL.of upd_same, (atI_nat (j := 0) rfl), _, _, rfl, rfl, .inl ⟨by show -(2 ^ 64) < z; omega, by show z < 2 ^ 64; omega⟩, ?_⟩
          refine ⟨_, rfl, _, _, rfl, rfl, .inl ⟨by show -(2 ^ 64) < c; omega, by show c < 2 ^ 64; omega⟩, _, _, rfl, rfl, _, _, rfl, rfl, .inl ⟨_, rfl, ?_⟩⟩
          refine ⟨_, _, rfl, rfl, (by show (0 : Int) < 2147483647; decide), ?_⟩
          refine ⟨_, rfl, b, _, _, 0, rfl, rfl, upd_same, ix_at (j := 0) (by simp), ?_⟩
          refine ⟨_, rfl, b, _, _, _, rfl, rfl, SqL.of upd_same, (atI_nat (j := 0) rfl), _, _, rfl, rfl, .inl ⟨?_, ?_⟩, _, _, rfl, rfl, _, _, rfl, rfl, ⟨by decide, by decide⟩, .inl ⟨_, rfl, ?_⟩⟩
          · have q := Int.emod_nonneg (z * 48271 + c * 69621 + 11) (show (2147483647 : Int) ≠ 0 by decide)
            show -(2 ^ 64) < (z * 48271 + c * 69621 + 11) % 2147483647
            omega
          · have q := Int.emod_lt_of_pos (z * 48271 + c * 69621 + 11) (show (0 : Int) < 2147483647 by decide)
            show (z * 48271 + c * 69621 + 11) % 2147483647 < 2 ^ 64
            omega
          refine ⟨_, rfl, _, _, rfl, rfl, (by show (0 : Int) < n; omega), ?_⟩
          have q := k ((z * 48271 + c * 69621 + 11) % 2147483647 :: d :: r) _ (BagOk.put0 _ hd0 hr1) (Int.emod_nonneg (((z * 48271 + c * 69621 + 11) % 2147483647 * 16807 + 7919) / 16) (show n ≠ 0 by omega)) (Int.emod_lt_of_pos _ (by omega))
          rw [← upd_upd] at q
          exact q
      · have hb1 := hb
        have k1 := k
        have hz1' := hz0
        have hz1'' := hz1
        have hd1 := hd0
        have hr1 := hr0
        refine ⟨_, rfl, b, _, _, _, rfl, rfl, SqL.of hb1, (atI_nat (j := 1) rfl), _, _, rfl, rfl, _, rfl, ?_⟩
        refine ite2 (fun e3 => ?_) (fun e3 => ?_)
        · refine ⟨_, rfl, b, _, _, _, rfl, rfl, SqL.of hb1, (atI_nat (j := 1) rfl), .inl ⟨_, rfl, ?_⟩⟩
          refine ⟨_, rfl, _, _, rfl, rfl, (by show (0 : Int) < n; omega), ?_⟩
          refine ⟨_, rfl, b, _, _, _, rfl, rfl, SqL.of hb1, (atI_nat (j := 1) rfl), _, rfl, _, _, rfl, rfl, wide_div (b := 20) (by show (0 : Int) < n; omega) (by show n.natAbs < 2 ^ 20; omega) (by decide) (by decide), ?_⟩
          refine ⟨_, rfl, b, _, _, 1, rfl, rfl, hb1, ix_at (j := 1) (by simp), ?_⟩
          refine ⟨_, rfl, ?_⟩
          exact k1 (z :: (d / n) :: r) _ ⟨_, _, _, rfl, hz1', hz1'', Int.ediv_nonneg hd1 (by omega), hr1⟩ (Int.emod_nonneg _ (by omega)) (Int.emod_lt_of_pos _ (by omega))
        · refine ⟨_, rfl, b, _, _, _, rfl, rfl, SqL.of hb1, (atI_nat (j := 0) rfl), _, _, rfl, rfl, .inl ⟨by show -(2 ^ 64) < z; omega, by show z < 2 ^ 64; omega⟩, .inl ⟨_, rfl, ?_⟩⟩
          refine ⟨_, _, rfl, rfl, (by show (0 : Int) < 2147483647; decide), ?_⟩
          refine ⟨_, rfl, b, _, _, 0, rfl, rfl, hb1, ix_at (j := 0) (by simp), ?_⟩
          refine ⟨_, rfl, b, _, _, _, rfl, rfl, SqL.of upd_same, (atI_nat (j := 0) rfl), _, _, rfl, rfl, ⟨by decide, by decide⟩, .inl ⟨_, rfl, ?_⟩⟩
          refine ⟨_, rfl, _, _, rfl, rfl, (by show (0 : Int) < n; omega), ?_⟩
          exact k1 (z * 48271 % 2147483647 :: d :: r) _ (BagOk.put0 _ hd1 hr1) (Int.emod_nonneg _ (by omega)) (Int.emod_lt_of_pos _ (by omega))
    · have hb1 := hb
      have k1 := k
      have hz1' := hz0
      have hz1'' := hz1
      have hd1 := hd0
      have hr1 := hr0
      refine ⟨_, rfl, b, _, _, _, rfl, rfl, SqL.of hb1, (atI_nat (j := 1) rfl), _, _, rfl, rfl, _, rfl, ?_⟩
      refine ite2 (fun e3 => ?_) (fun e3 => ?_)
      · refine ⟨_, rfl, b, _, _, _, rfl, rfl, SqL.of hb1, (atI_nat (j := 1) rfl), .inl ⟨_, rfl, ?_⟩⟩
        refine ⟨_, rfl, _, _, rfl, rfl, (by show (0 : Int) < n; omega), ?_⟩
        refine ⟨_, rfl, b, _, _, _, rfl, rfl, SqL.of hb1, (atI_nat (j := 1) rfl), _, rfl, _, _, rfl, rfl, wide_div (b := 20) (by show (0 : Int) < n; omega) (by show n.natAbs < 2 ^ 20; omega) (by decide) (by decide), ?_⟩
        refine ⟨_, rfl, b, _, _, 1, rfl, rfl, hb1, ix_at (j := 1) (by simp), ?_⟩
        refine ⟨_, rfl, ?_⟩
        exact k1 (z :: (d / n) :: r) _ ⟨_, _, _, rfl, hz1', hz1'', Int.ediv_nonneg hd1 (by omega), hr1⟩ (Int.emod_nonneg _ (by omega)) (Int.emod_lt_of_pos _ (by omega))
      · refine ⟨_, rfl, b, _, _, _, rfl, rfl, SqL.of hb1, (atI_nat (j := 0) rfl), _, _, rfl, rfl, .inl ⟨by show -(2 ^ 64) < z; omega, by show z < 2 ^ 64; omega⟩, .inl ⟨_, rfl, ?_⟩⟩
        refine ⟨_, _, rfl, rfl, (by show (0 : Int) < 2147483647; decide), ?_⟩
        refine ⟨_, rfl, b, _, _, 0, rfl, rfl, hb1, ix_at (j := 0) (by simp), ?_⟩
        refine ⟨_, rfl, b, _, _, _, rfl, rfl, SqL.of upd_same, (atI_nat (j := 0) rfl), _, _, rfl, rfl, ⟨by decide, by decide⟩, .inl ⟨_, rfl, ?_⟩⟩
        refine ⟨_, rfl, _, _, rfl, rfl, (by show (0 : Int) < n; omega), ?_⟩
        exact k1 (z * 48271 % 2147483647 :: d :: r) _ (BagOk.put0 _ hd1 hr1) (Int.emod_nonneg _ (by omega)) (Int.emod_lt_of_pos _ (by omega))
end
end Dl

namespace Dl
open PySem L2
theorem Same.upd_new {H : Hp} {a : Addr} {o : HO} (h : H a = none) : Same H (upd H a o) := fun b u e => by
  rw [upd_ne (ne_of_none e h)]; exact e
def spBag (K : PySem.W.Frag) : Sp := fun vs H Q _ => ∃ (a : Addr) (ns : List Int), vs = [.ref a] ∧ SqL K H a (ns.map V.int) ∧ ns.length ≤ 63 ∧
  ∀ (H' : Hp) (p : Addr) (L : List Int), Same H H' → H p = none → H' p = some (.lst (L.map V.int)) → BagOk L → Q (.ref p) H'
section
variable {P : Program} {w : World} {K : PySem.W.Frag} {mg : Str → Option Value} {base : Heap}
theorem scBag : FnScope ["_law_script", "_law_cell"] ["_law_script"] (defScope sBag) := ⟨rfl, rfl, rfl, by decide +kernel, rfl, by decide +kernel, by decide +kernel⟩
theorem ok_bag {f : Addr} {fd : FuncData} (F : Fun K "_law_bag" "_law_bag" sBag f fd) (T : TxtB mg) : FnOk P w K mg base CX0 1 f fd ["_law_script"] (spBag K) := by
  refine F.ok scBag (fun vs H Q E h => ?_) (fun cdv A outer s H vs Q E hr h => ?_)
  · obtain ⟨b, L, rfl, _⟩ := h
    rfl
  · obtain ⟨a, ns, rfl, hS, hlen, k⟩ := h
    refine ⟨_, pss_one (ps_ret (pe_op op_cat (pe_lst (pa_cons pe_int (pa_cons pe_int pa_nil)))
      (pe_lc (own := [("_law_cell", 1)]) (g := gName 1) (tt := tYes) rfl scBag.nd (pi_list (pe_slice sl_list (pv 0) po_none (po_some pe_int))) (blkOk_by (N := ["_law_script", "_law_cell"]) (sc := defScope sBag) (by decide +kernel))
        (fun _ _ _ _ _ => pg_name (i := 1) scBag.nd rfl (Or.inl rfl)) (fun _ _ _ _ _ => pts_nil) (fun _ _ _ _ _ => pe_callB call_abs (by rfl) T.abs (by decide +kernel) (pa_cons (pv 1) pa_nil))))), ?_⟩
    refine ⟨by show 2 ≤ sizeLine; decide, fun l hl => ?_⟩
    refine ⟨_, rfl, 63, rfl, a, _, rfl, Same.seq (Same.upd_new hl) hS, fun q hq => ?_⟩
    have hcut : ∃ ms : List Int, cutV (ns.map V.int) none (some 63) = ms.map V.int ∧ ms.length ≤ 63 := by
      refine ⟨(ns.drop (HT.sIx (ns.map V.int).length 0 none)).take (HT.sIx (ns.map V.int).length (ns.map V.int).length (some 63) - HT.sIx (ns.map V.int).length 0 none), ?_, ?_⟩
      · unfold cutV
        rw [← List.map_drop, ← List.map_take]
      · rw [List.length_take, List.length_drop]
        omega
    obtain ⟨ms, em, hm⟩ := hcut
    rw [em]
    refine ⟨q, rfl, ⟨_, SqL.of upd_same⟩, fun D hD => lc_list (xs := ms.map V.int) (fun i H' => ∃ M : List Int, H' = upd (upd (upd H l (.lst [.int 0, .int 0])) q (.lst (ms.map V.int))) D (.lst (M.map V.int)) ∧ M.length = i ∧ ∀ x ∈ M, 0 ≤ x)
      ⟨[], rfl, rfl, fun x hx => absurd hx (by simp)⟩ ?_ ?_ ?_⟩
    · rintro i H' _ ⟨M, rfl, _, _⟩
      have nqD : q ≠ D := ne_of_none (H := upd (upd H l (.lst [.int 0, .int 0])) q (.lst (ms.map V.int))) upd_same hD
      exact SqL.of (by rw [upd_ne nqD]; exact upd_same)
    · rintro i x H' hi ⟨M, rfl, hM, hx⟩
      rw [List.getElem?_map] at hi
      cases e : ms[i]? with
      | none => rw [e] at hi; cases hi
      | some u =>
      rw [e] at hi
      obtain rfl : V.int u = x := Option.some.inj hi
      refine ⟨rfl, _, rfl, u, rfl, _, upd_same, ?_, M ++ [if u < 0 then -u else u], ?_, ?_, ?_⟩
      · rw [List.length_map, hM]
        have := (List.getElem?_eq_some_iff.mp e).1
        exact small1000 (by omega)
      · rw [upd_upd, List.map_append]
        rfl
      · rw [List.length_append, hM]
        rfl
      · intro y hy
        rcases List.mem_append.mp hy with h | h
        · exact hx y h
        · obtain rfl := List.mem_singleton.mp h
          split <;> omega
    · rintro H' ⟨M, rfl, hM, hx⟩
      have nlq : l ≠ q := fun e => by rw [e, upd_same] at hq; cases hq
      have nlD : l ≠ D := fun e => by rw [← e, upd_ne nlq, upd_same] at hD; cases hD
      rw [List.length_map] at hM
      refine ⟨l, D, _, _, rfl, rfl, by rw [upd_ne nlD, upd_ne nlq, upd_same], upd_same, ?_, fun p hp => ?_⟩
      · rw [List.length_map]
        exact Nat.le_of_lt (small1000 (by simp; omega))
      · have hp0 : H p = none := by
          have npD : p ≠ D := fun e => by rw [e, upd_same] at hp; cases hp
          have npq : p ≠ q := fun e => by rw [upd_ne npD, e, upd_same] at hp; cases hp
          have npl : p ≠ l := fun e => by rw [upd_ne npD, upd_ne npq, e, upd_same] at hp; cases hp
          rw [upd_ne npD, upd_ne npq, upd_ne npl] at hp
          exact hp
        have s1 : Same H (upd H l (.lst [.int 0, .int 0])) := Same.upd_new hl
        refine k _ p (0 :: 0 :: M) ((s1.trans (Same.upd_new hq)).trans ((Same.upd_new hD).trans (Same.upd_new hp))) hp0 (by rw [upd_same]; rfl) ⟨0, 0, M, rfl, by decide, by decide, by decide, hx⟩
end
end Dl

namespace Dl
open PySem L2
/-! ### the own errors: class C, its __init__ at fI, its one field f -/
structure ErrC (K : PySem.W.Frag) (mg : Str → Option Value) (x f : Str) (C fI : Addr) : Prop where
  oex : OexC K C
  gC : mg x = some (.ref C)
  iC : PySem.W.findIn K (.ref C) "__init__" = some (some (.ref fI))
  tI : PySem.W.typeIn K (.ref fI) = some (.type "function")
  no : PySem.W.findIn K (.ref C) f = some none
/-- self.f = v -/
def spEI (K : PySem.W.Frag) (C : Addr) (f : Str) : Sp := fun vs H Q _ => ∃ (a : Addr) (v : V), vs = [.ref a, v] ∧ H a = some (exo a C none) ∧ ∀ dx, H dx = none → dx ≠ a → Q .non (upd (upd H dx (exd dx [(f, v)])) a (exo a C (some dx)))
section
variable {P : Program} {w : World} {K : PySem.W.Frag} {mg : Str → Option Value} {base : Heap}
theorem scInv : FnScope ["self", "name"] ["self", "name"] (defScope sInv) := ⟨rfl, rfl, rfl, by decide +kernel, rfl, by decide +kernel, by decide +kernel⟩
theorem ok_einv {C fI : Addr} {fd : FuncData} {x : Str} (F : Fun K "__init__" "InvalidName.__init__" sInv fI fd) (T : ErrC K mg x "name" C fI) : FnOk P w K mg base CX0 1 fI fd ["self", "name"] (spEI K C "name") := by
  refine F.ok scInv (fun vs H Q E h => ?_) (fun cdv A outer s H vs Q E hr h => ?_)
  · obtain ⟨b, n, rfl, _⟩ := h
    rfl
  · obtain ⟨a, v, rfl, ha, k⟩ := h
    exact ⟨_, pss_one (ps_ost (pv 0) (pv 1)), _, rfl, _, rfl, a, C, rfl, T.oex, T.no, .inl ⟨ha, fun dx h1 h2 => k dx h1 h2⟩⟩
theorem scDup : FnScope ["self", "name"] ["self", "name"] (defScope sDup) := ⟨rfl, rfl, rfl, by decide +kernel, rfl, by decide +kernel, by decide +kernel⟩
theorem ok_edup {C fI : Addr} {fd : FuncData} {x : Str} (F : Fun K "__init__" "DuplicateName.__init__" sDup fI fd) (T : ErrC K mg x "name" C fI) : FnOk P w K mg base CX0 1 fI fd ["self", "name"] (spEI K C "name") := by
  refine F.ok scDup (fun vs H Q E h => ?_) (fun cdv A outer s H vs Q E hr h => ?_)
  · obtain ⟨b, n, rfl, _⟩ := h
    rfl
  · obtain ⟨a, v, rfl, ha, k⟩ := h
    exact ⟨_, pss_one (ps_ost (pv 0) (pv 1)), _, rfl, _, rfl, a, C, rfl, T.oex, T.no, .inl ⟨ha, fun dx h1 h2 => k dx h1 h2⟩⟩
theorem scUnk : FnScope ["self", "name"] ["self", "name"] (defScope sUnk) := ⟨rfl, rfl, rfl, by decide +kernel, rfl, by decide +kernel, by decide +kernel⟩
theorem ok_eunk {C fI : Addr} {fd : FuncData} {x : Str} (F : Fun K "__init__" "UnknownName.__init__" sUnk fI fd) (T : ErrC K mg x "name" C fI) : FnOk P w K mg base CX0 1 fI fd ["self", "name"] (spEI K C "name") := by
  refine F.ok scUnk (fun vs H Q E h => ?_) (fun cdv A outer s H vs Q E hr h => ?_)
  · obtain ⟨b, n, rfl, _⟩ := h
    rfl
  · obtain ⟨a, v, rfl, ha, k⟩ := h
    exact ⟨_, pss_one (ps_ost (pv 0) (pv 1)), _, rfl, _, rfl, a, C, rfl, T.oex, T.no, .inl ⟨ha, fun dx h1 h2 => k dx h1 h2⟩⟩
theorem scMany : FnScope ["self", "limit"] ["self", "limit"] (defScope sMany) := ⟨rfl, rfl, rfl, by decide +kernel, rfl, by decide +kernel, by decide +kernel⟩
theorem ok_emany {C fI : Addr} {fd : FuncData} {x : Str} (F : Fun K "__init__" "TooMany.__init__" sMany fI fd) (T : ErrC K mg x "limit" C fI) : FnOk P w K mg base CX0 1 fI fd ["self", "limit"] (spEI K C "limit") := by
  refine F.ok scMany (fun vs H Q E h => ?_) (fun cdv A outer s H vs Q E hr h => ?_)
  · obtain ⟨b, n, rfl, _⟩ := h
    rfl
  · obtain ⟨a, v, rfl, ha, k⟩ := h
    exact ⟨_, pss_one (ps_ost (pv 0) (pv 1)), _, rfl, _, rfl, a, C, rfl, T.oex, T.no, .inl ⟨ha, fun dx h1 h2 => k dx h1 h2⟩⟩
end
/-- the way out of raise C(v): what is to be shown for the error's reading, from what the def's promise says -/
theorem raise_end {C : Addr} {f : Str} {K : PySem.W.Frag} {H : Hp} {v : V} {Q : XK} (q : ∀ d H', Same H H' → H d = none → H' d = some (.xd [(f, v)]) → Q (.ref C) (some d) H') :
    ([v] : List V).length ≤ 1000 ∧ ∀ a, H a = none → spEI K C f (.ref a :: ([v] ++ [])) (upd H a (exo a C none))
      (fun u H2 => u = .non ∧ ∃ (d : Addr) (fs : List (Str × V)), H2 a = some (exo a C (some d)) ∧ H2 d = some (exd d fs) ∧ H d = none ∧ Q (.ref C) (some d) (upd (del H2 a) d (.xd fs))) (fun _ _ _ => False) := by
  refine ⟨by simp, fun a ha => ⟨a, v, rfl, upd_same, fun dx hx ne => ⟨rfl, dx, [(f, v)], upd_same, ?_, ?_, ?_⟩⟩⟩
  · rw [upd_ne ne, upd_same]
  · rw [upd_ne ne] at hx
    exact hx
  · rw [upd_ne ne] at hx
    refine q dx _ (fun b o e => ?_) hx upd_same
    have nb : b ≠ dx := ne_of_none e hx
    have na : b ≠ a := ne_of_none e ha
    rw [upd_ne nb, del_ne na, upd_ne na, upd_ne nb, upd_ne na]
    exact e
end Dl

namespace Dl
open PySem L2
/-! ### names -/
def SG : Str := "abcdefghijklmnopqrstuvwxyz0123456789"
def validN (z : Str) : Bool := decide (1 ≤ z.length) && (decide (z.length ≤ 12) && z.cps.toList.all fun c => decide (c ∈ SG.cps.toList))
def isNm : V → Bool
  | .str z => validN z
  | _ => false
/-- what may be passed as a name: a text, an int, None, a list -/
def NmOk (H : Hp) : V → Prop
  | .str z => z.length ≤ sizeLine
  | .int _ => True
  | .non => True
  | .ref p => ∃ xs, H p = some (.lst xs)
  | _ => False
structure TxtN (mg : Str → Option Value) : Prop where
  isi : mg "isinstance" = none
  str : mg "str" = none
  len : mg "len" = none
  all : mg "all" = none
  longest : ∃ t, mg "LONGEST" = some (.int 12 t)
  signs : ∃ t, mg "SIGNS" = some (.str SG t)
theorem nm_type (K : PySem.W.Frag) {H : Hp} {v : V} (hv : NmOk H v) : ∃ (ty : String) (b : Bool), TyX K H v (.type ty) ∧ PySem.W.kitOne K (.type ty) (.type "str") = some b ∧ ((b = false ∧ isNm v = false ∧ ∀ z, v ≠ .str z) ∨ (b = true ∧ ∃ z, v = .str z ∧ z.length ≤ sizeLine)) := by
  cases v with
  | int i => exact ⟨"int", false, .base (.int i), kit_ty (by decide +kernel), .inl ⟨rfl, rfl, fun z h => by cases h⟩⟩
  | non => exact ⟨"NoneType", false, .base .non, kit_ty (by decide +kernel), .inl ⟨rfl, rfl, fun z h => by cases h⟩⟩
  | ref p => obtain ⟨xs, hp⟩ := hv; exact ⟨"list", false, .base (.lst hp), kit_ty (by decide +kernel), .inl ⟨rfl, rfl, fun z h => by cases h⟩⟩
  | str z => exact ⟨"str", true, .base (.str z), kit_ty (by decide +kernel), .inr ⟨rfl, z, rfl, hv⟩⟩
  | bl _ => exact hv.elim
  | byt _ => exact hv.elim
  | flt _ => exact hv.elim
  | ty _ => exact hv.elim
def spIsName (K : PySem.W.Frag) : Sp := fun vs H Q _ => ∃ v : V, vs = [v] ∧ NmOk H v ∧ ∀ H', Same H H' → Q (.bl (isNm v)) H'
theorem int_le_nat {a b : Nat} : decide ((a : Int) ≤ (b : Int)) = decide (a ≤ b) := by simp
section
variable {P : Program} {w : World} {K : PySem.W.Frag} {mg : Str → Option Value} {base : Heap}
theorem scIsName : FnScope ["value", "sign"] ["value"] (defScope sIsName) := ⟨rfl, rfl, rfl, by decide +kernel, rfl, by decide +kernel, by decide +kernel⟩
theorem ok_isname {f : Addr} {fd : FuncData} (F : Fun K "is_name" "is_name" sIsName f fd) (T : TxtN mg) : FnOk P w K mg base CX0 1 f fd ["value"] (spIsName K) := by
  refine F.ok scIsName (fun vs H Q E h => ?_) (fun cdv A outer s H vs Q E hr h => ?_)
  · obtain ⟨b, rfl, _⟩ := h
    rfl
  · obtain ⟨v, rfl, hv, k⟩ := h
    obtain ⟨t1, hL⟩ := T.longest
    obtain ⟨t2, hG⟩ := T.signs
    refine ⟨_, pss_cons (ps_if (PW.pt (pw_or (pt_not (pt_val (pe_callB call_isi (by rfl) T.isi (by decide +kernel) (pa_cons (pv 0) (pa_cons (pe_bltn (v := .ty "str") (by rfl) T.str (by decide +kernel) rfl) pa_nil)))))
        (pw_or1 (pt_not (pt_chain op_le op_le pe_int (pe_callB call_len_str (by rfl) T.len PySem.boot_len (pa_cons (pv 0) pa_nil)) (pe_glob (v := .int 12) (by rfl) hL ⟨_, rfl⟩))))))
        (pss_one (ps_ret pe_bl)) pss_nil)
      (pss_one (ps_ret (pe_callB (cr_all rfl) (by rfl) T.all (by decide +kernel) (pa_cons
        (pe_lc (own := [("sign", 1)]) (g := gName 1) (tt := tYes) rfl scIsName.nd (pi_str (pv 0)) (blkOk_by (N := ["value", "sign"]) (sc := defScope sIsName) (by decide +kernel))
          (fun _ _ _ _ _ => pg_name (i := 1) scIsName.nd rfl (Or.inl rfl)) (fun _ _ _ _ _ => pts_nil) (fun _ _ _ _ _ => pe_cmpR op_in_sign (pv 1) (pe_glob (v := .str SG) (by rfl) hG ⟨_, rfl⟩) (by rfl)))
        pa_nil)))), ?_⟩
    obtain ⟨ty, b, h1, h2, h3⟩ := nm_type K hv
    refine ⟨_, rfl, v, _, _, _, b, rfl, ClsV.ty "str", h1, h2, b, rfl, ?_⟩
    rcases h3 with ⟨rfl, h3, _⟩ | ⟨rfl, z, rfl, hz⟩
    · refine iteT (?_)
      show Q (.bl false) H
      rw [← h3]
      exact k H (Same.refl H)
    · refine iteF (?_)
      refine ⟨_, rfl, z, rfl, hz, _, _, rfl, rfl, _, rfl, ?_⟩
      refine ite2 (fun e1 => ?_) (fun e1 => ?_)
      · have e1' : (1 : Nat) ≤ z.length := by
          have q : (1 : Int) ≤ (z.length : Nat) := of_decide_eq_true e1
          omega
        refine ⟨_, _, rfl, rfl, _, rfl, ?_⟩
        by_cases e2 : z.length ≤ 12
        · have e2' : decide (((z.length : Nat) : Int) ≤ (12 : Int)) = true := decide_eq_true (by omega)
          rw [e2']
          refine iteF (?_)
          refine ⟨_, rfl, z, rfl, fun D hD => lc_it (w := walk_str) (fun i H' => H' = upd H D (.lst (((z.cps.toList.take i).map fun c => decide (c ∈ SG.cps.toList)).map V.bl)) ∧ True) ⟨rfl, trivial⟩ (fun _ _ _ _ => trivial) ?_ ?_⟩
          · rintro i x H' H2 hi ⟨rfl, _⟩ ⟨rfl, c, hc, rfl⟩
            refine ⟨rfl, _, rfl, c, SG, rfl, rfl, _, upd_same, ?_, ?_, trivial⟩
            · rw [List.length_map, List.length_map, List.length_take]
              have ez : z.cps.size = z.length := rfl
              exact small1000 (by omega)
            · have hc2 : z.cps.toList[i]? = some c := by rw [Array.getElem?_toList]; exact hc
              rw [upd_upd, List.take_succ, hc2]
              simp
          · rintro H' ⟨rfl, _⟩
            refine ⟨D, _, rfl, SqL.of upd_same, ?_⟩
            have q := k _ (Same.upd_new hD (o := .lst (((z.cps.toList.take z.cps.size).map fun c => decide (c ∈ SG.cps.toList)).map V.bl)))
            have e : isNm (.str z) = ((z.cps.toList.take z.cps.size).map fun c => decide (c ∈ SG.cps.toList)).all id := by
              show validN z = _
              unfold validN
              rw [decide_eq_true e1', decide_eq_true e2, List.take_of_length_le (by simp)]
              simp [List.all_map]
            rw [e] at q
            exact q
        · have e2' : decide (((z.length : Nat) : Int) ≤ (12 : Int)) = false := decide_eq_false (by omega)
          rw [e2']
          refine iteT (?_)
          have q := k H (Same.refl H)
          have e : isNm (.str z) = false := by
            show validN z = _
            unfold validN
            rw [decide_eq_false e2]
            simp
          rw [e] at q
          exact q
      · have q := k H (Same.refl H)
        have e1' : ¬ (1 : Nat) ≤ z.length := fun x => e1 (decide_eq_true (by
          show (1 : Int) ≤ (z.length : Nat)
          omega))
        have e : isNm (.str z) = false := by
          show validN z = _
          unfold validN
          rw [decide_eq_false e1']
          rfl
        rw [e] at q
        exact ⟨_, rfl, iteT q⟩
end
end Dl

namespace Dl
open PySem L2
/-- a def that stands at a global name and keeps its promise -/
def Dfn (P : Program) (w : World) (K : PySem.W.Frag) (mg : Str → Option Value) (base : Heap) (CX : CXT) (k : Nat) (x : Str) (ps : List Str) (sp : Sp) : Prop :=
  ∃ f fd, mg x = some (.ref f) ∧ PySem.W.keepIn K (.ref f) = true ∧ Binds K fd ps [] ∧ FnOk P w K mg base CX k f fd ps sp
/-- an own error with its __init__ -/
def Ex (P : Program) (w : World) (K : PySem.W.Frag) (mg : Str → Option Value) (base : Heap) (x f : Str) (C : Addr) : Prop :=
  ∃ fI fd, ErrC K mg x f C fI ∧ Binds K fd ["self", f] [] ∧ FnOk P w K mg base CX0 1 fI fd ["self", f] (spEI K C f)
/-- the classes of the errors -/
structure Cs where
  inv : Addr
  dup : Addr
  unk : Addr
  many : Addr
inductive Er where
  | inv (v : V)
  | dup (v : V)
  | unk (v : V)
  | many
/-- an error with one field leaves: what the caller wants of it -/
def Out1 (C : Addr) (f : Str) (v : V) (H : Hp) (E : XK) : Prop := ∀ d H', Same H H' → H d = none → H' d = some (.xd [(f, v)]) → E (.ref C) (some d) H'
def Out (C : Cs) (H : Hp) (E : XK) : Er → Prop
  | .inv v => Out1 C.inv "name" v H E
  | .dup v => Out1 C.dup "name" v H E
  | .unk v => Out1 C.unk "name" v H E
  | .many => Out1 C.many "limit" (.int 24) H E
theorem Out1.of {C : Addr} {f : Str} {v : V} {H H1 : Hp} {E : XK} (s : Same H H1) (h : Out1 C f v H E) : Out1 C f v H1 E := fun d H' s' n e => h d H' (s.trans s') (s.free n) e
theorem Out.of {C : Cs} {H H1 : Hp} {E : XK} {e : Er} (s : Same H H1) (h : Out C H E e) : Out C H1 E e := by
  cases e <;> exact Out1.of s h
theorem Out1.imp {C : Addr} {f : Str} {v : V} {H : Hp} {E E' : XK} (i : ∀ c d H', E c d H' → E' c d H') (h : Out1 C f v H E) : Out1 C f v H E' := fun d H' s' n e => i _ _ _ (h d H' s' n e)
/-- check_new's word -/
def chkNew (v : V) (es : List Str) : Option Er :=
  match v with
  | .str z => if validN z then (if z ∈ es then some (.dup v) else none) else some (.inv v)
  | _ => some (.inv v)
/-- earlier is a list, a tuple or a dict of texts -/
def spNewL (K : PySem.W.Frag) (C : Cs) : Sp := fun vs H Q E => ∃ (v : V) (p : Addr) (es : List Str), vs = [v, .ref p] ∧ NmOk H v ∧ H p = some (.lst (es.map V.str)) ∧ (∀ H', Same H H' → chkNew v es = none → Q .non H') ∧ ∀ e, chkNew v es = some e → Out C H E e
def spNewD (K : PySem.W.Frag) (C : Cs) : Sp := fun vs H Q E => ∃ (v : V) (p : Addr) (kvs : List (Key × V)) (es : List Str), vs = [v, .ref p] ∧ NmOk H v ∧ H p = some (.dK kvs) ∧ kvs.map (·.1) = es.map Sum.inr ∧ (∀ H', Same H H' → chkNew v es = none → Q .non H') ∧ ∀ e, chkNew v es = some e → Out C H E e
theorem inV_str {z : Str} {es : List Str} : inV (.str z) (es.map V.str) = decide (z ∈ es) := by
  unfold inV
  rw [List.any_map]
  induction es with
  | nil => simp
  | cons a r ih =>
    rw [List.any_cons, ih]
    have e : ((fun y => eqV y (V.str z)) ∘ V.str) a = decide (a = z) := by
      show eqV (V.str a) (V.str z) = decide (a = z)
      unfold eqV
      first | rfl | simp
    rw [e]
    by_cases h : a = z
    · subst h; simp
    · have h2 : ¬ z = a := fun q => h q.symm
      simp [h, h2]
theorem flat_strs (es : List Str) : (es.map V.str).all flatV = true := by
  rw [List.all_map]
  induction es with
  | nil => rfl
  | cons a r ih => rw [List.all_cons, ih]; rfl
/-- check_name(name): nothing happens if it is a valid name, else InvalidName -/
def spCheckName (C : Cs) : Sp := fun vs H Q E => ∃ v : V, vs = [v] ∧ NmOk H v ∧ (∀ H', Same H H' → isNm v = true → Q .non H') ∧ (isNm v = false → Out C H E (.inv v))
section
variable {P : Program} {w : World} {K : PySem.W.Frag} {mg : Str → Option Value} {base : Heap} {C : Cs}
theorem scCheckName : FnScope ["name"] ["name"] (defScope sCheckName) := ⟨rfl, rfl, rfl, by decide +kernel, rfl, by decide +kernel, by decide +kernel⟩
theorem ok_checkname {f : Addr} {fd : FuncData} (F : Fun K "check_name" "check_name" sCheckName f fd) (gN : Dfn P w K mg base CX0 1 "is_name" ["value"] (spIsName K)) (xI : Ex P w K mg base "InvalidName" "name" C.inv) :
    FnOk P w K mg base (L2.CX P w) 3 f fd ["name"] (spCheckName C) := by
  obtain ⟨fN, dN, mN, kN, bN, GN⟩ := gN
  obtain ⟨fI, dI, TI, bI, GI⟩ := xI
  refine F.okX scCheckName (fun vs H Q E h => ?_) (fun cdv A outer s H vs Q E hr h => ?_)
  · obtain ⟨b, rfl, _⟩ := h
    rfl
  · obtain ⟨v, rfl, hv, k, kx⟩ := h
    have hr1 : Room 1 _ := hr.mono (by decide)
    have hr2 : Room 2 _ := hr.mono (by decide)
    refine ⟨_, pss_one (ps_if (pt_not (pt_val (pe_call GN hr1 (by rfl) mN kN bN .nil pass0 (pa_cons (pv 0) pa_nil))))
        (pss_one (ps_raise rfl (takes_of rfl rfl rfl rfl) (pmk_oex TI.oex TI.iC TI.tI GI hr2 bI .nil pass0 (by rfl) TI.gC (pa_cons (pv 0) pa_nil)))) pss_nil), ?_⟩
    refine ⟨_, rfl, v, rfl, hv, fun H1 s1 => ⟨_, rfl, ?_⟩⟩
    by_cases hn : isNm v = true
    · rw [hn]
      exact iteF (k H1 s1 hn)
    · have hn' : isNm v = false := by simpa using hn
      rw [hn']
      exact iteT ⟨_, rfl, raise_end (Out.of s1 (kx hn'))⟩
theorem scCheckNew : FnScope ["name", "earlier"] ["name", "earlier"] (defScope sCheckNew) := ⟨rfl, rfl, rfl, by decide +kernel, rfl, by decide +kernel, by decide +kernel⟩
theorem isNm_str {v : V} (h : isNm v = true) : ∃ z, v = .str z ∧ validN z = true := by
  cases v with
  | str z => exact ⟨z, rfl, h⟩
  | _ => cases h
theorem isSome_valV {kvs : List (Key × V)} {es : List Str} (h : kvs.map (·.1) = es.map Sum.inr) {z : Str} : (valV kvs (Sum.inr z)).isSome = decide (z ∈ es) := by
  unfold valV
  rw [Option.isSome_map, List.isSome_find?]
  have e : kvs.any (fun kv => decide (kv.1 = (Sum.inr z : Key))) = (kvs.map (·.1)).any (fun k => decide (k = (Sum.inr z : Key))) := by rw [List.any_map]; rfl
  rw [e, h, List.any_map]
  clear h e
  induction es with
  | nil => simp
  | cons a r ih =>
    rw [List.any_cons, ih]
    by_cases q : a = z
    · subst q; simp
    · have q2 : ¬ z = a := fun x => q x.symm
      simp [q, q2]
theorem ok_newL {f : Addr} {fd : FuncData} (F : Fun K "check_new" "check_new" sCheckNew f fd) (gN : Dfn P w K mg base (L2.CX P w) 3 "check_name" ["name"] (spCheckName C)) (xD : Ex P w K mg base "DuplicateName" "name" C.dup) :
    FnOk P w K mg base (L2.CX P w) 4 f fd ["name", "earlier"] (spNewL K C) := by
  obtain ⟨fN, dN, mN, kN, bN, GN⟩ := gN
  obtain ⟨fD, dD, TD, bD, GD⟩ := xD
  refine F.okX scCheckNew (fun vs H Q E h => ?_) (fun cdv A outer s H vs Q E hr h => ?_)
  · obtain ⟨b, n, es, rfl, _⟩ := h
    rfl
  · obtain ⟨v, p, es, rfl, hv, hp, k, kx⟩ := h
    have hr3 : Room 3 _ := hr.mono (by decide)
    have hr2 : Room 2 _ := hr.mono (by decide)
    refine ⟨_, pss_cons (ps_expr (pe_call GN hr3 (by rfl) mN kN bN .nil (passes_call (takes_of rfl rfl rfl rfl) (fun _ _ _ _ h => h)) (pa_cons (pv 0) pa_nil)))
      (pss_one (ps_if (pt_cmpR op_in_seq (pv 0) (pv 1) (by rfl))
        (pss_one (ps_raise rfl (takes_of rfl rfl rfl rfl) (pmk_oex TD.oex TD.iC TD.tI GD hr2 bD .nil pass0 (by rfl) TD.gC (pa_cons (pv 0) pa_nil)))) pss_nil)), ?_⟩
    refine ⟨_, rfl, v, rfl, hv, fun H1 s1 hn => ?_, fun hn' => ?_⟩
    · obtain ⟨z, rfl, hz⟩ := isNm_str hn
      refine ⟨_, rfl, _, rfl, p, _, rfl, .inl (SqL.of (s1 _ _ hp)), rfl, flat_strs es, _, rfl, ?_⟩
      show if (inV (.str z) (es.map V.str)) = true then _ else _
      by_cases hm : z ∈ es
      · rw [inV_str, decide_eq_true hm]
        refine iteT (?_)
        exact ⟨_, rfl, raise_end (Out.of s1 (kx (.dup (.str z)) (by simp [chkNew, hz, hm])))⟩
      · rw [inV_str, decide_eq_false hm]
        refine iteF (?_)
        exact k H1 s1 (by simp [chkNew, hz, hm])
    · have hc : chkNew v es = some (.inv v) := by
        cases v with
        | str z =>
          have hz : validN z = false := hn'
          simp [chkNew, hz]
        | _ => rfl
      exact kx _ hc
theorem ok_newD {f : Addr} {fd : FuncData} (F : Fun K "check_new" "check_new" sCheckNew f fd) (gN : Dfn P w K mg base (L2.CX P w) 3 "check_name" ["name"] (spCheckName C)) (xD : Ex P w K mg base "DuplicateName" "name" C.dup) :
    FnOk P w K mg base (L2.CX P w) 4 f fd ["name", "earlier"] (spNewD K C) := by
  obtain ⟨fN, dN, mN, kN, bN, GN⟩ := gN
  obtain ⟨fD, dD, TD, bD, GD⟩ := xD
  refine F.okX scCheckNew (fun vs H Q E h => ?_) (fun cdv A outer s H vs Q E hr h => ?_)
  · obtain ⟨b, n, kvs, es, rfl, _⟩ := h
    rfl
  · obtain ⟨v, p, kvs, es, rfl, hv, hp, hkv, k, kx⟩ := h
    have hr3 : Room 3 _ := hr.mono (by decide)
    have hr2 : Room 2 _ := hr.mono (by decide)
    refine ⟨_, pss_cons (ps_expr (pe_call GN hr3 (by rfl) mN kN bN .nil (passes_call (takes_of rfl rfl rfl rfl) (fun _ _ _ _ h => h)) (pa_cons (pv 0) pa_nil)))
      (pss_one (ps_if (pt_cmp (pc_din (hu_of hr) (pv 0) (pv 1)))
        (pss_one (ps_raise rfl (takes_of rfl rfl rfl rfl) (pmk_oex TD.oex TD.iC TD.tI GD hr2 bD .nil pass0 (by rfl) TD.gC (pa_cons (pv 0) pa_nil)))) pss_nil)), ?_⟩
    refine ⟨_, rfl, v, rfl, hv, fun H1 s1 hn => ?_, fun hn' => ?_⟩
    · obtain ⟨z, rfl, hz⟩ := isNm_str hn
      refine ⟨_, rfl, _, rfl, p, _, rfl, DGet.k (k := Sum.inr z) (s1 _ _ hp), _, rfl, ?_⟩
      by_cases hm : z ∈ es
      · rw [isSome_valV hkv, decide_eq_true hm]
        refine iteT (?_)
        exact ⟨_, rfl, raise_end (Out.of s1 (kx (.dup (.str z)) (by simp [chkNew, hz, hm])))⟩
      · rw [isSome_valV hkv, decide_eq_false hm]
        refine iteF (?_)
        exact k H1 s1 (by simp [chkNew, hz, hm])
    · have hc : chkNew v es = some (.inv v) := by
        cases v with
        | str z =>
          have hz : validN z = false := hn'
          simp [chkNew, hz]
        | _ => rfl
      exact kx _ hc
end
end Dl

/-! tuple(d) of a dict: my own rule -/
namespace Dl
open PySem PySem.Spec PyProof.Rows PySem.W PySem.Calls
section
variable {prog : Program} {w : World} {A : Around} {E : Value → Shared → Prop} {s : Shared} {d : Addr} {n : Nat} {P : Nat → Value → Prop} {OK : Heap → Prop}
theorem collect_src {Q : List Value → Shared → Prop} (K : KdlSrc prog w "dict" d d n P OK) (hh : A.handled = none) (hok : OK s.heap) (hn : n ≤ sizeLine)
    (hQ : ∀ (h' : Heap) (tk : Nat) (acc : Array Value), (∀ b o, s.heap.get? b = some o → h'.get? b = some o) → ItemsOf P acc n → Q acc.toList { s with heap := h', toks := tk }) :
    wpAny (model prog w) A (collect (.ref d)) Q E s := by
  unfold collect
  refine wpAny_bind (wpAny_runValue (codeAny_builtin F.entry_proto_collect ?_))
  rw [Around.under_plainId F.plain_proto_collect _]
  show wpAny _ A.in1 (newList [] >>= fun l => again (.builtin "list.__iadd__" ⟨[l, .ref d], []⟩)) _ _ s
  refine wpAny_bind (wpAny_newObj_type ?_)
  refine wpAny_pure ⟨plainId_quiet F.plain_list_iadd _, codeAny_builtin F.entry_list_iadd ?_⟩
  rw [Around.under_plainId F.plain_list_iadd _]
  show wpAny _ A.in1 (Builtin.List.listExtendWith (.ref s.heap.objs.size) (.ref d) (.ref s.heap.objs.size)) _ _ _
  have hS : (s.heap.push { cls := .type "list", data := .seq ([] : List Value).toArray }).get? s.heap.objs.size = some { cls := .type "list", data := .seq #[] 0 } := Heap.get?_push_size _ rfl
  have hlt := K.there _ hok
  refine wpAny_mono (kdl_extend (A := A) (R := fun rr s' => rr = .ok (.ret (.ref s.heap.objs.size)) ∧ ∃ (h' : Heap) (tk : Nat) (acc : Array Value) (c' : Nat), s' = { s with heap := h', toks := tk } ∧
      (∀ b o, s.heap.get? b = some o → h'.get? b = some o) ∧ h'.get? s.heap.objs.size = some { cls := .type "list", dict := none, data := .seq acc c', slots := #[] } ∧ ItemsOf P acc n)
    (s := { s with heap := s.heap.push { cls := .type "list", data := .seq ([] : List Value).toArray } }) K hh (K.keep _ _ hok fun b _ o e => Heap.get?_push_of_some _ e) _ (Nat.ne_of_gt hlt.1) (Nat.ne_of_gt hlt.2) _ 0 hS
    (fun h' tk acc c' hk e hi => ⟨rfl, h', tk, acc, c', rfl, fun b o q => hk b o (Nat.ne_of_lt (Heap.lt_size q)) (Heap.get?_push_of_some _ q), e, hi⟩) hn) (fun fin s' h => ?_) (fun e s' h => ?_)
  · cases fin with
    | done f =>
      obtain ⟨e, h', tk, acc, c', rfl, hk, hS', hi⟩ := h
      cases e
      show wpAny _ A (load s.heap.objs.size >>= _) _ _ _
      exact wpAny_bind (wpAny_load hS' (wpAny_pure (hQ h' tk acc hk hi)))
    | again c' =>
      refine ⟨h.1, codeAny_mono h.2 fun rr s'' hr' => ?_⟩
      obtain ⟨rfl, h', tk, acc, c', rfl, hk, hS', hi⟩ := hr'
      show wpAny _ A (load s.heap.objs.size >>= _) _ _ _
      exact wpAny_bind (wpAny_load hS' (wpAny_pure (hQ h' tk acc hk hi)))
  · exact absurd h.1 (by simp)
theorem code_tuple_new_src {Q₁ : Value → Shared → Prop} (K : KdlSrc prog w "dict" d d n P OK) (hh : A.handled = none) (hok : OK s.heap) (hn : n ≤ sizeLine)
    (h : ∀ (h' : Heap) (tk : Nat) (acc : Array Value), (∀ b o, s.heap.get? b = some o → h'.get? b = some o) → ItemsOf P acc n →
      Q₁ (.ref h'.objs.size) { s with heap := h'.push { cls := .type "tuple", data := .seq acc }, toks := tk }) :
    codeAny (model prog w) A (.call (.builtin "tuple.__new__") ⟨[.type "tuple", .ref d], []⟩) (wants Q₁ E) s := by
  refine codeAny_of_tree ?_
  show wpAny _ A.in1 (do checkBuiltinCall "tuple.__new__" ⟨[.type "tuple", .ref d], []⟩; again (.builtin "tuple.__new__" ⟨[.type "tuple", .ref d], []⟩)) _ _ s
  refine wpAny_bind (wpAny_of_eq (F.newCall_tuple_1 _) (wpAny_pure ⟨plainId_quiet F.plain_tuple_new _, codeAny_builtin F.entry_tuple_new ?_⟩))
  rw [Around.under_plainId F.plain_tuple_new _]
  have hsub := sub_tuple_self
  have hinit := init_tuple_lookup
  have hmh := madeHere_tuple
  have hTI : s.TypeIs (.ref d) "dict" := K.type _ hok
  have hh1 : A.in1.handled = none := hh
  wp_walk using wpAny_typeOf hTI, collect_src (A := A.in1) K hh1 hok hn
  intro h' tk acc hk hacc
  show wpAny _ _ (Builtin.Tuple.tupleExact acc.toList.toArray >>= fun v => ret v) _ _ _
  unfold Builtin.Tuple.tupleExact
  refine wpAny_bind (wpAny_newObj_type ?_ (by show acc.toList.toArray.size ≤ sizeLine; simp only [Array.toArray_toList]; rw [hacc.1]; exact hn))
  refine wpAny_pure ?_
  have e : acc.toList.toArray = acc := by simp
  rw [e]
  exact h h' tk acc hk hacc
theorem call_tuple_src {Q : Value → Shared → Prop} (K : KdlSrc prog w "dict" d d n P OK) (hh : A.handled = none) (hok : OK s.heap) (hn : n ≤ sizeLine)
    (hQ : ∀ (h' : Heap) (tk : Nat) (acc : Array Value), (∀ b o, s.heap.get? b = some o → h'.get? b = some o) → ItemsOf P acc n →
      Q (.ref h'.objs.size) { s with heap := h'.push { cls := .type "tuple", data := .seq acc }, toks := tk }) :
    wpAny (model prog w) A (call (.type "tuple") [.ref d]) Q E s := by
  refine callType_codes (Q₁ := fun obj s₁ => s₁.TypeIs obj "tuple" ∧ Q obj s₁) F.called_tuple (F.typeCall_tuple_1 _) F.entry_object_init
    (code_tuple_new_src (A := A.in1) K hh hok hn fun h' tk acc hk hacc => ⟨⟨_, Heap.get?_push_size _ rfl, rfl⟩, hQ h' tk acc hk hacc⟩) fun obj s₁ h₁ => ?_
  exact ⟨h₁.1, F.args_object_init_2 obj _, object_init_meets F.called_tuple.init.lookup F.called_tuple.made (by decide) prog w A.in1 _ s₁ ⟨h₁.1, rfl, h₁.2⟩⟩
end
open L2
theorem call_tuple_dK {X : Cx} (hc : X.calm = true) : CallR X (.type "tuple") (fun xs H Q => ∃ p kvs, xs = [.ref p] ∧ H p = some (.dK kvs) ∧ ∀ q, H q = none → Q (.ref q) (upd H q (.tup (kvs.map fun kv => kV kv.1)))) := by
  intro pins s σ H xs us Q I r h
  obtain ⟨p, kvs, e, hk, q⟩ := h
  subst e
  obtain ⟨u, eu, rx⟩ := vals1 r
  subst eu
  obtain rfl : u = Value.ref p := rx
  obtain ⟨z, lo, vs, rk, hd⟩ := (show ObjOk X.prog X.w H s.heap p (.dK kvs) from I.hok p _ hk)
  obtain ⟨ep, hat⟩ := hd.dictAt
  have hl : kvs.length = vs.length := Paired.length rk
  refine call_tuple_src (PySem.W.kdl_dict (knd := mixKind X.prog X.w) (kvs := vs) (ep := ep) lo) (I.ok.hd hc) hat (by rw [← hl]; exact z) fun h' tk acc hkeep hacc => ?_
  have I2 : Inv X pins σ H { s with heap := h', toks := tk } := I.kept hkeep
  refine ⟨.ref h'.objs.size, upd H h'.objs.size (.tup (kvs.map fun kv => kV kv.1)), I2.laid (t' := tk) (fun c o e => Heap.get?_push_of_some _ e) (Nat.le_refl _) (show ObjOk X.prog X.w _ _ _ (.tup (kvs.map fun kv => kV kv.1)) from ⟨?_, acc.toList, ?_, ?_⟩), rfl, q _ (I2.hok.fresh (Nat.le_refl _))⟩
  · rw [List.length_map]; exact z
  · have el : acc.toList.length = acc.size := by simp
    refine vals_of_at (by rw [List.length_map, el, hacc.1, hl]) fun j x w h1 h2 => ?_
    obtain ⟨k, y, hky, hi⟩ := hacc.2 j w (by rw [← Array.getElem?_toList]; exact h2)
    have e1 : (kvs.map (·.1))[j]? = some k := by
      rw [KV.keys rk, List.getElem?_map, hky] <;> rfl
    have e2 : (kvs.map fun kv => kV kv.1)[j]? = some (kV k) := by
      have e3 : (kvs.map fun kv => kV kv.1) = (kvs.map (·.1)).map kV := by rw [List.map_map] <;> rfl
      rw [e3, List.getElem?_map, e1] <;> rfl
    rw [e2] at h1
    cases h1
    exact keyIs_rel hi
  · rw [Array.toArray_toList]; exact IsTup.new _ _
end Dl

namespace Dl
open PySem L2
theorem NmOk.of {H H' : Hp} {v : V} (s : Same H H') (h : NmOk H v) : NmOk H' v := by
  cases v with
  | ref p => obtain ⟨xs, e⟩ := h; exact ⟨xs, s _ _ e⟩
  | str z => exact h
  | int i => exact h
  | non => exact h
  | bl _ => exact h
  | byt _ => exact h
  | flt _ => exact h
  | ty _ => exact h
theorem Same.tup {K : PySem.W.Frag} {H H' : Hp} {a : Addr} {xs : List V} (e : Same H H') (h : SqT K H a xs) : SqT K H' a xs := by
  rcases h with (h | ⟨o, h⟩) | h
  · exact .inl (.inl (e _ _ h))
  · exact .inl (.inr ⟨o, e _ _ h⟩)
  · exact .inr h
def knows (v : V) (es : List Str) : Bool :=
  match v with
  | .str z => decide (z ∈ es)
  | _ => false
/-- check_known(name, names), names a tuple of texts -/
def spKnown (K : PySem.W.Frag) (C : Cs) : Sp := fun vs H Q E => ∃ (v : V) (p : Addr) (es : List Str), vs = [v, .ref p] ∧ NmOk H v ∧ SqT K H p (es.map V.str) ∧ (knows v es = true → Q .non H) ∧ (knows v es = false → Out1 C.unk "name" v H E)
def strOf : V → Str
  | .str z => z
  | _ => ""
def chkNames : List V → List Str → Except Er (List Str)
  | [], acc => .ok acc
  | v :: r, acc => match chkNew v acc with
    | some e => .error e
    | none => chkNames r (acc ++ [strOf v])
theorem chkNew_none {v : V} {es : List Str} (h : chkNew v es = none) : ∃ z, v = .str z ∧ validN z = true ∧ z ∉ es := by
  cases v with
  | str z =>
    refine ⟨z, rfl, ?_⟩
    unfold chkNew at h
    by_cases h1 : validN z = true
    · by_cases h2 : z ∈ es
      · simp [h1, h2] at h
      · exact ⟨h1, h2⟩
    · simp [h1] at h
  | _ => simp [chkNew] at h
/-- distinct_names(names), names a list or a tuple -/
def spDistinct (K : PySem.W.Frag) (C : Cs) : Sp := fun vs H Q E => ∃ (p : Addr) (xs : List V), vs = [.ref p] ∧ (SqL K H p xs ∨ SqT K H p xs) ∧ (∀ v ∈ xs, NmOk H v) ∧ xs.length ≤ 1000 ∧
  (∀ es, chkNames xs [] = .ok es → ∀ H' t, Same H H' → H t = none → H' t = some (.tup (es.map V.str)) → Q (.ref t) H') ∧ ∀ e, chkNames xs [] = .error e → Out C H E e
section
variable {P : Program} {w : World} {K : PySem.W.Frag} {mg : Str → Option Value} {base : Heap} {C : Cs}
theorem scCheckKnown : FnScope ["name", "names"] ["name", "names"] (defScope sCheckKnown) := ⟨rfl, rfl, rfl, by decide +kernel, rfl, by decide +kernel, by decide +kernel⟩
theorem ok_known {f : Addr} {fd : FuncData} (F : Fun K "check_known" "check_known" sCheckKnown f fd) (T : TxtN mg) (xU : Ex P w K mg base "UnknownName" "name" C.unk) :
    FnOk P w K mg base (L2.CX P w) 4 f fd ["name", "names"] (spKnown K C) := by
  obtain ⟨fI, dI, TI, bI, GI⟩ := xU
  refine F.okX scCheckKnown (fun vs H Q E h => ?_) (fun cdv A outer s H vs Q E hr h => ?_)
  · obtain ⟨b, n, es, rfl, _⟩ := h
    rfl
  · obtain ⟨v, p, es, rfl, hv, hp, k, kx⟩ := h
    have hr2 : Room 2 _ := hr.mono (by decide)
    refine ⟨_, pss_one (ps_if (PW.pt (pw_or (pt_not (pt_val (pe_callB call_isi (by rfl) T.isi (by decide +kernel) (pa_cons (pv 0) (pa_cons (pe_bltn (v := .ty "str") (by rfl) T.str (by decide +kernel) rfl) pa_nil)))))
        (pw_or1 (pt_cmpR op_notIn_seq (pv 0) (pv 1) (by rfl)))))
        (pss_one (ps_raise rfl (takes_of rfl rfl rfl rfl) (pmk_oex TI.oex TI.iC TI.tI GI hr2 bI .nil pass0 (by rfl) TI.gC (pa_cons (pv 0) pa_nil)))) pss_nil), ?_⟩
    obtain ⟨ty, b, h1, h2, h3⟩ := nm_type K hv
    refine ⟨_, rfl, v, _, _, _, b, rfl, ClsV.ty "str", h1, h2, b, rfl, ?_⟩
    rcases h3 with ⟨rfl, h3, hns⟩ | ⟨rfl, z, rfl, hz⟩
    · refine iteT (?_)
      have hk : knows v es = false := by
        cases v with
        | str z => exact absurd rfl (hns z)
        | _ => rfl
      exact ⟨_, rfl, raise_end (kx hk)⟩
    · refine iteF (?_)
      refine ⟨_, rfl, _, rfl, p, _, rfl, .inr hp, rfl, flat_strs es, _, rfl, ?_⟩
      show if (!inV (.str z) (es.map V.str)) = true then _ else _
      rw [inV_str]
      by_cases hm : z ∈ es
      · rw [decide_eq_true hm]
        exact iteF (k (by simp [knows, hm]))
      · rw [decide_eq_false hm]
        exact iteT (⟨_, rfl, raise_end (kx (by simp [knows, hm]))⟩)
theorem scDistinct : FnScope ["names", "found", "name"] ["names"] (defScope sDistinct) := ⟨rfl, rfl, rfl, by decide +kernel, rfl, by decide +kernel, by decide +kernel⟩
theorem ok_distinct {f : Addr} {fd : FuncData} (F : Fun K "distinct_names" "distinct_names" sDistinct f fd) (mT : mg "tuple" = none) (gN : Dfn P w K mg base (L2.CX P w) 4 "check_new" ["name", "earlier"] (spNewL K C)) :
    FnOk P w K mg base (L2.CX P w) 6 f fd ["names"] (spDistinct K C) := by
  obtain ⟨fN, dN, mN, kN, bN, GN⟩ := gN
  refine F.okX scDistinct (fun vs H Q E h => ?_) (fun cdv A outer s H vs Q E hr h => ?_)
  · obtain ⟨b, n, rfl, _⟩ := h
    rfl
  · obtain ⟨p, xs, rfl, hp, hx, hlen, k, kx⟩ := h
    have hr4 : Room 4 _ := hr.mono (by decide)
    rcases hp with hp | hp
    · refine ⟨_, pss_cons (ps_set (i := 1) scDistinct.nd rfl (Or.inl rfl) (pe_lst pa_nil)) (pss_cons (ps_for (passes_of rfl) rfl (pi_list (pv 0)) (pg_name (i := 2) scDistinct.nd rfl (Or.inl rfl))
        (pss_cons (ps_expr (pe_call GN hr4 (by rfl) mN kN bN .nil (passes_call (takes_of rfl rfl rfl rfl) (fun _ _ _ _ h => h)) (pa_cons (pv 2) (pa_cons (pv 1) pa_nil))))
        (pss_one (ps_expr (pe_bm PySem.F.plainAttrs_list PySem.F.slot_list_append PySem.F.type_list_append mt_append (pv 1) (pa_cons (pv 2) pa_nil))))))
        (pss_one (ps_ret (pe_callTy call_tuple_of (by rfl) mT (by decide +kernel) (pa_cons (pv 1) pa_nil))))), ?_⟩
      refine ⟨Nat.zero_le _, fun l hl => ⟨_, rfl, p, rfl, ⟨_, Same.seq (Same.upd_new hl) hp⟩, for_it (walk_list (K := K) (a := p) (xs := xs)) (fun i σ H' => ∃ (acc : List Str) (x : Option V), σ = [some (.ref p), some (.ref l), x] ∧ H' l = some (.lst (acc.map V.str)) ∧ Same H H' ∧ chkNames (xs.drop i) acc = chkNames xs [] ∧ acc.length ≤ i)
        ⟨[], none, rfl, upd_same, Same.upd_new hl, rfl, Nat.le_refl _⟩ (fun i σ H' _ ⟨_, _, _, _, s1, _⟩ => Same.seq s1 hp) ?_ ?_⟩⟩
      · rintro i v σ H1 H2 hi ⟨acc, x, rfl, hL, s1, hc, ha⟩ ⟨rfl, hv⟩
        have hd : xs.drop i = v :: xs.drop (i + 1) := by
          rw [List.drop_eq_getElem_cons hi]
          have q := (List.getElem?_eq_some_iff.mp hv).2
          rw [q]
        rw [hd] at hc
        refine ⟨_, rfl, _, rfl, v, l, acc, rfl, (hx v (List.mem_of_getElem? hv)).of s1, hL, fun H3 s3 hn => ?_, fun e he => ?_⟩
        · obtain ⟨z, rfl, _, _⟩ := chkNew_none hn
          refine ⟨_, rfl, .inl ⟨rfl, _, SqL.of (s3 _ _ hL)⟩, _, rfl, l, _, _, rfl, rfl, s3 _ _ hL, ?_, ?_⟩
          · rw [List.length_map]
            exact small1000 (by omega)
          · refine ⟨acc ++ [z], _, rfl, ?_, fun b o e => ?_, ?_, ?_⟩
            · rw [upd_same, List.map_append]; rfl
            · rw [upd_ne (ne_of_none e hl)]
              exact s3 _ _ (s1 _ _ e)
            · rw [← hc, chkNames, hn]
              rfl
            · rw [List.length_append]
              simp
              omega
        · have hce : chkNames xs [] = .error e := by rw [← hc, chkNames, he]
          exact Out.of s1 (kx e hce)
      · rintro σ H1 ⟨acc, x, rfl, hL, s1, hc, ha⟩
        rw [List.drop_length] at hc
        refine ⟨_, rfl, l, _, rfl, .inl ⟨SqL.of hL, fun t ht => ?_⟩⟩
        exact k acc hc.symm _ t (s1.trans (Same.upd_new ht)) (s1.free ht) upd_same
    · refine ⟨_, pss_cons (ps_set (i := 1) scDistinct.nd rfl (Or.inl rfl) (pe_lst pa_nil)) (pss_cons (ps_for (passes_of rfl) rfl (pi_tup (pv 0)) (pg_name (i := 2) scDistinct.nd rfl (Or.inl rfl))
        (pss_cons (ps_expr (pe_call GN hr4 (by rfl) mN kN bN .nil (passes_call (takes_of rfl rfl rfl rfl) (fun _ _ _ _ h => h)) (pa_cons (pv 2) (pa_cons (pv 1) pa_nil))))
        (pss_one (ps_expr (pe_bm PySem.F.plainAttrs_list PySem.F.slot_list_append PySem.F.type_list_append mt_append (pv 1) (pa_cons (pv 2) pa_nil))))))
        (pss_one (ps_ret (pe_callTy call_tuple_of (by rfl) mT (by decide +kernel) (pa_cons (pv 1) pa_nil))))), ?_⟩
      refine ⟨Nat.zero_le _, fun l hl => ⟨_, rfl, p, rfl, ⟨_, Same.tup (Same.upd_new hl) hp⟩, for_it (walk_tup (K := K) (a := p) (xs := xs)) (fun i σ H' => ∃ (acc : List Str) (x : Option V), σ = [some (.ref p), some (.ref l), x] ∧ H' l = some (.lst (acc.map V.str)) ∧ Same H H' ∧ chkNames (xs.drop i) acc = chkNames xs [] ∧ acc.length ≤ i)
        ⟨[], none, rfl, upd_same, Same.upd_new hl, rfl, Nat.le_refl _⟩ (fun i σ H' _ ⟨_, _, _, _, s1, _⟩ => Same.tup s1 hp) ?_ ?_⟩⟩
      · rintro i v σ H1 H2 hi ⟨acc, x, rfl, hL, s1, hc, ha⟩ ⟨rfl, hv⟩
        have hd : xs.drop i = v :: xs.drop (i + 1) := by
          rw [List.drop_eq_getElem_cons hi]
          have q := (List.getElem?_eq_some_iff.mp hv).2
          rw [q]
        rw [hd] at hc
        refine ⟨_, rfl, _, rfl, v, l, acc, rfl, (hx v (List.mem_of_getElem? hv)).of s1, hL, fun H3 s3 hn => ?_, fun e he => ?_⟩
        · obtain ⟨z, rfl, _, _⟩ := chkNew_none hn
          refine ⟨_, rfl, .inl ⟨rfl, _, SqL.of (s3 _ _ hL)⟩, _, rfl, l, _, _, rfl, rfl, s3 _ _ hL, ?_, ?_⟩
          · rw [List.length_map]
            exact small1000 (by omega)
          · refine ⟨acc ++ [z], _, rfl, ?_, fun b o e => ?_, ?_, ?_⟩
            · rw [upd_same, List.map_append]; rfl
            · rw [upd_ne (ne_of_none e hl)]
              exact s3 _ _ (s1 _ _ e)
            · rw [← hc, chkNames, hn]
              rfl
            · rw [List.length_append]
              simp
              omega
        · have hce : chkNames xs [] = .error e := by rw [← hc, chkNames, he]
          exact Out.of s1 (kx e hce)
      · rintro σ H1 ⟨acc, x, rfl, hL, s1, hc, ha⟩
        rw [List.drop_length] at hc
        refine ⟨_, rfl, l, _, rfl, .inl ⟨SqL.of hL, fun t ht => ?_⟩⟩
        exact k acc hc.symm _ t (s1.trans (Same.upd_new ht)) (s1.free ht) upd_same
end
end Dl

namespace Dl
open PySem L2
/-- the shown lamps: known ones, none of them twice -/
def chkShown : List V → List Str → List Str → Option Er
  | [], _, _ => none
  | v :: r, es, prev => if knows v es then (if strOf v ∈ prev then some (.dup v) else chkShown r es (prev ++ [strOf v])) else some (.unk v)
theorem knows_str {v : V} {es : List Str} (h : knows v es = true) : ∃ z, v = .str z ∧ z ∈ es := by
  cases v with
  | str z => exact ⟨z, rfl, of_decide_eq_true h⟩
  | _ => cases h
def spShown (K : PySem.W.Frag) (C : Cs) : Sp := fun vs H Q E => ∃ (p q : Addr) (xs : List V) (es : List Str), vs = [.ref p, .ref q] ∧ SqL K H p xs ∧ (∀ v ∈ xs, NmOk H v) ∧ xs.length ≤ 1000 ∧ SqT K H q (es.map V.str) ∧
  (∀ H', chkShown xs es [] = none → Same H H' → Q .non H') ∧ ∀ e, chkShown xs es [] = some e → Out C H E e
theorem cut_take (xs : List V) (i : Nat) : cutV xs none (some (i : Int)) = xs.take i := by
  unfold cutV
  rw [HT.sIx_nat, HT.sIx_none]
  simp only [List.drop_zero, Nat.sub_zero]
  by_cases h : i ≤ xs.length
  · rw [Nat.min_eq_left h]
  · rw [Nat.min_eq_right (by omega), List.take_of_length_le (by omega), List.take_of_length_le (by omega)]
section
variable {P : Program} {w : World} {K : PySem.W.Frag} {mg : Str → Option Value} {base : Heap} {C : Cs}
theorem scCheckShown : FnScope ["shown", "lamps", "at", "lamp"] ["shown", "lamps"] (defScope sCheckShown) := ⟨rfl, rfl, rfl, by decide +kernel, rfl, by decide +kernel, by decide +kernel⟩
theorem ok_shown {f : Addr} {fd : FuncData} (F : Fun K "_check_shown" "_check_shown" sCheckShown f fd) (mE : mg "enumerate" = none) (gN : Dfn P w K mg base (L2.CX P w) 4 "check_known" ["name", "names"] (spKnown K C)) (xD : Ex P w K mg base "DuplicateName" "name" C.dup) :
    FnOk P w K mg base (L2.CX P w) 6 f fd ["shown", "lamps"] (spShown K C) := by
  obtain ⟨fN, dN, mN, kN, bN, GN⟩ := gN
  obtain ⟨fD, dD, TD, bD, GD⟩ := xD
  refine F.okX scCheckShown (fun vs H Q E h => ?_) (fun cdv A outer s H vs Q E hr h => ?_)
  · obtain ⟨b, n, xs, es, rfl, _⟩ := h
    rfl
  · obtain ⟨p, q, xs, es, rfl, hp, hx, hlen, hq, k, kx⟩ := h
    have hr4 : Room 4 _ := hr.mono (by decide)
    have hr2 : Room 2 _ := hr.mono (by decide)
    refine ⟨_, pss_one (ps_for (passes_of rfl) rfl (pi_enum (by rfl) mE (pa_cons (pv 0) pa_nil)) (pg_tup rfl (pgs_cons (pg_name (i := 2) scCheckShown.nd rfl (Or.inl rfl)) (pgs_cons (pg_name (i := 3) scCheckShown.nd rfl (Or.inl rfl)) pgs_nil)))
        (pss_cons (ps_expr (pe_call GN hr4 (by rfl) mN kN bN .nil (passes_call (takes_of rfl rfl rfl rfl) (fun _ _ _ _ h => h)) (pa_cons (pv 3) (pa_cons (pv 1) pa_nil))))
        (pss_one (ps_if (pt_cmpR op_in_seq (pv 3) (pe_slice sl_list (pv 0) po_none (po_some (pv 2))) (by rfl))
          (pss_one (ps_raise rfl (takes_of rfl rfl rfl rfl) (pmk_oex TD.oex TD.iC TD.tI GD hr2 bD .nil pass0 (by rfl) TD.gC (pa_cons (pv 3) pa_nil)))) pss_nil)))), ?_⟩
    refine ⟨_, rfl, p, xs, rfl, hp, for_it (walk_enum (K := K) (a := p) (xs := xs)) (fun i σ H' => ∃ (x y : Option V) (prev : List Str), σ = [some (.ref p), some (.ref q), x, y] ∧ Same H H' ∧ xs.take i = prev.map V.str ∧ chkShown (xs.drop i) es prev = chkShown xs es [])
      ⟨none, none, [], rfl, Same.refl H, rfl, rfl⟩ (fun i σ H' _ ⟨_, _, _, _, s1, _⟩ => Same.seq s1 hp) ?_ ?_⟩
    · rintro i v σ H1 H2 hi ⟨x, y, prev, rfl, s1, ht, hc⟩ ⟨T, a, v, rfl, hT, rfl, ea, hv⟩
      cases ea
      have hd : xs.drop i = v :: xs.drop (i + 1) := by
        rw [List.drop_eq_getElem_cons hi]
        have q := (List.getElem?_eq_some_iff.mp hv).2
        rw [q]
      rw [hd] at hc
      have s2 : Same H (upd H1 T (.tup [.int (i : Nat), v])) := s1.trans (Same.upd_new hT)
      refine ⟨T, _, rfl, SqT.of upd_same, rfl, _, _, rfl, _, _, rfl, rfl, ?_⟩
      refine ⟨_, rfl, _, rfl, v, q, es, rfl, (hx v (List.mem_of_getElem? hv)).of s2, Same.tup s2 hq, fun hk => ?_, fun hk => ?_⟩
      · obtain ⟨z, rfl, hz⟩ := knows_str hk
        refine ⟨_, rfl, _, rfl, _, rfl, (i : Int), rfl, p, xs, rfl, Same.seq s2 hp, fun l hl => ?_⟩
        have hl' : (upd H1 T (.tup [.int (i : Nat), V.str z])) l = none := hl
        refine ⟨l, _, rfl, .inl (SqL.of upd_same), rfl, ?_, _, rfl, ?_⟩
        · rw [cut_take, ht]
          exact flat_strs prev
        · show if (inV (.str z) (cutV xs none (some (i : Int)))) = true then _ else _
          rw [cut_take, ht, inV_str]
          by_cases hm : z ∈ prev
          · rw [decide_eq_true hm]
            refine iteT (⟨_, rfl, raise_end ?_⟩)
            have hce : chkShown xs es [] = some (.dup (.str z)) := by
              rw [← hc, chkShown, if_pos hk, if_pos (show strOf (.str z) ∈ prev from hm)]
            exact Out.of (e := .dup (.str z)) (s2.trans (Same.upd_new hl')) (kx _ hce)
          · rw [decide_eq_false hm]
            refine iteF ?_
            refine ⟨_, _, prev ++ [z], rfl, s2.trans (Same.upd_new hl'), ?_, ?_⟩
            · have hv2 : xs[i]? = some (V.str z) := hv
              rw [List.take_succ, ht, hv2, List.map_append]
              rfl
            · rw [← hc, chkShown, if_pos hk, if_neg (show ¬ strOf (.str z) ∈ prev from hm)]
              rfl
      · have hce : chkShown xs es [] = some (.unk v) := by
          rw [← hc, chkShown, if_neg (by rw [hk]; decide)]
        exact Out1.of s2 (kx _ hce)
    · rintro σ H1 ⟨x, y, prev, rfl, s1, ht, hc⟩
      rw [List.drop_length] at hc
      exact k H1 hc.symm s1
end
end Dl

namespace Dl
open PySem PySem.Spec PyProof.Rows L2
/-! enumerate(t) of a tuple: my own rule -/
theorem enum_new_tup (l : Addr) (items : Array Value) (n : Nat) (dct : Option Addr) (sl : Array (Option Value)) :
    Meets (Builtin.«enumerate.__new__» ⟨[.type "enumerate", .ref l], []⟩) (fun _ R s => s.heap.get? l = some { cls := .type "tuple", dict := dct, data := .seq items n, slots := sl } ∧
      R (.ok (.ret (.ref (s.heap.push { cls := .type "tuple_iterator", data := .fields #[.ref l, .int 0 0] }).objs.size)))
        { s with heap := (s.heap.push { cls := .type "tuple_iterator", data := .fields #[.ref l, .int 0 0] }).push { cls := .type "enumerate", data := .fields #[.none, .bool false, .ref s.heap.objs.size, rawInt 0, .none, .none] } }) :=
  .of_wp fun prog w A R s h => by
    obtain ⟨hp, g, d, tk, os⟩ := s
    obtain ⟨hl, h⟩ := h
    have hsub := sub_enumerate
    have hT : Heap.IsTuple (Shared.heap ⟨hp, g, d, tk, os⟩) l items := ⟨_, hl, rfl, n, rfl⟩
    wp_walk using AutoSeq1.wpAny_loadPart' hl
    refine wpAny_stack_any fun st => wpAny_pure ?_
    split
    · rename_i c _ _ _ _ _
      cases (c == Value.type "enumerate") <;>
        (wp_walk using AutoSeq1.wpAny_loadPart' hl, wpAny_pyIter_tuple hT
         exact ⟨_, rfl, h⟩)
    · wp_walk using AutoSeq1.wpAny_loadPart' hl, wpAny_pyIter_tuple hT
      exact ⟨_, rfl, h⟩
end Dl
namespace Dl
open PySem PySem.Spec PyProof.Rows L2
section
variable {prog : Program} {w : World} {A : Around} {E : Value → Shared → Prop} {s : Shared}
theorem call_enum_tup {l : Addr} {items : Array Value} {Q : Value → Shared → Prop} (hL : s.heap.IsTuple l items)
    (h : ∀ h', IsEnum h' (s.heap.objs.size + 1) s.heap.objs.size 0 .none → h'.IsTupleIter s.heap.objs.size l 0 → h'.objs.size = s.heap.objs.size + 2 →
      (∀ b o, s.heap.get? b = some o → h'.get? b = some o) → Q (.ref (s.heap.objs.size + 1)) { s with heap := h' }) :
    wpAny (model prog w) A (call (.type "enumerate") [.ref l]) Q E s := by
  obtain ⟨⟨c, dct, dt, sl⟩, hl, hc, n, hd⟩ := hL
  have hc' : c = .type "tuple" := hc
  have hd' : dt = .seq items n := hd
  subst hc' hd'
  refine callType_new F.called_enumerate (by decide) (F.typeCall_enumerate_1 _) (F.newCall_enumerate_1 _) (fun obj => F.args_object_init_2 obj _) F.entry_enumerate_new (enum_new_tup l items n dct sl) ⟨hl, ?_⟩
  generalize hp1 : s.heap.push { cls := .type "tuple_iterator", data := .fields #[.ref l, .int 0 0] } = h1
  have hz : h1.objs.size = s.heap.objs.size + 1 := by rw [← hp1]; exact Heap.size_push ..
  show _ ∧ _
  rw [hz]
  generalize hp2 : h1.push { cls := .type "enumerate", data := .fields #[.none, .bool false, .ref s.heap.objs.size, rawInt 0, .none, .none] } = h2
  have he : IsEnum h2 (s.heap.objs.size + 1) s.heap.objs.size 0 .none := by
    have q := Heap.get?_push_size h1 (o := { cls := .type "enumerate", data := .fields #[.none, .bool false, .ref s.heap.objs.size, rawInt 0, .none, .none] }) rfl
    rw [hz, hp2] at q
    exact q
  have up1 : ∀ b o, s.heap.get? b = some o → h1.get? b = some o := fun b o x => by rw [← hp1]; exact Heap.get?_push_of_some _ x
  have up2 : ∀ b o, h1.get? b = some o → h2.get? b = some o := fun b o x => by rw [← hp2]; exact Heap.get?_push_of_some _ x
  have it1 : h1.get? s.heap.objs.size = some { cls := .type "tuple_iterator", data := .fields #[.ref l, .int 0 0] } := by rw [← hp1]; exact Heap.get?_push_size _ rfl
  exact ⟨⟨_, he, rfl⟩, h _ he ⟨_, up2 _ _ it1, rfl, rfl⟩ (by rw [← hp2, Heap.size_push, hz]) fun b o x => up2 _ _ (up1 _ _ x)⟩
end
/-- the tuple at a, each item in a new pair with its number -/
def IteT (K : PySem.W.Frag) (a : Addr) : It :=
  ⟨fun i H => ∃ (xs : List V) (x : V), SqT K H a xs ∧ xs[i]? = some x, fun i H v H' => ∃ T x, v = .ref T ∧ H T = none ∧ H' = upd H T (.tup [.int (i : Nat), x]) ∧ ∀ xs, SqT K H a xs → xs[i]? = some x, fun i H => ∃ xs : List V, SqT K H a xs ∧ xs.length = i⟩
theorem turn_enumT {P : Program} {w : World} {K : PySem.W.Frag} {elts : List Expr} {kk : Nat} {tpos : Pos} (a e it : Addr) :
    Turn P w K (.Tuple elts kk tpos) (IteT K a) [e, it] e (fun i h => (∃ old, IsEnum h e it ((i : Nat) : Int) old) ∧ h.IsTupleIter it a i ∧ e ≠ it) where
  mem := by simp
  obj := fun i h st b hb => by
    obtain ⟨⟨old, he⟩, ⟨o, ho, hc, hd⟩, _⟩ := st
    have two : b = e ∨ b = it := by simpa using hb
    rcases two with rfl | rfl
    · exact ⟨_, he, fun v q => nomatch q⟩
    · exact ⟨o, ho, fun v q => by rw [hd] at q; cases q⟩
  keep := fun i h h' st k => by
    obtain ⟨⟨old, he⟩, hi, hne⟩ := st
    exact ⟨⟨old, k e (by simp) _ he⟩, hi.at fun o q => k it (by simp) o q, hne⟩
  item := by
    intro X hP hw hK hc i pins s σ H E I hf st hg
    subst hP hw hK
    obtain ⟨⟨old, he⟩, hit, hne⟩ := st
    obtain ⟨xs, x, hq, hx⟩ := hg
    obtain ⟨its, rv, p, hz⟩ := I.tuple hq
    have hp : s.heap.IsTuple a its.toArray := p
    obtain ⟨u, hu, ru⟩ := rv.get hx
    have hel : e < s.heap.objs.size := Heap.lt_size he
    have hil : it < s.heap.objs.size := by obtain ⟨_, q, _⟩ := hit; exact Heap.lt_size q
    have nai : a ≠ it := fun z => by
      obtain ⟨o1, q1, c1, _⟩ := hp
      obtain ⟨o2, q2, c2, _⟩ := hit
      rw [z, q2] at q1
      cases q1
      rw [c2] at c1
      exact absurd c1 (by decide)
    have nea : e ≠ a := fun z => by
      obtain ⟨o1, q1, c1, _⟩ := hp
      have q2 := he
      rw [z] at q2
      have q3 := q1.symm.trans q2
      cases q3
      have c2 : Value.type "enumerate" = Value.type "tuple" := c1
      exact absurd c2 (by decide)
    have hi : i < its.toArray.size := by
      have := (List.getElem?_eq_some_iff.mp hu).1
      simpa using this
    refine wpAny_pyNext_enum_itemC (Draws.tuple (prog := X.prog) (w := X.w) (A := X.A.in1) (show X.A.in1.handled = none from I.ok.hd hc) it a nai its.toArray) he ⟨hit, hp⟩ hi hne (by simp [hne, nea]) fun y h' tk hy ho st' hT hsz hk => ?_
    have ey : y = u := by
      have q : its.toArray[i]? = some y := hy
      rw [List.getElem?_toArray, hu] at q
      exact (Option.some.inj q).symm
    subst ey
    refine ⟨_, rfl, wpAny_letOwnedTupleGo_enum (s := { s with heap := h', toks := tk + 1 }) ho fun h'' he' sb => ?_⟩
    have hT2 : h''.get? s.heap.objs.size = some { cls := .type "tuple", data := .seq #[.int i tk, y] } := (sb.2 _ (Nat.ne_of_gt hel)).trans hT
    have new : ObjOk X.prog X.w (upd H s.heap.objs.size (.tup [.int (i : Nat), x])) h'' s.heap.objs.size (.tup [.int (i : Nat), x]) :=
      ⟨by show 2 ≤ sizeLine; decide, [.int i tk, y], .cons ⟨_, rfl⟩ (.cons ru .nil), ⟨_, hT2, rfl, _, rfl⟩⟩
    have I1 : Inv X pins σ (upd H s.heap.objs.size (.tup [.int (i : Nat), x])) { s with heap := h'', toks := tk + 1 } :=
      I.turnedNew (t' := tk + 1) (ch := [e, it]) (fun b ob hb q => (sb.2 b (fun z => hb (by simp [z]))).trans (hk b ob (fun z => hb (by simp [z])) (fun z => hb (by simp [z])) q)) hf (Nat.le_refl _) new
    refine ⟨.ref s.heap.objs.size, _, I1, rfl, ⟨_, x, rfl, I.hok.fresh (Nat.le_refl _), rfl, fun ys hys => by rw [I.tuple_inj hys hq]; exact hx⟩, ⟨⟨y, ?_⟩, st'.1.at fun o q => (sb.2 it (Ne.symm hne)).trans q, hne⟩, fun b hb => ?_⟩
    · have e1 : ((i + 1 : Nat) : Int) = (i : Int) + 1 := by omega
      rw [e1]
      exact he'
    · have lt : b < s.heap.objs.size := by
        have two : b = e ∨ b = it := by simpa using hb
        rcases two with rfl | rfl
        · exact hel
        · exact hil
      rw [upd_ne (Nat.ne_of_lt lt)]
      exact (hf b hb).1
  done := by
    intro X hP hw hK hc i pins s σ H E I hf st hg
    subst hP hw hK
    obtain ⟨⟨old, he⟩, hit, hne⟩ := st
    obtain ⟨xs, hq, hx⟩ := hg
    obtain ⟨its, rv, p, hz⟩ := I.tuple hq
    have hp : s.heap.IsTuple a its.toArray := p
    obtain ⟨f0, f1, f2, f3, f4, f5⟩ := hf it (by simp)
    have nai : a ≠ it := fun z => by
      obtain ⟨o1, q1, c1, _⟩ := hp
      obtain ⟨o2, q2, c2, _⟩ := hit
      rw [z, q2] at q1
      cases q1
      rw [c2] at c1
      exact absurd c1 (by decide)
    have hl : its.toArray.size = i := by
      have := rv.length
      simp
      omega
    exact wpAny_pyNext_enum_endD (Draws.tuple (prog := X.prog) (w := X.w) (A := X.A.in1) (show X.A.in1.handled = none from I.ok.hd hc) it a nai its.toArray) he ⟨by rw [hl]; exact hit, hp⟩ fun h' eb => ⟨rfl, I.turned (t' := s.toks) (fun b o hb q => eb b o hb q) f0 f1 f3 f4 f5⟩
  self := fun A i s Q E st h => let ⟨⟨_, he⟩, _⟩ := st; wpAny_pyIter_enum he h
def iEnumT (K : PySem.W.Frag) (ta : TA) : TI := fun σ H R => ta σ H fun vs H1 => ∃ a xs, vs = [.ref a] ∧ SqT K H1 a xs ∧ R (IteT K a) H1
theorem pi_enumT {X : Cx} {e : Expr} {ta : TA} {p pos tpos : Pos} {elts : List Expr} {kk : Nat} (hg : Gl X "enumerate") (hm : X.mg "enumerate" = none) (ha : PA X [e] ta) (hs : starEach [e] X.env = [(false, eval e X.env)] := by rfl) :
    PI X (.Tuple elts kk tpos) (.Call (.Name "enumerate" p) [e] [] pos) (iEnumT X.K ta) := by
  constructor
  intro pins s σ H R I h
  refine Call_ ?_
  refine ld_blt I hg hm boot_enumerate ?_
  apply PyProof.Rows.callWith_type1 _ hs rfl
  apply thn (ha.run pos pins s σ H _ I h)
  rintro us s1 ⟨vs, H1, I1, r1, a, xs, rfl, hq, q⟩
  obtain ⟨u, rfl, ru⟩ := vals1 r1
  cases ru
  obtain ⟨its, rv, p', hz⟩ := I1.tuple hq
  refine call_enum_tup (show s1.heap.IsTuple a its.toArray from p') fun h' he hit hsz hk => wpAny_pyIter_enum he ?_
  have I2 : Inv X pins σ H1 { s1 with heap := h' } := I1.kept (t' := s1.toks) hk
  refine ⟨s1.heap.objs.size + 1, [s1.heap.objs.size + 1, s1.heap.objs.size], _, _, H1, rfl, I2, turn_enumT a (s1.heap.objs.size + 1) s1.heap.objs.size, ⟨⟨.none, he⟩, hit, Nat.succ_ne_self _⟩, fun b hb => ?_, q⟩
  have hle : s1.heap.objs.size ≤ b := by
    have two : b = s1.heap.objs.size + 1 ∨ b = s1.heap.objs.size := by simpa using hb
    rcases two with z | z
    · rw [z]; exact Nat.le_add_right _ _
    · rw [z]; exact Nat.le_refl _
  exact I1.fpOk hle (I1.hok.fresh hle)
theorem walk_enumT {K : PySem.W.Frag} {a : Addr} {xs : List V} : Walk (IteT K a) xs.length (fun H => SqT K H a xs) (YPair (fun i => some (.int (i : Nat))) (fun i => xs[i]?)) := by
  constructor
  · intro i H hi q
    exact ⟨xs, xs[i], q, by simp [hi]⟩
  · intro H q
    exact ⟨xs, q, rfl⟩
  · rintro i H v H' _ q ⟨T, x, h1, h2, h3, h4⟩
    exact ⟨T, .int (i : Nat), x, h1, h2, h3, rfl, h4 xs q⟩
end Dl

namespace Dl
open PySem L2
def spShown2 (K : PySem.W.Frag) (C : Cs) : Sp := fun vs H Q E => ∃ (p q : Addr) (xs : List V) (es : List Str), vs = [.ref p, .ref q] ∧ (SqL K H p xs ∨ SqT K H p xs) ∧ (∀ v ∈ xs, NmOk H v) ∧ xs.length ≤ 1000 ∧ SqT K H q (es.map V.str) ∧
  (∀ H', chkShown xs es [] = none → Same H H' → Q .non H') ∧ ∀ e, chkShown xs es [] = some e → Out C H E e
section
variable {P : Program} {w : World} {K : PySem.W.Frag} {mg : Str → Option Value} {base : Heap} {C : Cs}
theorem ok_shown2 {f : Addr} {fd : FuncData} (F : Fun K "_check_shown" "_check_shown" sCheckShown f fd) (mE : mg "enumerate" = none) (gN : Dfn P w K mg base (L2.CX P w) 4 "check_known" ["name", "names"] (spKnown K C)) (xD : Ex P w K mg base "DuplicateName" "name" C.dup) :
    FnOk P w K mg base (L2.CX P w) 6 f fd ["shown", "lamps"] (spShown2 K C) := by
  obtain ⟨fN, dN, mN, kN, bN, GN⟩ := gN
  obtain ⟨fD, dD, TD, bD, GD⟩ := xD
  refine F.okX scCheckShown (fun vs H Q E h => ?_) (fun cdv A outer s H vs Q E hr h => ?_)
  · obtain ⟨b, n, xs, es, rfl, _⟩ := h
    rfl
  · obtain ⟨p, q, xs, es, rfl, hp, hx, hlen, hq, k, kx⟩ := h
    have hr4 : Room 4 _ := hr.mono (by decide)
    have hr2 : Room 2 _ := hr.mono (by decide)
    rcases hp with hp | hp
    · refine ⟨_, pss_one (ps_for (passes_of rfl) rfl (pi_enum (by rfl) mE (pa_cons (pv 0) pa_nil)) (pg_tup rfl (pgs_cons (pg_name (i := 2) scCheckShown.nd rfl (Or.inl rfl)) (pgs_cons (pg_name (i := 3) scCheckShown.nd rfl (Or.inl rfl)) pgs_nil)))
          (pss_cons (ps_expr (pe_call GN hr4 (by rfl) mN kN bN .nil (passes_call (takes_of rfl rfl rfl rfl) (fun _ _ _ _ h => h)) (pa_cons (pv 3) (pa_cons (pv 1) pa_nil))))
          (pss_one (ps_if (pt_cmpR op_in_seq (pv 3) (pe_slice sl_list (pv 0) po_none (po_some (pv 2))) (by rfl))
            (pss_one (ps_raise rfl (takes_of rfl rfl rfl rfl) (pmk_oex TD.oex TD.iC TD.tI GD hr2 bD .nil pass0 (by rfl) TD.gC (pa_cons (pv 3) pa_nil)))) pss_nil)))), ?_⟩
      refine ⟨_, rfl, p, xs, rfl, hp, for_it (walk_enum (K := K) (a := p) (xs := xs)) (fun i σ H' => ∃ (x y : Option V) (prev : List Str), σ = [some (.ref p), some (.ref q), x, y] ∧ Same H H' ∧ xs.take i = prev.map V.str ∧ chkShown (xs.drop i) es prev = chkShown xs es [])
        ⟨none, none, [], rfl, Same.refl H, rfl, rfl⟩ (fun i σ H' _ ⟨_, _, _, _, s1, _⟩ => Same.seq s1 hp) ?_ ?_⟩
      · rintro i v σ H1 H2 hi ⟨x, y, prev, rfl, s1, ht, hc⟩ ⟨T, a, v, rfl, hT, rfl, ea, hv⟩
        cases ea
        have hd : xs.drop i = v :: xs.drop (i + 1) := by
          rw [List.drop_eq_getElem_cons hi]
          have q := (List.getElem?_eq_some_iff.mp hv).2
          rw [q]
        rw [hd] at hc
        have s2 : Same H (upd H1 T (.tup [.int (i : Nat), v])) := s1.trans (Same.upd_new hT)
        refine ⟨T, _, rfl, SqT.of upd_same, rfl, _, _, rfl, _, _, rfl, rfl, ?_⟩
        refine ⟨_, rfl, _, rfl, v, q, es, rfl, (hx v (List.mem_of_getElem? hv)).of s2, Same.tup s2 hq, fun hk => ?_, fun hk => ?_⟩
        · obtain ⟨z, rfl, hz⟩ := knows_str hk
          refine ⟨_, rfl, _, rfl, _, rfl, (i : Int), rfl, p, xs, rfl, Same.seq s2 hp, fun l hl => ?_⟩
          have hl' : (upd H1 T (.tup [.int (i : Nat), V.str z])) l = none := hl
          refine ⟨l, _, rfl, .inl (SqL.of upd_same), rfl, ?_, _, rfl, ?_⟩
          · rw [cut_take, ht]
            exact flat_strs prev
          · show if (inV (.str z) (cutV xs none (some (i : Int)))) = true then _ else _
            rw [cut_take, ht, inV_str]
            by_cases hm : z ∈ prev
            · rw [decide_eq_true hm]
              refine iteT (⟨_, rfl, raise_end ?_⟩)
              have hce : chkShown xs es [] = some (.dup (.str z)) := by
                rw [← hc, chkShown, if_pos hk, if_pos (show strOf (.str z) ∈ prev from hm)]
              exact Out.of (e := .dup (.str z)) (s2.trans (Same.upd_new hl')) (kx _ hce)
            · rw [decide_eq_false hm]
              refine iteF ?_
              refine ⟨_, _, prev ++ [z], rfl, s2.trans (Same.upd_new hl'), ?_, ?_⟩
              · have hv2 : xs[i]? = some (V.str z) := hv
                rw [List.take_succ, ht, hv2, List.map_append]
                rfl
              · rw [← hc, chkShown, if_pos hk, if_neg (show ¬ strOf (.str z) ∈ prev from hm)]
                rfl
        · have hce : chkShown xs es [] = some (.unk v) := by
            rw [← hc, chkShown, if_neg (by rw [hk]; decide)]
          exact Out1.of s2 (kx _ hce)
      · rintro σ H1 ⟨x, y, prev, rfl, s1, ht, hc⟩
        rw [List.drop_length] at hc
        exact k H1 hc.symm s1
    · refine ⟨_, pss_one (ps_for (passes_of rfl) rfl (pi_enumT (by rfl) mE (pa_cons (pv 0) pa_nil)) (pg_tup rfl (pgs_cons (pg_name (i := 2) scCheckShown.nd rfl (Or.inl rfl)) (pgs_cons (pg_name (i := 3) scCheckShown.nd rfl (Or.inl rfl)) pgs_nil)))
          (pss_cons (ps_expr (pe_call GN hr4 (by rfl) mN kN bN .nil (passes_call (takes_of rfl rfl rfl rfl) (fun _ _ _ _ h => h)) (pa_cons (pv 3) (pa_cons (pv 1) pa_nil))))
          (pss_one (ps_if (pt_cmpR op_in_seq (pv 3) (pe_slice sl_tup (pv 0) po_none (po_some (pv 2))) (by rfl))
            (pss_one (ps_raise rfl (takes_of rfl rfl rfl rfl) (pmk_oex TD.oex TD.iC TD.tI GD hr2 bD .nil pass0 (by rfl) TD.gC (pa_cons (pv 3) pa_nil)))) pss_nil)))), ?_⟩
      refine ⟨_, rfl, p, xs, rfl, hp, for_it (walk_enumT (K := K) (a := p) (xs := xs)) (fun i σ H' => ∃ (x y : Option V) (prev : List Str), σ = [some (.ref p), some (.ref q), x, y] ∧ Same H H' ∧ xs.take i = prev.map V.str ∧ chkShown (xs.drop i) es prev = chkShown xs es [])
        ⟨none, none, [], rfl, Same.refl H, rfl, rfl⟩ (fun i σ H' _ ⟨_, _, _, _, s1, _⟩ => Same.tup s1 hp) ?_ ?_⟩
      · rintro i v σ H1 H2 hi ⟨x, y, prev, rfl, s1, ht, hc⟩ ⟨T, a, v, rfl, hT, rfl, ea, hv⟩
        cases ea
        have hd : xs.drop i = v :: xs.drop (i + 1) := by
          rw [List.drop_eq_getElem_cons hi]
          have q := (List.getElem?_eq_some_iff.mp hv).2
          rw [q]
        rw [hd] at hc
        have s2 : Same H (upd H1 T (.tup [.int (i : Nat), v])) := s1.trans (Same.upd_new hT)
        refine ⟨T, _, rfl, SqT.of upd_same, rfl, _, _, rfl, _, _, rfl, rfl, ?_⟩
        refine ⟨_, rfl, _, rfl, v, q, es, rfl, (hx v (List.mem_of_getElem? hv)).of s2, Same.tup s2 hq, fun hk => ?_, fun hk => ?_⟩
        · obtain ⟨z, rfl, hz⟩ := knows_str hk
          have whole : ¬ (HT.sIx xs.length 0 none = 0 ∧ HT.sIx xs.length xs.length (some ((i : Nat) : Int)) = xs.length) := by
            rw [HT.sIx_nat]
            omega
          refine ⟨_, rfl, _, rfl, _, rfl, (i : Int), rfl, p, xs, rfl, Same.tup s2 hp, whole, fun l hl => ?_⟩
          have hl' : (upd H1 T (.tup [.int (i : Nat), V.str z])) l = none := hl
          refine ⟨l, _, rfl, .inr (SqT.of upd_same), rfl, ?_, _, rfl, ?_⟩
          · rw [cut_take, ht]
            exact flat_strs prev
          · show if (inV (.str z) (cutV xs none (some (i : Int)))) = true then _ else _
            rw [cut_take, ht, inV_str]
            by_cases hm : z ∈ prev
            · rw [decide_eq_true hm]
              refine iteT (⟨_, rfl, raise_end ?_⟩)
              have hce : chkShown xs es [] = some (.dup (.str z)) := by
                rw [← hc, chkShown, if_pos hk, if_pos (show strOf (.str z) ∈ prev from hm)]
              exact Out.of (e := .dup (.str z)) (s2.trans (Same.upd_new hl')) (kx _ hce)
            · rw [decide_eq_false hm]
              refine iteF ?_
              refine ⟨_, _, prev ++ [z], rfl, s2.trans (Same.upd_new hl'), ?_, ?_⟩
              · have hv2 : xs[i]? = some (V.str z) := hv
                rw [List.take_succ, ht, hv2, List.map_append]
                rfl
              · rw [← hc, chkShown, if_pos hk, if_neg (show ¬ strOf (.str z) ∈ prev from hm)]
                rfl
        · have hce : chkShown xs es [] = some (.unk v) := by
            rw [← hc, chkShown, if_neg (by rw [hk]; decide)]
          exact Out1.of s2 (kx _ hce)
      · rintro σ H1 ⟨x, y, prev, rfl, s1, ht, hc⟩
        rw [List.drop_length] at hc
        exact k H1 hc.symm s1
end
end Dl

namespace Dl
open PySem L2
def chosen (ns cs : List Str) : List Str := ns.filter fun z => decide (z ∈ cs)
def spChosen (K : PySem.W.Frag) : Sp := fun vs H Q _ => ∃ (p q : Addr) (ns cs : List Str), vs = [.ref p, .ref q] ∧ SqT K H p (ns.map V.str) ∧ (SqL K H q (cs.map V.str) ∨ SqT K H q (cs.map V.str)) ∧ ns.length ≤ 1000 ∧
  ∀ H' t, Same H H' → H t = none → H' t = some (.tup ((chosen ns cs).map V.str)) → Q (.ref t) H'
theorem Same.either {K : PySem.W.Frag} {H H' : Hp} {a : Addr} {xs : List V} (e : Same H H') (h : SqL K H a xs ∨ SqT K H a xs) : SqL K H' a xs ∨ SqT K H' a xs := h.imp (Same.seq e) (Same.tup e)
section
variable {P : Program} {w : World} {K : PySem.W.Frag} {mg : Str → Option Value} {base : Heap} {C : Cs}
theorem scChosen : FnScope ["names", "chosen", "name"] ["names", "chosen"] (defScope sChosen) := ⟨rfl, rfl, rfl, by decide +kernel, rfl, by decide +kernel, by decide +kernel⟩
theorem ok_chosen {f : Addr} {fd : FuncData} (F : Fun K "_chosen_of" "_chosen_of" sChosen f fd) (mT : mg "tuple" = none) : FnOk P w K mg base CX0 1 f fd ["names", "chosen"] (spChosen K) := by
  refine F.ok scChosen (fun vs H Q E h => ?_) (fun cdv A outer s H vs Q E hr h => ?_)
  · obtain ⟨b, n, xs, es, rfl, _⟩ := h
    rfl
  · obtain ⟨p, q, ns, cs, rfl, hp, hq, hlen, k⟩ := h
    refine ⟨_, pss_one (ps_ret (pe_callTy call_tuple_of (by rfl) mT (by decide +kernel) (pa_cons
      (pe_lc (own := [("name", 2)]) (g := gName 2) (tt := tTest (tOp (rIn K false) (tVar 2) (tVar 1))) rfl scChosen.nd (pi_tup (pv 0)) (blkOk_by (N := ["names", "chosen", "name"]) (sc := defScope sChosen) (by decide +kernel))
          (fun _ _ _ _ _ => pg_name (i := 2) scChosen.nd rfl (Or.inl rfl)) (fun _ _ _ _ _ => pts_one (pt_cmpR op_in_seq (pv 2) (pv 1) (by rfl))) (fun _ _ _ _ _ => pv 2)) pa_nil))), ?_⟩
    refine ⟨_, rfl, p, rfl, ⟨_, hp⟩, fun D hD => lc_it (walk_tup (K := K) (a := p) (xs := ns.map V.str)) (fun i H' => H' = upd H D (.lst ((chosen (ns.take i) cs).map V.str))) rfl (fun i H' _ e => by rw [e]; exact Same.tup (Same.upd_new hD) hp) ?_ ?_⟩
    · rintro i x H1 H2 hi rfl ⟨rfl, hx⟩
      rw [List.length_map] at hi
      have hx2 : (ns.map V.str)[i]? = some x := hx
      rw [List.getElem?_map] at hx2
      cases e : ns[i]? with
      | none => rw [e] at hx2; cases hx2
      | some z =>
      rw [e] at hx2
      obtain rfl : V.str z = x := Option.some.inj hx2
      have s1 : Same H (upd H D (.lst ((chosen (ns.take i) cs).map V.str))) := Same.upd_new hD
      have st : chosen (ns.take (i + 1)) cs = chosen (ns.take i) cs ++ (if decide (z ∈ cs) = true then [z] else []) := by
        unfold chosen
        rw [List.take_succ, e, List.filter_append]
        by_cases hz : z ∈ cs <;> simp [hz]
      refine ⟨rfl, _, rfl, _, rfl, q, _, rfl, Same.either s1 hq, rfl, flat_strs cs, inV (.str z) (cs.map V.str), rfl, ?_⟩
      rw [inV_str]
      by_cases hz : z ∈ cs
      · rw [decide_eq_true hz]
        refine iteT ⟨_, rfl, _, upd_same, ?_, ?_⟩
        · have q1 : (chosen (ns.take i) cs).length ≤ i := Nat.le_trans (List.length_filter_le _ _) (by rw [List.length_take]; omega)
          rw [List.length_map]
          exact small1000 (by omega)
        · rw [upd_upd, st, decide_eq_true hz, if_pos rfl, List.map_append]
          rfl
      · rw [decide_eq_false hz]
        refine iteF ?_
        rw [st, decide_eq_false hz, if_neg (by decide), List.append_nil]
    · rintro H1 rfl
      refine ⟨D, _, rfl, .inl ⟨SqL.of upd_same, fun t ht => ?_⟩⟩
      have ht' : (upd H D (.lst ((chosen (ns.take (ns.map V.str).length) cs).map V.str))) t = none := ht
      refine k _ t ((Same.upd_new hD).trans (Same.upd_new ht')) ((Same.upd_new hD).free ht') ?_
      rw [upd_same, List.length_map, List.take_length]
end
end Dl

namespace Dl
open PySem L2
/-! ### the fields of a table, in the order in which they are set -/
theorem ne_sl : ¬ (("_shown" : Str) = "lamps") := by decide +kernel
theorem ne_ls : ¬ (("lamps" : Str) = "_shown") := by decide +kernel
theorem ne_ll : ¬ (("lamps" : Str) = "looks") := by decide +kernel
theorem ne_l2 : ¬ (("looks" : Str) = "lamps") := by decide +kernel
theorem ne_sk : ¬ (("_shown" : Str) = "looks") := by decide +kernel
theorem ne_ks : ¬ (("looks" : Str) = "_shown") := by decide +kernel
def pf1 (a : V) : List (Str × V) := putF "lamps" a []
def pf2 (a b : V) : List (Str × V) := putF "_shown" b (pf1 a)
def pf3 (a b c : V) : List (Str × V) := putF "looks" c (pf2 a b)
theorem putF_length (f : Str) (v : V) : ∀ fs : List (Str × V), (putF f v fs).length ≤ fs.length + 1
  | [] => by simp [putF]
  | (g, x) :: r => by
    unfold putF
    by_cases h : g = f
    · rw [if_pos h]; simp
    · rw [if_neg h]
      have := putF_length f v r
      simp only [List.length_cons]; omega
theorem pf1_len (a : V) : (pf1 a).length ≤ 1 := putF_length _ _ _
theorem pf2_len (a b : V) : (pf2 a b).length ≤ 2 := Nat.le_trans (putF_length _ _ _) (Nat.succ_le_succ (pf1_len a))
theorem pf1_lamps (a : V) : (pf1 a).lookup ("lamps" : Str) = some a := by unfold pf1; rw [lookup_putF, if_pos rfl]
theorem pf2_lamps (a b : V) : (pf2 a b).lookup ("lamps" : Str) = some a := by unfold pf2; rw [lookup_putF, if_neg ne_ls, pf1_lamps]
theorem pf2_shown (a b : V) : (pf2 a b).lookup ("_shown" : Str) = some b := by unfold pf2; rw [lookup_putF, if_pos rfl]
theorem pf3_lamps (a b c : V) : (pf3 a b c).lookup ("lamps" : Str) = some a := by unfold pf3; rw [lookup_putF, if_neg ne_ll, pf2_lamps]
theorem pf3_shown (a b c : V) : (pf3 a b c).lookup ("_shown" : Str) = some b := by unfold pf3; rw [lookup_putF, if_neg ne_sk, pf2_shown]
theorem pf3_looks (a b c : V) : (pf3 a b c).lookup ("looks" : Str) = some c := by unfold pf3; rw [lookup_putF, if_pos rfl]
theorem pf3_no (a b c : V) {m : Str} (h1 : ¬ m = "lamps") (h2 : ¬ m = "_shown") (h3 : ¬ m = "looks") : (pf3 a b c).lookup m = none := by
  unfold pf3 pf2 pf1
  rw [lookup_putF, if_neg h3, lookup_putF, if_neg h2, lookup_putF, if_neg h1]
  rfl
/-! ### what a table holds -/
inductive RowsAt (H : Hp) : List (Str × List Str) → List (Key × V) → Prop
  | nil : RowsAt H [] []
  | cons {k : Str} {sh : List Str} {a : Addr} {r : List (Str × List Str)} {kvs : List (Key × V)} : H a = some (.tup (sh.map V.str)) → RowsAt H r kvs → RowsAt H ((k, sh) :: r) ((Sum.inr k, .ref a) :: kvs)
theorem RowsAt.keys {H : Hp} {rs : List (Str × List Str)} {kvs : List (Key × V)} (h : RowsAt H rs kvs) : kvs.map (·.1) = (rs.map (·.1)).map Sum.inr := by
  induction h with
  | nil => rfl
  | cons _ _ ih => rw [List.map_cons, List.map_cons, List.map_cons, ih]
theorem RowsAt.length {H : Hp} {rs : List (Str × List Str)} {kvs : List (Key × V)} (h : RowsAt H rs kvs) : kvs.length = rs.length := by
  have q := congrArg List.length h.keys
  rw [List.length_map, List.length_map, List.length_map] at q
  exact q
theorem RowsAt.of {H H' : Hp} {rs : List (Str × List Str)} {kvs : List (Key × V)} (s : ∀ b xs, H b = some (.tup xs) → H' b = some (.tup xs)) (h : RowsAt H rs kvs) : RowsAt H' rs kvs := by
  induction h with
  | nil => exact .nil
  | cons e _ ih => exact .cons (s _ _ e) ih
theorem RowsAt.snoc {H : Hp} {rs : List (Str × List Str)} {kvs : List (Key × V)} {k : Str} {sh : List Str} {a : Addr} (h : RowsAt H rs kvs) (e : H a = some (.tup (sh.map V.str))) : RowsAt H (rs ++ [(k, sh)]) (kvs ++ [(Sum.inr k, .ref a)]) := by
  induction h with
  | nil => exact .cons e .nil
  | cons e' _ ih => exact .cons e' ih
structure TableAt (C : Addr) (H : Hp) (p : Addr) (ls : List Str) (rs : List (Str × List Str)) : Prop where
  ex : ∃ (dx lt sd kt : Addr) (kvs : List (Key × V)), H p = some (.ins C dx (pf3 (.ref lt) (.ref sd) (.ref kt))) ∧ H lt = some (.tup (ls.map V.str)) ∧ H sd = some (.dK kvs) ∧ H kt = some (.tup ((rs.map (·.1)).map V.str)) ∧ RowsAt H rs kvs
/-- one look as it is passed: the pair's place, the name, the lamps' place, the lamps -/
structure RowIn where
  t : Addr
  look : V
  s : Addr
  xs : List V
structure RowOk (K : PySem.W.Frag) (H : Hp) (r : RowIn) : Prop where
  pair : SqT K H r.t [r.look, .ref r.s]
  name : NmOk H r.look
  lst : SqL K H r.s r.xs
  all : ∀ v ∈ r.xs, NmOk H v
  len : r.xs.length ≤ 1000
theorem RowOk.of {K : PySem.W.Frag} {H H' : Hp} {r : RowIn} (s : Same H H') (h : RowOk K H r) : RowOk K H' r :=
  ⟨Same.tup s h.pair, h.name.of s, Same.seq s h.lst, fun v hv => (h.all v hv).of s, h.len⟩
/-- the rows as the checks in order give them -/
def initRows (ls : List Str) : List (V × List V) → List (Str × List Str) → Except Er (List (Str × List Str))
  | [], acc => .ok acc
  | (k, xs) :: r, acc => match chkNew k (acc.map (·.1)) with
    | some e => .error e
    | none => match chkShown xs ls [] with
      | some e => .error e
      | none => initRows ls r (acc ++ [(strOf k, chosen ls (xs.map strOf))])
def initT (lamps : List V) (rows : List (V × List V)) : Except Er (List Str × List (Str × List Str)) :=
  if 24 < lamps.length ∨ 24 < rows.length then .error .many else
  match chkNames lamps [] with
  | .error e => .error e
  | .ok ls => match initRows ls rows [] with
    | .error e => .error e
    | .ok rs => .ok (ls, rs)
def RowIn.dat (r : RowIn) : V × List V := (r.look, r.xs)
def spTabInit (K : PySem.W.Frag) (CT : Addr) (C : Cs) : Sp := fun vs H Q E => ∃ (H0 : Hp) (p dx a b : Addr) (lamps : List V) (rows : List RowIn), vs = [.ref p, .ref a, .ref b] ∧ Same H0 H ∧ H0 p = none ∧ H p = some (.ins CT dx []) ∧
  (SqL K H0 a lamps ∨ SqT K H0 a lamps) ∧ (∀ v ∈ lamps, NmOk H0 v) ∧ lamps.length ≤ 1000 ∧ SqL K H0 b (rows.map fun r => V.ref r.t) ∧ (∀ r ∈ rows, RowOk K H0 r) ∧ rows.length ≤ 1000 ∧
  (∀ ls rs, initT lamps (rows.map RowIn.dat) = .ok (ls, rs) → ∀ H', Same H0 H' → TableAt CT H' p ls rs → Q .non H') ∧ ∀ e, initT lamps (rows.map RowIn.dat) = .error e → Out C H0 E e
structure TxtT (K : PySem.W.Frag) (mg : Str → Option Value) (CT : Addr) : Prop where
  cl : Cls K CT
  nL : NoAttr K CT "lamps"
  nK : NoAttr K CT "looks"
  nS : NoAttr K CT "_shown"
  len : mg "len" = none
  tup : mg "tuple" = none
  lim : ∃ t, mg "LIMIT" = some (.int 24 t)
theorem shown_strs' : ∀ {xs : List V} {ls prev : List Str}, chkShown xs ls prev = none → xs = (xs.map strOf).map V.str
  | [], _, _, _ => rfl
  | v :: r, ls, prev, h => by
    unfold chkShown at h
    by_cases hk : knows v ls = true
    · obtain ⟨z, rfl, hz⟩ := knows_str hk
      rw [if_pos hk] at h
      by_cases hm : strOf (.str z) ∈ prev
      · rw [if_pos hm] at h; cases h
      · rw [if_neg hm] at h
        rw [List.map_cons, List.map_cons, ← shown_strs' h]
        rfl
    · rw [if_neg hk] at h; cases h
theorem shown_strs {xs : List V} {ls : List Str} (h : chkShown xs ls [] = none) : xs = (xs.map strOf).map V.str := shown_strs' h
theorem names_len : ∀ {xs : List V} {acc es : List Str}, chkNames xs acc = .ok es → es.length = acc.length + xs.length
  | [], acc, es, h => by cases h; simp
  | v :: r, acc, es, h => by
    unfold chkNames at h
    cases e : chkNew v acc with
    | some q => rw [e] at h; cases h
    | none =>
      rw [e] at h
      have q := names_len h
      rw [List.length_append] at q
      simp at q ⊢
      omega
section
variable {P : Program} {w : World} {K : PySem.W.Frag} {mg : Str → Option Value} {base : Heap} {C : Cs} {CT : Addr}
theorem scTabInit : FnScope ["self", "lamps", "looks", "look", "shown"] ["self", "lamps", "looks"] (defScope sTabInit) := ⟨rfl, rfl, rfl, by decide +kernel, rfl, by decide +kernel, by decide +kernel⟩
theorem ok_tabinit {f : Addr} {fd : FuncData} (F : Fun K "__init__" "Table.__init__" sTabInit f fd) (T : TxtT K mg CT) (xM : Ex P w K mg base "TooMany" "limit" C.many)
    (gD : Dfn P w K mg base (L2.CX P w) 6 "distinct_names" ["names"] (spDistinct K C)) (gN : Dfn P w K mg base (L2.CX P w) 4 "check_new" ["name", "earlier"] (spNewD K C))
    (gS : Dfn P w K mg base (L2.CX P w) 6 "_check_shown" ["shown", "lamps"] (spShown K C)) (gC : Dfn P w K mg base CX0 1 "_chosen_of" ["names", "chosen"] (spChosen K)) :
    FnOk P w K mg base (L2.CX P w) 8 f fd ["self", "lamps", "looks"] (spTabInit K CT C) := by
  obtain ⟨fI, dI, TI, bI, GI⟩ := xM
  obtain ⟨fD, dD, mD, kD, bD, GD⟩ := gD
  obtain ⟨fN, dN, mN, kN, bN, GN⟩ := gN
  obtain ⟨fS, dS, mS, kS, bS, GS⟩ := gS
  obtain ⟨fC, dC, mC, kC, bC, GC⟩ := gC
  obtain ⟨tl, hlim⟩ := T.lim
  refine F.okX scTabInit (fun vs H Q E h => ?_) (fun cdv A outer s H vs Q E hr h => ?_)
  · obtain ⟨H0, p, dx, a, b, lamps, rows, rfl, _⟩ := h
    rfl
  · obtain ⟨H0, p, dx, a, b, lamps, rows, rfl, s0, hp0, hp, ha, hla, hll, hb, hrw, hrl, k, kx⟩ := h
    have hr6 : Room 6 _ := hr.mono (by decide)
    have hr4 : Room 4 _ := hr.mono (by decide)
    have hr2 : Room 2 _ := hr.mono (by decide)
    have hr1 : Room 1 _ := hr.mono (by decide)
    refine ⟨_, pss_cons (ps_if (PW.pt (pw_or (pt_cmpR op_gt (pe_callB call_len_seq (by rfl) T.len PySem.boot_len (pa_cons (pv 1) pa_nil)) (pe_glob (v := .int 24) (by rfl) hlim ⟨_, rfl⟩) (nomark _))
          (pw_or1 (pt_cmpR op_gt (pe_callB call_len_seq (by rfl) T.len PySem.boot_len (pa_cons (pv 2) pa_nil)) (pe_glob (v := .int 24) (by rfl) hlim ⟨_, rfl⟩) (nomark _)))))
        (pss_one (ps_raise rfl (takes_of rfl rfl rfl rfl) (pmk_oex TI.oex TI.iC TI.tI GI hr2 bI .nil pass0 (by rfl) TI.gC (pa_cons (pe_glob (v := .int 24) (by rfl) hlim ⟨_, rfl⟩) pa_nil)))) pss_nil)
      (pss_cons (ps_fld (pv 0) (pe_call GD hr6 (by rfl) mD kD bD .nil (passes_call (takes_of rfl rfl rfl rfl) (fun _ _ _ _ h => h)) (pa_cons (pv 1) pa_nil)) rfl)
      (pss_cons (ps_fld (pv 0) pe_dnewK rfl)
      (pss_cons (ps_for (passes_of rfl) rfl (pi_list (pv 2)) (pg_tup rfl (pgs_cons (pg_name (i := 3) scTabInit.nd rfl (Or.inl rfl)) (pgs_cons (pg_name (i := 4) scTabInit.nd rfl (Or.inl rfl)) pgs_nil)))
        (pss_cons (ps_expr (pe_call GN hr4 (by rfl) mN kN bN .nil (passes_call (takes_of rfl rfl rfl rfl) (fun _ _ _ _ h => h)) (pa_cons (pv 3) (pa_cons (pe_fld (pv 0) rfl) pa_nil))))
        (pss_cons (ps_expr (pe_call GS hr6 (by rfl) mS kS bS .nil (passes_call (takes_of rfl rfl rfl rfl) (fun _ _ _ _ h => h)) (pa_cons (pv 4) (pa_cons (pe_fld (pv 0) rfl) pa_nil))))
        (pss_one (ps_dput (hu_of hr) (pe_fld (pv 0) rfl) (pv 3) (pe_call GC hr1 (by rfl) mC kC bC .nil pass0 (pa_cons (pe_fld (pv 0) rfl) (pa_cons (pv 4) pa_nil))) rfl)))))
      (pss_one (ps_fld (pv 0) (pe_callTy (call_tuple_dK rfl) (by rfl) T.tup (by decide +kernel) (pa_cons (pe_fld (pv 0) rfl) pa_nil)) rfl))))), ?_⟩
    have small : ∀ n : Nat, n ≤ 2 → n < 1000 := fun n h => by omega
    have hmany : 24 < lamps.length ∨ 24 < (rows.map RowIn.dat).length → Out C H E .many := fun h => Out.of s0 (kx .many (by unfold initT; rw [if_pos h]))
    refine ⟨_, rfl, a, _, rfl, Same.either s0 ha, _, _, rfl, rfl, _, rfl, ?_⟩
    refine ite2 (fun c1 => ?_) (fun c1 => ?_)
    · exact raise_end (hmany (.inl (by have q : (24 : Int) < (lamps.length : Nat) := of_decide_eq_true c1; omega)))
    have c1' : ¬ 24 < lamps.length := fun x => c1 (decide_eq_true (by show (24 : Int) < (lamps.length : Nat); omega))
    refine ⟨_, rfl, b, _, rfl, .inl (Same.seq s0 hb), _, _, rfl, rfl, _, rfl, ?_⟩
    refine ite2 (fun c2 => ?_) (fun c2 => ?_)
    · exact raise_end (hmany (.inr (by
        have q : (24 : Int) < ((rows.map fun r => V.ref r.t).length : Nat) := of_decide_eq_true c2
        rw [List.length_map] at q ⊢
        omega)))
    have c2' : ¬ 24 < (rows.map RowIn.dat).length := fun x => c2 (decide_eq_true (by
      show (24 : Int) < ((rows.map fun r => V.ref r.t).length : Nat)
      rw [List.length_map] at x ⊢
      omega))
    have hT : initT lamps (rows.map RowIn.dat) = match chkNames lamps [] with
        | .error e => .error e
        | .ok ls => match initRows ls (rows.map RowIn.dat) [] with
          | .error e => .error e
          | .ok rs => .ok (ls, rs) := by
      show (if _ then _ else _) = _
      rw [if_neg (by intro z; rcases z with z | z; exact c1' z; exact c2' z)]
    -- self.lamps = distinct_names(lamps)
    refine ⟨_, rfl, a, lamps, rfl, Same.either s0 ha, fun v hv => (hla v hv).of s0, hll, fun ls hls H1 lt s1 hlt e1 => ?_, fun e he => Out.of s0 (kx e (by rw [hT, he]))⟩
    rw [hls] at hT
    dsimp only at hT
    have s01 : Same H0 H1 := s0.trans s1
    refine ⟨_, rfl, p, CT, dx, [], rfl, s1 _ _ hp, T.cl, T.nL, by decide, ?_⟩
    have nltp : lt ≠ p := fun z => by rw [z, hp] at hlt; cases hlt
    have keep0 : ∀ {Hx : Hp} {o : HO}, Same H0 Hx → Same H0 (upd Hx p o) := fun {Hx o} s b u e => by
      rw [upd_ne (ne_of_none e hp0)]; exact s _ _ e
    -- self._shown = {}
    refine fun sd hsd => ⟨_, rfl, p, CT, dx, pf1 (.ref lt), rfl, (by rw [upd_ne (ne_of_none upd_same hsd), upd_same]; rfl), T.cl, T.nS, small _ (Nat.le_trans (pf1_len _) (by decide)), ?_⟩
    have hsd1 : H1 sd = none := by
      have nsd : sd ≠ p := fun z => by rw [z, upd_same] at hsd; cases hsd
      rw [upd_ne nsd] at hsd
      exact hsd
    have nsp : p ≠ sd := fun z => by
      have q := s1 _ _ hp
      rw [z, hsd1] at q
      cases q
    have nls : lt ≠ sd := ne_of_none e1 hsd1
    have hsd0 : H0 sd = none := s01.free hsd1
    refine ⟨_, rfl, b, rfl, ⟨rows.map fun r => V.ref r.t, ?_⟩, for_it (walk_list (K := K) (a := b) (xs := rows.map fun r => V.ref r.t)) (fun i σ H' => ∃ (x y : Option V) (kvs : List (Key × V)) (acc : List (Str × List Str)),
        σ = [some (.ref p), some (.ref a), some (.ref b), x, y] ∧ H' p = some (.ins CT dx (pf2 (.ref lt) (.ref sd))) ∧ H' lt = some (.tup (ls.map V.str)) ∧ H' sd = some (.dK kvs) ∧ RowsAt H' acc kvs ∧ Same H0 H' ∧
        initRows ls ((rows.map RowIn.dat).drop i) acc = initRows ls (rows.map RowIn.dat) [] ∧ acc.length ≤ i) ?_ ?_ ?_ ?_⟩
    · exact Same.seq (keep0 ((keep0 s01).trans (Same.upd_new hsd))) hb
    · refine ⟨none, none, [], [], rfl, upd_same, ?_, ?_, .nil, keep0 ((keep0 s01).trans (Same.upd_new hsd)), rfl, Nat.le_refl _⟩
      · rw [upd_ne nltp, upd_ne nls, upd_ne nltp]; exact e1
      · rw [upd_ne nsp.symm, upd_same]
    · rintro i σ H' _ ⟨_, _, _, _, _, _, _, _, _, s', _⟩
      exact Same.seq s' hb
    · rintro i v σ H2 H3 hi ⟨x, y, kvs, acc, rfl, h2p, h2l, h2s, hrs, s2, hc, hal⟩ ⟨rfl, hv⟩
      have hv2 : (rows.map fun r => V.ref r.t)[i]? = some v := hv
      rw [List.length_map] at hi
      obtain ⟨r, hr, rfl⟩ : ∃ r, rows[i]? = some r ∧ v = V.ref r.t := by
        rw [List.getElem?_map] at hv2
        cases e : rows[i]? with
        | none => rw [e] at hv2; cases hv2
        | some r => rw [e] at hv2; exact ⟨r, rfl, (Option.some.inj hv2).symm⟩
      have hd : (rows.map RowIn.dat).drop i = (r.look, r.xs) :: (rows.map RowIn.dat).drop (i + 1) := by
        rw [List.drop_eq_getElem_cons (by rw [List.length_map]; exact hi)]
        rw [List.getElem_map, (List.getElem?_eq_some_iff.mp hr).2]
        rfl
      rw [hd] at hc
      have R := hrw r (List.mem_of_getElem? hr)
      have R2 := R.of s2
      refine ⟨r.t, _, rfl, R2.pair, rfl, _, _, rfl, _, _, rfl, rfl, ?_⟩
      -- check_new(look, self._shown)
      refine ⟨_, rfl, _, rfl, p, CT, dx, _, _, rfl, h2p, T.cl, T.nS, pf2_shown _ _, r.look, sd, kvs, acc.map (·.1), rfl, R2.name, h2s, hrs.keys, fun H4 s4 hn => ?_, fun e he => ?_⟩
      · obtain ⟨z, ez, hz, hza⟩ := chkNew_none hn
        -- _check_shown(shown, self.lamps)
        refine ⟨_, rfl, _, rfl, p, CT, dx, _, _, rfl, s4 _ _ h2p, T.cl, T.nL, pf2_lamps _ _, r.s, lt, r.xs, ls, rfl, Same.seq s4 R2.lst, (R2.of s4).all, R.len, SqT.of (s4 _ _ h2l), fun H5 hsn s5 => ?_, fun e he => ?_⟩
        · -- self._shown[look] = _chosen_of(self.lamps, shown)
          have s45 : Same H3 H5 := s4.trans s5
          have hxs : r.xs = (r.xs.map strOf).map V.str := shown_strs hsn
          refine ⟨_, rfl, p, CT, dx, _, _, rfl, s45 _ _ h2p, T.cl, T.nL, pf2_lamps _ _, _, rfl, lt, r.s, ls, r.xs.map strOf, rfl, SqT.of (s45 _ _ h2l), .inl (by rw [← hxs]; exact Same.seq s45 R2.lst), ?_, fun H6 t s6 ht et => ?_⟩
          · have q := names_len hls
            simp at q
            omega
          · have s26 : Same H3 H6 := s45.trans s6
            refine ⟨_, rfl, p, CT, dx, _, _, rfl, s26 _ _ h2p, T.cl, T.nS, pf2_shown _ _, _, rfl, sd, _, rfl, (by rw [ez]; exact DPut.k (k := Sum.inr z) (s26 _ _ h2s) (by rw [hrs.length]; exact small1000 (by omega))), ?_⟩
            have hval : valV kvs (Sum.inr z) = none := by
              have q := isSome_valV (es := acc.map (·.1)) hrs.keys (z := z)
              rw [decide_eq_false hza] at q
              cases e : valV kvs (Sum.inr z) with
              | none => rfl
              | some u => rw [e] at q; cases q
            rw [putK_new _ hval]
            have tups : ∀ b xs, H6 b = some (.tup xs) → upd H6 sd (.dK (kvs ++ [(Sum.inr z, .ref t)])) b = some (.tup xs) := fun b xs e => by
              have nb : b ≠ sd := fun q => by rw [q, s26 _ _ h2s] at e; cases e
              rw [upd_ne nb]; exact e
            refine ⟨_, _, kvs ++ [(Sum.inr z, .ref t)], acc ++ [(z, chosen ls (r.xs.map strOf))], rfl, ?_, tups _ _ (s26 _ _ h2l), upd_same, ?_, fun b o e => ?_, ?_, ?_⟩
            · have np : p ≠ sd := nsp
              rw [upd_ne np]; exact s26 _ _ h2p
            · exact (hrs.of fun b xs e => tups b xs (s26 _ _ e)).snoc (tups _ _ et)
            · rw [upd_ne (ne_of_none e hsd0)]
              exact s26 _ _ (s2 _ _ e)
            · rw [← hc, initRows, hn, hsn, ez]
              rfl
            · rw [List.length_append]
              simp
              omega
        · have hce : initRows ls (rows.map RowIn.dat) [] = .error e := by rw [← hc, initRows, hn, he]
          exact Out.of (s2.trans s4) (kx e (by rw [hT, hce]))
      · have hce : initRows ls (rows.map RowIn.dat) [] = .error e := by rw [← hc, initRows, he]
        exact Out.of s2 (kx e (by rw [hT, hce]))
    · rintro σ H2 ⟨x, y, kvs, acc, rfl, h2p, h2l, h2s, hrs, s2, hc, hal⟩
      have hc' : initRows ls (rows.map RowIn.dat) [] = .ok acc := by
        rw [← hc, List.drop_eq_nil_of_le (by simp)]
        rfl
      -- self.looks = tuple(self._shown)
      refine ⟨_, rfl, p, CT, dx, _, _, rfl, h2p, T.cl, T.nS, pf2_shown _ _, sd, kvs, rfl, h2s, fun kt hkt => ?_⟩
      have ntp : p ≠ kt := ne_of_none h2p hkt
      refine ⟨_, rfl, p, CT, dx, _, rfl, (by rw [upd_ne ntp]; exact h2p), T.cl, T.nK, small _ (pf2_len _ _), ?_⟩
      refine k ls acc (by rw [hT, hc']) _ (keep0 (s2.trans (Same.upd_new hkt))) ⟨dx, lt, sd, kt, kvs, upd_same, ?_, ?_, ?_, ?_⟩
      · rw [upd_ne nltp, upd_ne (ne_of_none h2l hkt)]; exact h2l
      · rw [upd_ne nsp.symm, upd_ne (ne_of_none h2s hkt)]; exact h2s
      · have q : (kvs.map fun kv => kV kv.1) = (kvs.map (·.1)).map kV := by rw [List.map_map]; rfl
        rw [upd_ne ntp.symm, upd_same, q, hrs.keys, List.map_map]
        rfl
      · refine hrs.of fun b xs e => ?_
        have nb : b ≠ p := fun q => by rw [q, h2p] at e; cases e
        rw [upd_ne nb, upd_ne (ne_of_none e hkt)]; exact e
end
end Dl

namespace Dl
open PySem L2
/-- one look as it is passed, the lamps as a list or as a tuple -/
structure RowE (K : PySem.W.Frag) (H : Hp) (r : RowIn) : Prop where
  pair : SqT K H r.t [r.look, .ref r.s]
  name : NmOk H r.look
  seq : SqL K H r.s r.xs ∨ SqT K H r.s r.xs
  all : ∀ v ∈ r.xs, NmOk H v
  len : r.xs.length ≤ 1000
theorem RowE.of {K : PySem.W.Frag} {H H' : Hp} {r : RowIn} (s : Same H H') (h : RowE K H r) : RowE K H' r :=
  ⟨Same.tup s h.pair, h.name.of s, Same.either s h.seq, fun v hv => (h.all v hv).of s, h.len⟩
theorem RowOk.e {K : PySem.W.Frag} {H : Hp} {r : RowIn} (h : RowOk K H r) : RowE K H r := ⟨h.pair, h.name, .inl h.lst, h.all, h.len⟩
def spTabInit2 (K : PySem.W.Frag) (CT : Addr) (C : Cs) : Sp := fun vs H Q E => ∃ (H0 : Hp) (p dx a b : Addr) (lamps : List V) (rows : List RowIn), vs = [.ref p, .ref a, .ref b] ∧ Same H0 H ∧ H0 p = none ∧ H p = some (.ins CT dx []) ∧
  (SqL K H0 a lamps ∨ SqT K H0 a lamps) ∧ (∀ v ∈ lamps, NmOk H0 v) ∧ lamps.length ≤ 1000 ∧ (SqL K H0 b (rows.map fun r => V.ref r.t) ∨ SqT K H0 b (rows.map fun r => V.ref r.t)) ∧ (∀ r ∈ rows, RowE K H0 r) ∧ rows.length ≤ 1000 ∧
  (∀ ls rs, initT lamps (rows.map RowIn.dat) = .ok (ls, rs) → ∀ H', Same H0 H' → TableAt CT H' p ls rs → Q .non H') ∧ ∀ e, initT lamps (rows.map RowIn.dat) = .error e → Out C H0 E e
section
variable {P : Program} {w : World} {K : PySem.W.Frag} {mg : Str → Option Value} {base : Heap} {C : Cs} {CT : Addr}
theorem ok_tabinit2 {f : Addr} {fd : FuncData} (F : Fun K "__init__" "Table.__init__" sTabInit f fd) (T : TxtT K mg CT) (xM : Ex P w K mg base "TooMany" "limit" C.many)
    (gD : Dfn P w K mg base (L2.CX P w) 6 "distinct_names" ["names"] (spDistinct K C)) (gN : Dfn P w K mg base (L2.CX P w) 4 "check_new" ["name", "earlier"] (spNewD K C))
    (gS : Dfn P w K mg base (L2.CX P w) 6 "_check_shown" ["shown", "lamps"] (spShown2 K C)) (gC : Dfn P w K mg base CX0 1 "_chosen_of" ["names", "chosen"] (spChosen K)) :
    FnOk P w K mg base (L2.CX P w) 8 f fd ["self", "lamps", "looks"] (spTabInit2 K CT C) := by
  obtain ⟨fI, dI, TI, bI, GI⟩ := xM
  obtain ⟨fD, dD, mD, kD, bD, GD⟩ := gD
  obtain ⟨fN, dN, mN, kN, bN, GN⟩ := gN
  obtain ⟨fS, dS, mS, kS, bS, GS⟩ := gS
  obtain ⟨fC, dC, mC, kC, bC, GC⟩ := gC
  obtain ⟨tl, hlim⟩ := T.lim
  refine F.okX scTabInit (fun vs H Q E h => ?_) (fun cdv A outer s H vs Q E hr h => ?_)
  · obtain ⟨H0, p, dx, a, b, lamps, rows, rfl, _⟩ := h
    rfl
  · obtain ⟨H0, p, dx, a, b, lamps, rows, rfl, s0, hp0, hp, ha, hla, hll, hb, hrw, hrl, k, kx⟩ := h
    have hr6 : Room 6 _ := hr.mono (by decide)
    have hr4 : Room 4 _ := hr.mono (by decide)
    have hr2 : Room 2 _ := hr.mono (by decide)
    have hr1 : Room 1 _ := hr.mono (by decide)
    rcases hb with hb | hb
    · refine ⟨_, pss_cons (ps_if (PW.pt (pw_or (pt_cmpR op_gt (pe_callB call_len_seq (by rfl) T.len PySem.boot_len (pa_cons (pv 1) pa_nil)) (pe_glob (v := .int 24) (by rfl) hlim ⟨_, rfl⟩) (nomark _))
            (pw_or1 (pt_cmpR op_gt (pe_callB call_len_seq (by rfl) T.len PySem.boot_len (pa_cons (pv 2) pa_nil)) (pe_glob (v := .int 24) (by rfl) hlim ⟨_, rfl⟩) (nomark _)))))
          (pss_one (ps_raise rfl (takes_of rfl rfl rfl rfl) (pmk_oex TI.oex TI.iC TI.tI GI hr2 bI .nil pass0 (by rfl) TI.gC (pa_cons (pe_glob (v := .int 24) (by rfl) hlim ⟨_, rfl⟩) pa_nil)))) pss_nil)
        (pss_cons (ps_fld (pv 0) (pe_call GD hr6 (by rfl) mD kD bD .nil (passes_call (takes_of rfl rfl rfl rfl) (fun _ _ _ _ h => h)) (pa_cons (pv 1) pa_nil)) rfl)
        (pss_cons (ps_fld (pv 0) pe_dnewK rfl)
        (pss_cons (ps_for (passes_of rfl) rfl (pi_list (pv 2)) (pg_tup rfl (pgs_cons (pg_name (i := 3) scTabInit.nd rfl (Or.inl rfl)) (pgs_cons (pg_name (i := 4) scTabInit.nd rfl (Or.inl rfl)) pgs_nil)))
          (pss_cons (ps_expr (pe_call GN hr4 (by rfl) mN kN bN .nil (passes_call (takes_of rfl rfl rfl rfl) (fun _ _ _ _ h => h)) (pa_cons (pv 3) (pa_cons (pe_fld (pv 0) rfl) pa_nil))))
          (pss_cons (ps_expr (pe_call GS hr6 (by rfl) mS kS bS .nil (passes_call (takes_of rfl rfl rfl rfl) (fun _ _ _ _ h => h)) (pa_cons (pv 4) (pa_cons (pe_fld (pv 0) rfl) pa_nil))))
          (pss_one (ps_dput (hu_of hr) (pe_fld (pv 0) rfl) (pv 3) (pe_call GC hr1 (by rfl) mC kC bC .nil pass0 (pa_cons (pe_fld (pv 0) rfl) (pa_cons (pv 4) pa_nil))) rfl)))))
        (pss_one (ps_fld (pv 0) (pe_callTy (call_tuple_dK rfl) (by rfl) T.tup (by decide +kernel) (pa_cons (pe_fld (pv 0) rfl) pa_nil)) rfl))))), ?_⟩
      have small : ∀ n : Nat, n ≤ 2 → n < 1000 := fun n h => by omega
      have hmany : 24 < lamps.length ∨ 24 < (rows.map RowIn.dat).length → Out C H E .many := fun h => Out.of s0 (kx .many (by unfold initT; rw [if_pos h]))
      refine ⟨_, rfl, a, _, rfl, Same.either s0 ha, _, _, rfl, rfl, _, rfl, ?_⟩
      refine ite2 (fun c1 => ?_) (fun c1 => ?_)
      · exact raise_end (hmany (.inl (by have q : (24 : Int) < (lamps.length : Nat) := of_decide_eq_true c1; omega)))
      have c1' : ¬ 24 < lamps.length := fun x => c1 (decide_eq_true (by show (24 : Int) < (lamps.length : Nat); omega))
      refine ⟨_, rfl, b, _, rfl, .inl (Same.seq s0 hb), _, _, rfl, rfl, _, rfl, ?_⟩
      refine ite2 (fun c2 => ?_) (fun c2 => ?_)
      · exact raise_end (hmany (.inr (by
          have q : (24 : Int) < ((rows.map fun r => V.ref r.t).length : Nat) := of_decide_eq_true c2
          rw [List.length_map] at q ⊢
          omega)))
      have c2' : ¬ 24 < (rows.map RowIn.dat).length := fun x => c2 (decide_eq_true (by
        show (24 : Int) < ((rows.map fun r => V.ref r.t).length : Nat)
        rw [List.length_map] at x ⊢
        omega))
      have hT : initT lamps (rows.map RowIn.dat) = match chkNames lamps [] with
          | .error e => .error e
          | .ok ls => match initRows ls (rows.map RowIn.dat) [] with
            | .error e => .error e
            | .ok rs => .ok (ls, rs) := by
        show (if _ then _ else _) = _
        rw [if_neg (by intro z; rcases z with z | z; exact c1' z; exact c2' z)]
        try rfl
      -- self.lamps = distinct_names(lamps)
      refine ⟨_, rfl, a, lamps, rfl, Same.either s0 ha, fun v hv => (hla v hv).of s0, hll, fun ls hls H1 lt s1 hlt e1 => ?_, fun e he => Out.of s0 (kx e (by rw [hT, he]))⟩
      rw [hls] at hT
      dsimp only at hT
      have s01 : Same H0 H1 := s0.trans s1
      refine ⟨_, rfl, p, CT, dx, [], rfl, s1 _ _ hp, T.cl, T.nL, by decide, ?_⟩
      have nltp : lt ≠ p := fun z => by rw [z, hp] at hlt; cases hlt
      have keep0 : ∀ {Hx : Hp} {o : HO}, Same H0 Hx → Same H0 (upd Hx p o) := fun {Hx o} s b u e => by
        rw [upd_ne (ne_of_none e hp0)]; exact s _ _ e
      -- self._shown = {}
      refine fun sd hsd => ⟨_, rfl, p, CT, dx, pf1 (.ref lt), rfl, (by rw [upd_ne (ne_of_none upd_same hsd), upd_same]; rfl), T.cl, T.nS, small _ (Nat.le_trans (pf1_len _) (by decide)), ?_⟩
      have hsd1 : H1 sd = none := by
        have nsd : sd ≠ p := fun z => by rw [z, upd_same] at hsd; cases hsd
        rw [upd_ne nsd] at hsd
        exact hsd
      have nsp : p ≠ sd := fun z => by
        have q := s1 _ _ hp
        rw [z, hsd1] at q
        cases q
      have nls : lt ≠ sd := ne_of_none e1 hsd1
      have hsd0 : H0 sd = none := s01.free hsd1
      refine ⟨_, rfl, b, rfl, ⟨rows.map fun r => V.ref r.t, ?_⟩, for_it (walk_list (K := K) (a := b) (xs := rows.map fun r => V.ref r.t)) (fun i σ H' => ∃ (x y : Option V) (kvs : List (Key × V)) (acc : List (Str × List Str)),
          σ = [some (.ref p), some (.ref a), some (.ref b), x, y] ∧ H' p = some (.ins CT dx (pf2 (.ref lt) (.ref sd))) ∧ H' lt = some (.tup (ls.map V.str)) ∧ H' sd = some (.dK kvs) ∧ RowsAt H' acc kvs ∧ Same H0 H' ∧
          initRows ls ((rows.map RowIn.dat).drop i) acc = initRows ls (rows.map RowIn.dat) [] ∧ acc.length ≤ i) ?_ ?_ ?_ ?_⟩
      · exact Same.seq (keep0 ((keep0 s01).trans (Same.upd_new hsd))) hb
      · refine ⟨none, none, [], [], rfl, upd_same, ?_, ?_, .nil, keep0 ((keep0 s01).trans (Same.upd_new hsd)), rfl, Nat.le_refl _⟩
        · rw [upd_ne nltp, upd_ne nls, upd_ne nltp]; exact e1
        · rw [upd_ne nsp.symm, upd_same]
      · rintro i σ H' _ ⟨_, _, _, _, _, _, _, _, _, s', _⟩
        exact Same.seq s' hb
      · rintro i v σ H2 H3 hi ⟨x, y, kvs, acc, rfl, h2p, h2l, h2s, hrs, s2, hc, hal⟩ ⟨rfl, hv⟩
        have hv2 : (rows.map fun r => V.ref r.t)[i]? = some v := hv
        rw [List.length_map] at hi
        obtain ⟨r, hr, rfl⟩ : ∃ r, rows[i]? = some r ∧ v = V.ref r.t := by
          rw [List.getElem?_map] at hv2
          cases e : rows[i]? with
          | none => rw [e] at hv2; cases hv2
          | some r => rw [e] at hv2; exact ⟨r, rfl, (Option.some.inj hv2).symm⟩
        have hd : (rows.map RowIn.dat).drop i = (r.look, r.xs) :: (rows.map RowIn.dat).drop (i + 1) := by
          rw [List.drop_eq_getElem_cons (by rw [List.length_map]; exact hi)]
          rw [List.getElem_map, (List.getElem?_eq_some_iff.mp hr).2]
          rfl
        rw [hd] at hc
        have R := hrw r (List.mem_of_getElem? hr)
        have R2 := R.of s2
        refine ⟨r.t, _, rfl, R2.pair, rfl, _, _, rfl, _, _, rfl, rfl, ?_⟩
        -- check_new(look, self._shown)
        refine ⟨_, rfl, _, rfl, p, CT, dx, _, _, rfl, h2p, T.cl, T.nS, pf2_shown _ _, r.look, sd, kvs, acc.map (·.1), rfl, R2.name, h2s, hrs.keys, fun H4 s4 hn => ?_, fun e he => ?_⟩
        · obtain ⟨z, ez, hz, hza⟩ := chkNew_none hn
          -- _check_shown(shown, self.lamps)
          refine ⟨_, rfl, _, rfl, p, CT, dx, _, _, rfl, s4 _ _ h2p, T.cl, T.nL, pf2_lamps _ _, r.s, lt, r.xs, ls, rfl, Same.either s4 R2.seq, (R2.of s4).all, R.len, SqT.of (s4 _ _ h2l), fun H5 hsn s5 => ?_, fun e he => ?_⟩
          · -- self._shown[look] = _chosen_of(self.lamps, shown)
            have s45 : Same H3 H5 := s4.trans s5
            have hxs : r.xs = (r.xs.map strOf).map V.str := shown_strs hsn
            refine ⟨_, rfl, p, CT, dx, _, _, rfl, s45 _ _ h2p, T.cl, T.nL, pf2_lamps _ _, _, rfl, lt, r.s, ls, r.xs.map strOf, rfl, SqT.of (s45 _ _ h2l), (by rw [← hxs]; exact Same.either s45 R2.seq), ?_, fun H6 t s6 ht et => ?_⟩
            · have q := names_len hls
              simp at q
              omega
            · have s26 : Same H3 H6 := s45.trans s6
              refine ⟨_, rfl, p, CT, dx, _, _, rfl, s26 _ _ h2p, T.cl, T.nS, pf2_shown _ _, _, rfl, sd, _, rfl, (by rw [ez]; exact DPut.k (k := Sum.inr z) (s26 _ _ h2s) (by rw [hrs.length]; exact small1000 (by omega))), ?_⟩
              have hval : valV kvs (Sum.inr z) = none := by
                have q := isSome_valV (es := acc.map (·.1)) hrs.keys (z := z)
                rw [decide_eq_false hza] at q
                cases e : valV kvs (Sum.inr z) with
                | none => rfl
                | some u => rw [e] at q; cases q
              rw [putK_new _ hval]
              have tups : ∀ b xs, H6 b = some (.tup xs) → upd H6 sd (.dK (kvs ++ [(Sum.inr z, .ref t)])) b = some (.tup xs) := fun b xs e => by
                have nb : b ≠ sd := fun q => by rw [q, s26 _ _ h2s] at e; cases e
                rw [upd_ne nb]; exact e
              refine ⟨_, _, kvs ++ [(Sum.inr z, .ref t)], acc ++ [(z, chosen ls (r.xs.map strOf))], rfl, ?_, tups _ _ (s26 _ _ h2l), upd_same, ?_, fun b o e => ?_, ?_, ?_⟩
              · have np : p ≠ sd := nsp
                rw [upd_ne np]; exact s26 _ _ h2p
              · exact (hrs.of fun b xs e => tups b xs (s26 _ _ e)).snoc (tups _ _ et)
              · rw [upd_ne (ne_of_none e hsd0)]
                exact s26 _ _ (s2 _ _ e)
              · rw [← hc, initRows, hn, hsn, ez]
                rfl
              · rw [List.length_append]
                simp
                omega
          · have hce : initRows ls (rows.map RowIn.dat) [] = .error e := by rw [← hc, initRows, hn, he]
            exact Out.of (s2.trans s4) (kx e (by rw [hT, hce]))
        · have hce : initRows ls (rows.map RowIn.dat) [] = .error e := by rw [← hc, initRows, he]
          exact Out.of s2 (kx e (by rw [hT, hce]))
      · rintro σ H2 ⟨x, y, kvs, acc, rfl, h2p, h2l, h2s, hrs, s2, hc, hal⟩
        have hc' : initRows ls (rows.map RowIn.dat) [] = .ok acc := by
          rw [← hc, List.drop_eq_nil_of_le (by simp)]
          rfl
        -- self.looks = tuple(self._shown)
        refine ⟨_, rfl, p, CT, dx, _, _, rfl, h2p, T.cl, T.nS, pf2_shown _ _, sd, kvs, rfl, h2s, fun kt hkt => ?_⟩
        have ntp : p ≠ kt := ne_of_none h2p hkt
        refine ⟨_, rfl, p, CT, dx, _, rfl, (by rw [upd_ne ntp]; exact h2p), T.cl, T.nK, small _ (pf2_len _ _), ?_⟩
        refine k ls acc (by rw [hT, hc']) _ (keep0 (s2.trans (Same.upd_new hkt))) ⟨dx, lt, sd, kt, kvs, upd_same, ?_, ?_, ?_, ?_⟩
        · rw [upd_ne nltp, upd_ne (ne_of_none h2l hkt)]; exact h2l
        · rw [upd_ne nsp.symm, upd_ne (ne_of_none h2s hkt)]; exact h2s
        · have q : (kvs.map fun kv => kV kv.1) = (kvs.map (·.1)).map kV := by rw [List.map_map]; rfl
          rw [upd_ne ntp.symm, upd_same, q, hrs.keys, List.map_map]
          rfl
        · refine hrs.of fun b xs e => ?_
          have nb : b ≠ p := fun q => by rw [q, h2p] at e; cases e
          rw [upd_ne nb, upd_ne (ne_of_none e hkt)]; exact e
    · refine ⟨_, pss_cons (ps_if (PW.pt (pw_or (pt_cmpR op_gt (pe_callB call_len_seq (by rfl) T.len PySem.boot_len (pa_cons (pv 1) pa_nil)) (pe_glob (v := .int 24) (by rfl) hlim ⟨_, rfl⟩) (nomark _))
            (pw_or1 (pt_cmpR op_gt (pe_callB call_len_seq (by rfl) T.len PySem.boot_len (pa_cons (pv 2) pa_nil)) (pe_glob (v := .int 24) (by rfl) hlim ⟨_, rfl⟩) (nomark _)))))
          (pss_one (ps_raise rfl (takes_of rfl rfl rfl rfl) (pmk_oex TI.oex TI.iC TI.tI GI hr2 bI .nil pass0 (by rfl) TI.gC (pa_cons (pe_glob (v := .int 24) (by rfl) hlim ⟨_, rfl⟩) pa_nil)))) pss_nil)
        (pss_cons (ps_fld (pv 0) (pe_call GD hr6 (by rfl) mD kD bD .nil (passes_call (takes_of rfl rfl rfl rfl) (fun _ _ _ _ h => h)) (pa_cons (pv 1) pa_nil)) rfl)
        (pss_cons (ps_fld (pv 0) pe_dnewK rfl)
        (pss_cons (ps_for (passes_of rfl) rfl (pi_tup (pv 2)) (pg_tup rfl (pgs_cons (pg_name (i := 3) scTabInit.nd rfl (Or.inl rfl)) (pgs_cons (pg_name (i := 4) scTabInit.nd rfl (Or.inl rfl)) pgs_nil)))
          (pss_cons (ps_expr (pe_call GN hr4 (by rfl) mN kN bN .nil (passes_call (takes_of rfl rfl rfl rfl) (fun _ _ _ _ h => h)) (pa_cons (pv 3) (pa_cons (pe_fld (pv 0) rfl) pa_nil))))
          (pss_cons (ps_expr (pe_call GS hr6 (by rfl) mS kS bS .nil (passes_call (takes_of rfl rfl rfl rfl) (fun _ _ _ _ h => h)) (pa_cons (pv 4) (pa_cons (pe_fld (pv 0) rfl) pa_nil))))
          (pss_one (ps_dput (hu_of hr) (pe_fld (pv 0) rfl) (pv 3) (pe_call GC hr1 (by rfl) mC kC bC .nil pass0 (pa_cons (pe_fld (pv 0) rfl) (pa_cons (pv 4) pa_nil))) rfl)))))
        (pss_one (ps_fld (pv 0) (pe_callTy (call_tuple_dK rfl) (by rfl) T.tup (by decide +kernel) (pa_cons (pe_fld (pv 0) rfl) pa_nil)) rfl))))), ?_⟩
      have small : ∀ n : Nat, n ≤ 2 → n < 1000 := fun n h => by omega
      have hmany : 24 < lamps.length ∨ 24 < (rows.map RowIn.dat).length → Out C H E .many := fun h => Out.of s0 (kx .many (by unfold initT; rw [if_pos h]))
      refine ⟨_, rfl, a, _, rfl, Same.either s0 ha, _, _, rfl, rfl, _, rfl, ?_⟩
      refine ite2 (fun c1 => ?_) (fun c1 => ?_)
      · exact raise_end (hmany (.inl (by have q : (24 : Int) < (lamps.length : Nat) := of_decide_eq_true c1; omega)))
      have c1' : ¬ 24 < lamps.length := fun x => c1 (decide_eq_true (by show (24 : Int) < (lamps.length : Nat); omega))
      refine ⟨_, rfl, b, _, rfl, .inr (Same.tup s0 hb), _, _, rfl, rfl, _, rfl, ?_⟩
      refine ite2 (fun c2 => ?_) (fun c2 => ?_)
      · exact raise_end (hmany (.inr (by
          have q : (24 : Int) < ((rows.map fun r => V.ref r.t).length : Nat) := of_decide_eq_true c2
          rw [List.length_map] at q ⊢
          omega)))
      have c2' : ¬ 24 < (rows.map RowIn.dat).length := fun x => c2 (decide_eq_true (by
        show (24 : Int) < ((rows.map fun r => V.ref r.t).length : Nat)
        rw [List.length_map] at x ⊢
        omega))
      have hT : initT lamps (rows.map RowIn.dat) = match chkNames lamps [] with
          | .error e => .error e
          | .ok ls => match initRows ls (rows.map RowIn.dat) [] with
            | .error e => .error e
            | .ok rs => .ok (ls, rs) := by
        show (if _ then _ else _) = _
        rw [if_neg (by intro z; rcases z with z | z; exact c1' z; exact c2' z)]
        try rfl
      -- self.lamps = distinct_names(lamps)
      refine ⟨_, rfl, a, lamps, rfl, Same.either s0 ha, fun v hv => (hla v hv).of s0, hll, fun ls hls H1 lt s1 hlt e1 => ?_, fun e he => Out.of s0 (kx e (by rw [hT, he]))⟩
      rw [hls] at hT
      dsimp only at hT
      have s01 : Same H0 H1 := s0.trans s1
      refine ⟨_, rfl, p, CT, dx, [], rfl, s1 _ _ hp, T.cl, T.nL, by decide, ?_⟩
      have nltp : lt ≠ p := fun z => by rw [z, hp] at hlt; cases hlt
      have keep0 : ∀ {Hx : Hp} {o : HO}, Same H0 Hx → Same H0 (upd Hx p o) := fun {Hx o} s b u e => by
        rw [upd_ne (ne_of_none e hp0)]; exact s _ _ e
      -- self._shown = {}
      refine fun sd hsd => ⟨_, rfl, p, CT, dx, pf1 (.ref lt), rfl, (by rw [upd_ne (ne_of_none upd_same hsd), upd_same]; rfl), T.cl, T.nS, small _ (Nat.le_trans (pf1_len _) (by decide)), ?_⟩
      have hsd1 : H1 sd = none := by
        have nsd : sd ≠ p := fun z => by rw [z, upd_same] at hsd; cases hsd
        rw [upd_ne nsd] at hsd
        exact hsd
      have nsp : p ≠ sd := fun z => by
        have q := s1 _ _ hp
        rw [z, hsd1] at q
        cases q
      have nls : lt ≠ sd := ne_of_none e1 hsd1
      have hsd0 : H0 sd = none := s01.free hsd1
      refine ⟨_, rfl, b, rfl, ⟨rows.map fun r => V.ref r.t, ?_⟩, for_it (walk_tup (K := K) (a := b) (xs := rows.map fun r => V.ref r.t)) (fun i σ H' => ∃ (x y : Option V) (kvs : List (Key × V)) (acc : List (Str × List Str)),
          σ = [some (.ref p), some (.ref a), some (.ref b), x, y] ∧ H' p = some (.ins CT dx (pf2 (.ref lt) (.ref sd))) ∧ H' lt = some (.tup (ls.map V.str)) ∧ H' sd = some (.dK kvs) ∧ RowsAt H' acc kvs ∧ Same H0 H' ∧
          initRows ls ((rows.map RowIn.dat).drop i) acc = initRows ls (rows.map RowIn.dat) [] ∧ acc.length ≤ i) ?_ ?_ ?_ ?_⟩
      · exact Same.tup (keep0 ((keep0 s01).trans (Same.upd_new hsd))) hb
      · refine ⟨none, none, [], [], rfl, upd_same, ?_, ?_, .nil, keep0 ((keep0 s01).trans (Same.upd_new hsd)), rfl, Nat.le_refl _⟩
        · rw [upd_ne nltp, upd_ne nls, upd_ne nltp]; exact e1
        · rw [upd_ne nsp.symm, upd_same]
      · rintro i σ H' _ ⟨_, _, _, _, _, _, _, _, _, s', _⟩
        exact Same.tup s' hb
      · rintro i v σ H2 H3 hi ⟨x, y, kvs, acc, rfl, h2p, h2l, h2s, hrs, s2, hc, hal⟩ ⟨rfl, hv⟩
        have hv2 : (rows.map fun r => V.ref r.t)[i]? = some v := hv
        rw [List.length_map] at hi
        obtain ⟨r, hr, rfl⟩ : ∃ r, rows[i]? = some r ∧ v = V.ref r.t := by
          rw [List.getElem?_map] at hv2
          cases e : rows[i]? with
          | none => rw [e] at hv2; cases hv2
          | some r => rw [e] at hv2; exact ⟨r, rfl, (Option.some.inj hv2).symm⟩
        have hd : (rows.map RowIn.dat).drop i = (r.look, r.xs) :: (rows.map RowIn.dat).drop (i + 1) := by
          rw [List.drop_eq_getElem_cons (by rw [List.length_map]; exact hi)]
          rw [List.getElem_map, (List.getElem?_eq_some_iff.mp hr).2]
          rfl
        rw [hd] at hc
        have R := hrw r (List.mem_of_getElem? hr)
        have R2 := R.of s2
        refine ⟨r.t, _, rfl, R2.pair, rfl, _, _, rfl, _, _, rfl, rfl, ?_⟩
        -- check_new(look, self._shown)
        refine ⟨_, rfl, _, rfl, p, CT, dx, _, _, rfl, h2p, T.cl, T.nS, pf2_shown _ _, r.look, sd, kvs, acc.map (·.1), rfl, R2.name, h2s, hrs.keys, fun H4 s4 hn => ?_, fun e he => ?_⟩
        · obtain ⟨z, ez, hz, hza⟩ := chkNew_none hn
          -- _check_shown(shown, self.lamps)
          refine ⟨_, rfl, _, rfl, p, CT, dx, _, _, rfl, s4 _ _ h2p, T.cl, T.nL, pf2_lamps _ _, r.s, lt, r.xs, ls, rfl, Same.either s4 R2.seq, (R2.of s4).all, R.len, SqT.of (s4 _ _ h2l), fun H5 hsn s5 => ?_, fun e he => ?_⟩
          · -- self._shown[look] = _chosen_of(self.lamps, shown)
            have s45 : Same H3 H5 := s4.trans s5
            have hxs : r.xs = (r.xs.map strOf).map V.str := shown_strs hsn
            refine ⟨_, rfl, p, CT, dx, _, _, rfl, s45 _ _ h2p, T.cl, T.nL, pf2_lamps _ _, _, rfl, lt, r.s, ls, r.xs.map strOf, rfl, SqT.of (s45 _ _ h2l), (by rw [← hxs]; exact Same.either s45 R2.seq), ?_, fun H6 t s6 ht et => ?_⟩
            · have q := names_len hls
              simp at q
              omega
            · have s26 : Same H3 H6 := s45.trans s6
              refine ⟨_, rfl, p, CT, dx, _, _, rfl, s26 _ _ h2p, T.cl, T.nS, pf2_shown _ _, _, rfl, sd, _, rfl, (by rw [ez]; exact DPut.k (k := Sum.inr z) (s26 _ _ h2s) (by rw [hrs.length]; exact small1000 (by omega))), ?_⟩
              have hval : valV kvs (Sum.inr z) = none := by
                have q := isSome_valV (es := acc.map (·.1)) hrs.keys (z := z)
                rw [decide_eq_false hza] at q
                cases e : valV kvs (Sum.inr z) with
                | none => rfl
                | some u => rw [e] at q; cases q
              rw [putK_new _ hval]
              have tups : ∀ b xs, H6 b = some (.tup xs) → upd H6 sd (.dK (kvs ++ [(Sum.inr z, .ref t)])) b = some (.tup xs) := fun b xs e => by
                have nb : b ≠ sd := fun q => by rw [q, s26 _ _ h2s] at e; cases e
                rw [upd_ne nb]; exact e
              refine ⟨_, _, kvs ++ [(Sum.inr z, .ref t)], acc ++ [(z, chosen ls (r.xs.map strOf))], rfl, ?_, tups _ _ (s26 _ _ h2l), upd_same, ?_, fun b o e => ?_, ?_, ?_⟩
              · have np : p ≠ sd := nsp
                rw [upd_ne np]; exact s26 _ _ h2p
              · exact (hrs.of fun b xs e => tups b xs (s26 _ _ e)).snoc (tups _ _ et)
              · rw [upd_ne (ne_of_none e hsd0)]
                exact s26 _ _ (s2 _ _ e)
              · rw [← hc, initRows, hn, hsn, ez]
                rfl
              · rw [List.length_append]
                simp
                omega
          · have hce : initRows ls (rows.map RowIn.dat) [] = .error e := by rw [← hc, initRows, hn, he]
            exact Out.of (s2.trans s4) (kx e (by rw [hT, hce]))
        · have hce : initRows ls (rows.map RowIn.dat) [] = .error e := by rw [← hc, initRows, he]
          exact Out.of s2 (kx e (by rw [hT, hce]))
      · rintro σ H2 ⟨x, y, kvs, acc, rfl, h2p, h2l, h2s, hrs, s2, hc, hal⟩
        have hc' : initRows ls (rows.map RowIn.dat) [] = .ok acc := by
          rw [← hc, List.drop_eq_nil_of_le (by simp)]
          rfl
        -- self.looks = tuple(self._shown)
        refine ⟨_, rfl, p, CT, dx, _, _, rfl, h2p, T.cl, T.nS, pf2_shown _ _, sd, kvs, rfl, h2s, fun kt hkt => ?_⟩
        have ntp : p ≠ kt := ne_of_none h2p hkt
        refine ⟨_, rfl, p, CT, dx, _, rfl, (by rw [upd_ne ntp]; exact h2p), T.cl, T.nK, small _ (pf2_len _ _), ?_⟩
        refine k ls acc (by rw [hT, hc']) _ (keep0 (s2.trans (Same.upd_new hkt))) ⟨dx, lt, sd, kt, kvs, upd_same, ?_, ?_, ?_, ?_⟩
        · rw [upd_ne nltp, upd_ne (ne_of_none h2l hkt)]; exact h2l
        · rw [upd_ne nsp.symm, upd_ne (ne_of_none h2s hkt)]; exact h2s
        · have q : (kvs.map fun kv => kV kv.1) = (kvs.map (·.1)).map kV := by rw [List.map_map]; rfl
          rw [upd_ne ntp.symm, upd_same, q, hrs.keys, List.map_map]
          rfl
        · refine hrs.of fun b xs e => ?_
          have nb : b ≠ p := fun q => by rw [q, h2p] at e; cases e
          rw [upd_ne nb, upd_ne (ne_of_none e hkt)]; exact e
end
end Dl

namespace Dl
open PySem L2
/-! ### methods of a table -/
def spAllKnown (K : PySem.W.Frag) (C : Cs) : Sp := fun vs H Q E => ∃ (p q : Addr) (xs : List V) (es : List Str), vs = [.ref p, .ref q] ∧ SqT K H p xs ∧ (∀ v ∈ xs, NmOk H v) ∧ SqT K H q (es.map V.str) ∧
  ((xs.find? fun v => !knows v es) = none → Q .non H) ∧ ∀ v, (xs.find? fun v => !knows v es) = some v → Out1 C.unk "name" v H E
/-- what a method may lean on: a table that was made by the checks -/
structure TabOk (ls : List Str) (rs : List (Str × List Str)) : Prop where
  lnd : ls.Nodup
  lval : ∀ z ∈ ls, validN z = true
  lfew : ls.length ≤ 24
  knd : (rs.map (·.1)).Nodup
  kval : ∀ x ∈ rs, validN x.1 = true
  kfew : rs.length ≤ 24
  sub : ∀ x ∈ rs, x.2.Sublist ls
theorem RowsAt.val {H : Hp} {rs : List (Str × List Str)} {kvs : List (Key × V)} (h : RowsAt H rs kvs) : (rs.map (·.1)).Nodup → ∀ {x : Str × List Str}, x ∈ rs → ∃ a, valV kvs (Sum.inr x.1) = some (.ref a) ∧ H a = some (.tup (x.2.map V.str)) := by
  induction h with
  | nil => intro _ x hx; cases hx
  | @cons k sh a r kvs e h ih =>
    intro nd x hx
    rw [List.map_cons, List.nodup_cons] at nd
    rcases List.mem_cons.mp hx with rfl | hx
    · exact ⟨a, by simp [valV], e⟩
    · have ne : ¬ k = x.1 := fun q => nd.1 (by rw [q]; exact List.mem_map.mpr ⟨x, hx, rfl⟩)
      obtain ⟨b, h1, h2⟩ := ih nd.2 hx
      refine ⟨b, ?_, h2⟩
      unfold valV at h1 ⊢
      rw [List.find?_cons_of_neg (by simpa using ne)]
      exact h1
/-- a pair of rows() -/
structure RowT (H : Hp) (r : RowIn) : Prop where
  pair : H r.t = some (.tup [r.look, .ref r.s])
  tup : H r.s = some (.tup r.xs)
theorem RowT.of {H H' : Hp} {r : RowIn} (s : Same H H') (h : RowT H r) : RowT H' r := ⟨s _ _ h.pair, s _ _ h.tup⟩
def rdat (x : Str × List Str) : V × List V := (.str x.1, x.2.map V.str)
def spTRows (K : PySem.W.Frag) (CT : Addr) : Sp := fun vs H Q _ => ∃ (p : Addr) (ls : List Str) (rs : List (Str × List Str)), vs = [.ref p] ∧ TableAt CT H p ls rs ∧ TabOk ls rs ∧
  ∀ (H' : Hp) (l : Addr) (rows : List RowIn), Same H H' → H l = none → H' l = some (.lst (rows.map fun r => V.ref r.t)) → (∀ r ∈ rows, RowT H' r) → rows.map RowIn.dat = rs.map rdat → Q (.ref l) H'
section
variable {P : Program} {w : World} {K : PySem.W.Frag} {mg : Str → Option Value} {base : Heap} {C : Cs} {CT : Addr}
theorem scCheckAll : FnScope ["chosen", "names", "name"] ["chosen", "names"] (defScope sCheckAll) := ⟨rfl, rfl, rfl, by decide +kernel, rfl, by decide +kernel, by decide +kernel⟩
theorem ok_checkall {f : Addr} {fd : FuncData} (F : Fun K "check_all_known" "check_all_known" sCheckAll f fd) (gK : Dfn P w K mg base (L2.CX P w) 4 "check_known" ["name", "names"] (spKnown K C)) :
    FnOk P w K mg base (L2.CX P w) 5 f fd ["chosen", "names"] (spAllKnown K C) := by
  obtain ⟨fK, dK, mK, kK, bK, GK⟩ := gK
  refine F.okX scCheckAll (fun vs H Q E h => ?_) (fun cdv A outer s H vs Q E hr h => ?_)
  · obtain ⟨a, b, xs, es, rfl, _⟩ := h
    rfl
  · obtain ⟨p, q, xs, es, rfl, hp, hx, hq, k, kx⟩ := h
    have hr4 : Room 4 _ := hr
    refine ⟨_, (pss_one (ps_for (passes_of rfl) rfl (pi_tup (pv 0)) (pg_name (i := 2) scCheckAll.nd rfl (Or.inl rfl)) (pss_one (ps_expr (pe_call GK hr4 (by rfl) mK kK bK .nil (passes_call (takes_of rfl rfl rfl rfl) (fun _ _ _ _ h => h)) (pa_cons (pv 2) (pa_cons (pv 1) pa_nil))))))), ?_⟩
    refine ⟨_, rfl, p, rfl, ⟨_, hp⟩, for_it (walk_tup (K := K) (a := p) (xs := xs)) (fun i σ H' => H' = H ∧ (∃ x, σ = [some (.ref p), some (.ref q), x]) ∧ (xs.find? fun v => !knows v es) = ((xs.drop i).find? fun v => !knows v es))
      ⟨rfl, ⟨none, rfl⟩, rfl⟩ (fun i σ H' _ ⟨e, _⟩ => by rw [e]; exact hp) ?_ ?_⟩
    · rintro i v σ H1 H2 hi ⟨rfl, ⟨x, rfl⟩, hf⟩ ⟨rfl, hv⟩
      have hd : xs.drop i = v :: xs.drop (i + 1) := by
        rw [List.drop_eq_getElem_cons hi]
        have q := (List.getElem?_eq_some_iff.mp hv).2
        rw [q]
      rw [hd] at hf
      refine ⟨_, rfl, _, rfl, v, q, es, rfl, hx v (List.mem_of_getElem? hv), hq, fun hk => ?_, fun hk => ?_⟩
      · refine ⟨rfl, ⟨_, rfl⟩, ?_⟩
        rw [hf, List.find?_cons_of_neg (by rw [hk]; decide)]
      · refine kx v ?_
        rw [hf, List.find?_cons_of_pos (by rw [hk]; decide)]
    · rintro σ H1 ⟨rfl, ⟨x, rfl⟩, hf⟩
      rw [List.drop_length] at hf
      exact k hf
theorem scTRows : FnScope ["self", "look"] ["self"] (defScope sTableRows) := ⟨rfl, rfl, rfl, by decide +kernel, rfl, by decide +kernel, by decide +kernel⟩
theorem ok_trows {f : Addr} {fd : FuncData} (F : Fun K "rows" "Table.rows" sTableRows f fd) (cl : Cls K CT) (nK : NoAttr K CT "looks") (nS : NoAttr K CT "_shown") : FnOk P w K mg base CX0 1 f fd ["self"] (spTRows K CT) := by
  refine F.ok scTRows (fun vs H Q E h => ?_) (fun cdv A outer s H vs Q E hr h => ?_)
  · obtain ⟨a, ls, rs, rfl, _⟩ := h
    rfl
  · obtain ⟨p, ls, rs, rfl, ⟨dx, lt, sd, kt, kvs, hp, hlt, hsd, hkt, hrs⟩, ok, k⟩ := h
    refine ⟨_, (pss_one (ps_ret (pe_lc (own := [("look", 1)]) (g := gName 1) (tt := tYes) (te := tTup (tCons (tVar 1) (tCons (tDGet (tFld K (tVar 0) "_shown") (tVar 1)) tNil))) rfl scTRows.nd (pi_tup (pe_fld (pv 0) rfl)) (blkOk_by (N := ["self", "look"]) (sc := defScope sTableRows) (by decide +kernel)) (fun _ _ _ _ _ => (pg_name (i := 1) scTRows.nd rfl (Or.inl rfl))) (fun _ _ _ _ _ => pts_nil)
      (fun _ _ _ _ _ => (pe_tup (pa_cons (pv 1) (pa_cons (pe_dget (hu_of hr) (pe_fld (pv 0) rfl) (pv 1) (fun _ _ => rfl)) pa_nil))))))), ?_⟩
    refine ⟨_, rfl, p, CT, dx, _, _, rfl, hp, cl, nK, pf3_looks _ _ _, kt, rfl, ⟨_, SqT.of hkt⟩, fun D hD => lc_it (walk_tup (K := K) (a := kt) (xs := (rs.map (·.1)).map V.str)) (fun i H' => ∃ rows : List RowIn, Same H H' ∧ H' D = some (.lst (rows.map fun r => V.ref r.t)) ∧ (∀ r ∈ rows, RowT H' r) ∧ rows.map RowIn.dat = (rs.take i).map rdat)
      ⟨[], Same.upd_new hD, upd_same, fun r hr => absurd hr (by simp), rfl⟩ (fun i H' _ ⟨_, s1, _⟩ => SqT.of (s1 _ _ hkt)) ?_ ?_⟩
    · rintro i v H1 H2 hi ⟨rows, s1, hD1, hrt, hdat⟩ ⟨rfl, hv⟩
      have hv2 : ((rs.map (·.1)).map V.str)[i]? = some v := hv
      rw [List.getElem?_map, List.getElem?_map] at hv2
      cases hri : rs[i]? with
      | none => rw [hri] at hv2; cases hv2
      | some x =>
      rw [hri] at hv2
      obtain rfl : V.str x.1 = v := Option.some.inj hv2
      obtain ⟨a, hval, ha⟩ := hrs.val ok.knd (List.mem_of_getElem? hri)
      have hsd1 := s1 _ _ hsd
      have dg : DGet H2 sd (kV (Sum.inr x.1)) (some (.ref a)) := by rw [← hval]; exact DGet.k hsd1
      have hlen : rows.length ≤ 24 := by
        have q := congrArg List.length hdat
        rw [List.length_map, List.length_map, List.length_take] at q
        have := ok.kfew
        omega
      refine ⟨rfl, _, rfl, _, rfl, p, CT, dx, _, _, rfl, s1 _ _ hp, cl, nS, pf3_shown _ _ _, _, rfl, sd, _, rfl, dg, by show 2 ≤ sizeLine; decide, fun t ht => ?_⟩
      have ntD : D ≠ t := ne_of_none hD1 ht
      refine ⟨_, by rw [upd_ne ntD]; exact hD1, by rw [List.length_map]; exact small1000 (by omega), rows ++ [⟨t, .str x.1, a, x.2.map V.str⟩], fun c o h => ?_, by rw [upd_same, List.map_append]; rfl, fun r hr => ?_, ?_⟩
      · rw [upd_ne (ne_of_none h hD), upd_ne (ne_of_none (s1 _ _ h) ht)]
        exact s1 _ _ h
      · have keep : ∀ {c : Addr} {ys : List V}, H2 c = some (.tup ys) → upd (upd H2 t (.tup [.str x.1, .ref a])) D (.lst ((rows.map fun r => V.ref r.t) ++ [.ref t])) c = some (.tup ys) := fun {c ys} h => by
          have nD : c ≠ D := fun q => by rw [q, hD1] at h; cases h
          rw [upd_ne nD, upd_ne (ne_of_none h ht)]
          exact h
        rcases List.mem_append.mp hr with h | h
        · exact ⟨keep (hrt r h).pair, keep (hrt r h).tup⟩
        · obtain rfl := List.mem_singleton.mp h
          exact ⟨by rw [upd_ne ntD.symm, upd_same], keep (s1 _ _ ha)⟩
      · have e : rs.take (i + 1) = rs.take i ++ [x] := by rw [List.take_succ, hri]; rfl
        rw [List.map_append, hdat, e, List.map_append]
        rfl
    · rintro H1 ⟨rows, s1, hD1, hrt, hdat⟩
      rw [List.length_map, List.length_map, List.take_length] at hdat
      exact k H1 D rows s1 hD hD1 hrt hdat
end
end Dl

namespace Dl
open PySem L2
/-! ### a table of good names is made -/
theorem chosen_sub {sh ls : List Str} (h : sh.Sublist ls) (nd : ls.Nodup) : chosen ls sh = sh := by
  unfold chosen
  induction h with
  | slnil => rfl
  | @cons sh ls a h ih =>
    rw [List.nodup_cons] at nd
    have na : ¬ a ∈ sh := fun m => nd.1 (h.subset m)
    rw [List.filter_cons_of_neg (by simpa using na)]
    exact ih nd.2
  | @cons_cons sh ls a h ih =>
    rw [List.nodup_cons] at nd
    rw [List.filter_cons_of_pos (by simp)]
    congr 1
    rw [← ih nd.2]
    apply List.filter_congr
    intro z hz
    have nz : z ≠ a := fun e => nd.1 (e ▸ hz)
    rw [ih nd.2]
    simp [nz]
theorem names_ok' : ∀ {zs acc : List Str}, zs.Nodup → (∀ z ∈ zs, validN z = true ∧ z ∉ acc) → chkNames (zs.map V.str) acc = .ok (acc ++ zs)
  | [], acc, _, _ => by simp [chkNames]
  | z :: r, acc, nd, h => by
    rw [List.nodup_cons] at nd
    have hz := h z (List.mem_cons_self ..)
    have e : chkNew (.str z) acc = none := by simp [chkNew, hz.1, hz.2]
    rw [List.map_cons, chkNames, e]
    show chkNames (r.map V.str) (acc ++ [z]) = _
    rw [names_ok' nd.2 fun y hy => ⟨(h y (List.mem_cons_of_mem _ hy)).1, fun m => by
      rcases List.mem_append.mp m with m | m
      · exact (h y (List.mem_cons_of_mem _ hy)).2 m
      · obtain rfl := List.mem_singleton.mp m
        exact nd.1 hy⟩]
    simp
theorem names_ok {zs : List Str} (nd : zs.Nodup) (h : ∀ z ∈ zs, validN z = true) : chkNames (zs.map V.str) [] = .ok zs := by
  rw [names_ok' nd fun z hz => ⟨h z hz, by simp⟩]
  simp
theorem shown_ok' : ∀ {zs ls prev : List Str}, zs.Nodup → (∀ z ∈ zs, z ∈ ls ∧ z ∉ prev) → chkShown (zs.map V.str) ls prev = none
  | [], _, _, _, _ => by simp [chkShown]
  | z :: r, ls, prev, nd, h => by
    rw [List.nodup_cons] at nd
    have hz := h z (List.mem_cons_self ..)
    rw [List.map_cons, chkShown, if_pos (show knows (.str z) ls = true by simp [knows, hz.1]), if_neg (show ¬ strOf (.str z) ∈ prev from hz.2)]
    refine shown_ok' nd.2 fun y hy => ⟨(h y (List.mem_cons_of_mem _ hy)).1, fun m => ?_⟩
    rcases List.mem_append.mp m with m | m
    · exact (h y (List.mem_cons_of_mem _ hy)).2 m
    · have e : y = z := List.mem_singleton.mp m
      exact nd.1 (e ▸ hy)
theorem rows_ok' {ls : List Str} (lnd : ls.Nodup) : ∀ {xs acc : List (Str × List Str)}, (xs.map (·.1)).Nodup → (∀ x ∈ xs, validN x.1 = true ∧ x.2.Sublist ls ∧ x.1 ∉ acc.map (·.1)) → initRows ls (xs.map fun x => (V.str x.1, x.2.map V.str)) acc = .ok (acc ++ xs)
  | [], acc, _, _ => by simp [initRows]
  | x :: r, acc, nd, h => by
    rw [List.map_cons, List.nodup_cons] at nd
    obtain ⟨h1, h2, h3⟩ := h x (List.mem_cons_self ..)
    have e : chkNew (.str x.1) (acc.map (·.1)) = none := by simp only [chkNew, h1, if_true]; rw [if_neg h3]
    have e2 : chkShown (x.2.map V.str) ls [] = none := shown_ok' (h2.nodup lnd) fun z hz => ⟨h2.subset hz, by simp⟩
    have e3 : (x.2.map V.str).map strOf = x.2 := by rw [List.map_map]; exact List.map_id _
    rw [List.map_cons, initRows, e, e2]
    show initRows ls _ (acc ++ [(x.1, chosen ls ((x.2.map V.str).map strOf))]) = _
    rw [e3, chosen_sub h2 lnd, rows_ok' lnd nd.2 fun y hy => ⟨(h y (List.mem_cons_of_mem _ hy)).1, (h y (List.mem_cons_of_mem _ hy)).2.1, fun m => by
      rw [List.map_append] at m
      rcases List.mem_append.mp m with m | m
      · exact (h y (List.mem_cons_of_mem _ hy)).2.2 m
      · have q : y.1 = x.1 := by simpa using m
        exact nd.1 (by rw [← q]; exact List.mem_map.mpr ⟨y, hy, rfl⟩)⟩]
    simp
theorem init_ok {ls : List Str} {rs : List (Str × List Str)} (ok : TabOk ls rs) : initT (ls.map V.str) (rs.map rdat) = .ok (ls, rs) := by
  unfold initT
  rw [if_neg (by rw [List.length_map, List.length_map]; have := ok.lfew; have := ok.kfew; omega), names_ok ok.lnd ok.lval]
  have e : initRows ls (rs.map rdat) [] = .ok rs := by
    have q := rows_ok' ok.lnd (xs := rs) (acc := []) ok.knd fun x hx => ⟨ok.kval x hx, ok.sub x hx, by simp⟩
    rw [List.nil_append] at q
    exact q
  simp only [e]
end Dl

namespace Dl
open PySem PySem.Spec PyProof.Rows L2
theorem TabOk.lampsNm {ls : List Str} {rs : List (Str × List Str)} (ok : TabOk ls rs) {H : Hp} : ∀ v ∈ ls.map V.str, NmOk H v := fun v hv => by
  obtain ⟨z, hz, rfl⟩ := List.mem_map.mp hv
  have h := ok.lval z hz
  unfold validN at h
  simp only [Bool.and_eq_true, decide_eq_true_eq] at h
  exact Nat.le_of_lt (small1000 (by have := h.2.1; omega))
theorem validN_nm {z : Str} (h : validN z = true) {H : Hp} : NmOk H (.str z) := by
  unfold validN at h
  simp only [Bool.and_eq_true, decide_eq_true_eq] at h
  exact Nat.le_of_lt (small1000 (by have := h.2.1; omega))
theorem TableAt.of {CT : Addr} {H H' : Hp} {p : Addr} {ls : List Str} {rs : List (Str × List Str)} (s : Same H H') (h : TableAt CT H p ls rs) : TableAt CT H' p ls rs := by
  obtain ⟨dx, lt, sd, kt, kvs, hp, hlt, hsd, hkt, hrs⟩ := h
  exact ⟨dx, lt, sd, kt, kvs, s _ _ hp, s _ _ hlt, s _ _ hsd, s _ _ hkt, hrs.of fun b ys e => s _ _ e⟩
theorem strs_back (zs : List Str) : (zs.map V.str).map strOf = zs := by rw [List.map_map]; exact List.map_id _
theorem strs_nm {zs : List Str} (h : ∀ z ∈ zs, validN z = true) {H : Hp} : ∀ v ∈ zs.map V.str, NmOk H v := fun v hv => by
  obtain ⟨z, hz, rfl⟩ := List.mem_map.mp hv
  exact validN_nm (h z hz)
end Dl

namespace Dl
open PySem PySem.Spec PyProof.Rows L2
def goneOf (ls zs : List Str) : List Str := ls.filter fun z => !decide (z ∈ zs)
def lessOf (rs : List (Str × List Str)) (ls' : List Str) : List (Str × List Str) := rs.map fun x => (x.1, chosen x.2 ls')
def onlyOf (rs : List (Str × List Str)) (ks : List Str) : List (Str × List Str) := rs.filter fun x => decide (x.1 ∈ ks)
def unkOf (xs : List V) (es : List Str) : Option V := xs.find? fun v => !knows v es
theorem only_step {rs : List (Str × List Str)} {ys : List Str} {i : Nat} (h : i < rs.length) : onlyOf (rs.take (i + 1)) ys = onlyOf (rs.take i) ys ++ (if decide (rs[i].1 ∈ ys) = true then [rs[i]] else []) := by
  unfold onlyOf
  rw [List.take_succ, List.getElem?_eq_getElem h, List.filter_append]
  congr 1
  by_cases hm : rs[i].1 ∈ ys <;> simp [hm]
theorem unk_strs {xs : List V} {es : List Str} (h : unkOf xs es = none) : xs = (xs.map strOf).map V.str := by
  unfold unkOf at h
  rw [List.find?_eq_none] at h
  induction xs with
  | nil => rfl
  | cons v r ih =>
    have hv : knows v es = true := by simpa using h v (List.mem_cons_self ..)
    obtain ⟨z, rfl, _⟩ := knows_str hv
    rw [List.map_cons, List.map_cons, ← ih fun y hy => h y (List.mem_cons_of_mem _ hy)]
    rfl
theorem chosen_is_sub (a b : List Str) : (chosen a b).Sublist a := List.filter_sublist
theorem TabOk.less {ls : List Str} {rs : List (Str × List Str)} (ok : TabOk ls rs) (zs : List Str) : TabOk (goneOf ls zs) (lessOf rs (goneOf ls zs)) := by
  have sl : (goneOf ls zs).Sublist ls := List.filter_sublist
  have keys : (lessOf rs (goneOf ls zs)).map (·.1) = rs.map (·.1) := by unfold lessOf; rw [List.map_map]; rfl
  refine ⟨sl.nodup ok.lnd, fun z hz => ok.lval z (sl.subset hz), Nat.le_trans sl.length_le ok.lfew, by rw [keys]; exact ok.knd, fun x hx => ?_, by unfold lessOf; rw [List.length_map]; exact ok.kfew, fun x hx => ?_⟩
  · obtain ⟨y, hy, rfl⟩ := List.mem_map.mp hx
    exact ok.kval y hy
  · obtain ⟨y, hy, rfl⟩ := List.mem_map.mp hx
    have e : chosen y.2 (goneOf ls zs) = y.2.filter fun z => !decide (z ∈ zs) := by
      unfold chosen goneOf
      apply List.filter_congr
      intro z hz
      have m := (ok.sub y hy).subset hz
      simp [m]
    show (chosen y.2 (goneOf ls zs)).Sublist (goneOf ls zs)
    rw [e]
    exact (ok.sub y hy).filter _
theorem TabOk.only {ls : List Str} {rs : List (Str × List Str)} (ok : TabOk ls rs) (ks : List Str) : TabOk ls (onlyOf rs ks) := by
  have sr : (onlyOf rs ks).Sublist rs := List.filter_sublist
  exact ⟨ok.lnd, ok.lval, ok.lfew, (sr.map _).nodup ok.knd, fun x hx => ok.kval x (sr.subset hx), Nat.le_trans sr.length_le ok.kfew, fun x hx => ok.sub x (sr.subset hx)⟩
theorem RowT.e {K : PySem.W.Frag} {H : Hp} {r : RowIn} (h : RowT H r) {x : Str × List Str} (e : r.dat = rdat x) {ls : List Str} {rs : List (Str × List Str)} (ok : TabOk ls rs) (hx : x ∈ rs) : RowE K H r := by
  have e1 : r.look = .str x.1 := congrArg Prod.fst e
  have e2 : r.xs = x.2.map V.str := congrArg Prod.snd e
  refine ⟨SqT.of h.pair, by rw [e1]; exact validN_nm (ok.kval x hx), .inr (SqT.of h.tup), fun v hv => ?_, ?_⟩
  · rw [e2] at hv
    obtain ⟨z, hz, rfl⟩ := List.mem_map.mp hv
    exact validN_nm (ok.lval z ((ok.sub x hx).subset hz))
  · rw [e2, List.length_map]
    have := (ok.sub x hx).length_le
    have := ok.lfew
    omega
theorem rowsT_e {K : PySem.W.Frag} {H : Hp} {rows : List RowIn} {rs : List (Str × List Str)} {ls : List Str} (ok : TabOk ls rs) (h : ∀ r ∈ rows, RowT H r) (e : rows.map RowIn.dat = rs.map rdat) : ∀ r ∈ rows, RowE K H r := fun r hr => by
  have m : r.dat ∈ rs.map rdat := by rw [← e]; exact List.mem_map_of_mem hr
  obtain ⟨x, hx, ex⟩ := List.mem_map.mp m
  exact (h r hr).e ex.symm ok hx
/-- what a call on a table wants of the table that is made, or of the first unknown name -/
def spWithout (K : PySem.W.Frag) (CT : Addr) (C : Cs) : Sp := fun vs H Q E => ∃ (p q : Addr) (ls : List Str) (rs : List (Str × List Str)) (xs : List V), vs = [.ref p, .ref q] ∧ TableAt CT H p ls rs ∧ TabOk ls rs ∧ H q = some (.tup xs) ∧ (∀ v ∈ xs, NmOk H v) ∧
  (unkOf xs ls = none → ∀ H' x, Same H H' → H x = none → TableAt CT H' x (goneOf ls (xs.map strOf)) (lessOf rs (goneOf ls (xs.map strOf))) → Q (.ref x) H') ∧ ∀ v, unkOf xs ls = some v → Out1 C.unk "name" v H E
def spOnly (K : PySem.W.Frag) (CT : Addr) (C : Cs) : Sp := fun vs H Q E => ∃ (p q : Addr) (ls : List Str) (rs : List (Str × List Str)) (xs : List V), vs = [.ref p, .ref q] ∧ TableAt CT H p ls rs ∧ TabOk ls rs ∧ H q = some (.tup xs) ∧ (∀ v ∈ xs, NmOk H v) ∧
  (unkOf xs (rs.map (·.1)) = none → ∀ H' x, Same H H' → H x = none → TableAt CT H' x ls (onlyOf rs (xs.map strOf)) → Q (.ref x) H') ∧ ∀ v, unkOf xs (rs.map (·.1)) = some v → Out1 C.unk "name" v H E
def spWithLook (K : PySem.W.Frag) (CT : Addr) (C : Cs) : Sp := fun vs H Q E => ∃ (p q : Addr) (ls : List Str) (rs : List (Str × List Str)) (nm : V) (xs : List V), vs = [.ref p, nm, .ref q] ∧ TableAt CT H p ls rs ∧ TabOk ls rs ∧ NmOk H nm ∧ H q = some (.tup xs) ∧ (∀ v ∈ xs, NmOk H v) ∧ xs.length ≤ 1000 ∧
  (∀ ls' rs', initT (ls.map V.str) (rs.map rdat ++ [(nm, xs)]) = .ok (ls', rs') → ∀ H' x, Same H H' → H x = none → TableAt CT H' x ls' rs' → Q (.ref x) H') ∧ ∀ e, initT (ls.map V.str) (rs.map rdat ++ [(nm, xs)]) = .error e → Out C H E e
/-- a def with a star parameter, called with these values -/
def starSp (n : Nat) (sp : Sp) : Sp := fun vs H Q E => ∃ ws rest, vs = ws ++ rest ∧ ws.length = n ∧ rest.length ≤ sizeLine ∧ ∀ p, H p = Option.none → sp (ws ++ [V.ref p]) (upd H p (.tup rest)) Q E
structure TabM (P : Program) (w : World) (K : PySem.W.Frag) (mg : Str → Option Value) (base : Heap) (CT : Addr) (C : Cs) : Prop where
  cl : Cls K CT
  nL : NoAttr K CT "lamps"
  nK : NoAttr K CT "looks"
  nS : NoAttr K CT "_shown"
  gT : mg "Table" = some (.ref CT)
  init : ∃ fT fdT, Mk K CT fT ∧ Binds K fdT ["self", "lamps", "looks"] [] ∧ FnOk P w K mg base (L2.CX P w) 8 fT fdT ["self", "lamps", "looks"] (spTabInit2 K CT C)
  rows : ∃ fR fdR, Meth K CT "rows" fR ∧ Binds K fdR ["self"] [] ∧ FnOk P w K mg base CX0 1 fR fdR ["self"] (spTRows K CT)
section
variable {P : Program} {w : World} {K : PySem.W.Frag} {mg : Str → Option Value} {base : Heap} {C : Cs} {CT : Addr}
theorem rows_ne : ¬ (("rows" : Str) = "lamps") ∧ ¬ (("rows" : Str) = "_shown") ∧ ¬ (("rows" : Str) = "looks") := by decide +kernel
theorem scTWithLook : FnScope ["self", "name", "lamps"] ["self", "name", "lamps"] (defScope sTableWithLook) := ⟨rfl, rfl, rfl, by decide +kernel, rfl, by decide +kernel, by decide +kernel⟩
theorem ok_withlook {f : Addr} {fd : FuncData} (F : Fun K "with_look" "Table.with_look" sTableWithLook f fd) (T : TabM P w K mg base CT C) : FnR P w K mg base (L2.CX P w) 10 f (starSp 2 (spWithLook K CT C)) := by
  obtain ⟨oc, od, kV, doc, pm, an, cdv, ct, osl, rfl, lk, hcd⟩ := F.ex
  obtain ⟨fT, fdT, M, bT, GT⟩ := T.init
  obtain ⟨fR, fdR, mR, bR, GR⟩ := T.rows
  refine StX.fn_star (k := 9) (ps := ["self", "name"]) (pv := "lamps") lk hcd scTWithLook StX.cxUp (StX.bind_star2 (B := fun us => bindArgs _ ⟨us, []⟩) (fun _ _ => by rfl) (fun _ _ _ _ => by rfl)) (fun A outer s H vs Q E hr h => ?_)
  obtain ⟨p, q, ls, rs, nm, xs, rfl, hT, ok, hnm, hq, hx, hlen, k, kx⟩ := h
  have hr1 : Room 1 _ := hr.mono (by decide)
  refine ⟨_, (pss_one (ps_ret (pe_make M GT hr (by rfl) T.gT bT .nil (passes_call (takes_of rfl rfl rfl rfl) (fun _ _ _ _ h => h)) (pa_cons (pe_fld (pv 0) rfl) (pa_cons (pe_op op_cat (pe_meth0 (pv 0) T.cl mR GR hr1 bR .nil pass0) (pe_lst (pa_cons (pe_tup (pa_cons (pv 1) (pa_cons (pv 2) pa_nil))) pa_nil))) pa_nil))))), ?_⟩
  have hT2 := hT
  obtain ⟨dx, lt, sd, kt, kvs, hp, hlt, hsd, hkt, hrs⟩ := hT2
  refine ⟨_, rfl, p, CT, dx, _, _, rfl, hp, T.cl, T.nL, pf3_lamps _ _ _, ?_⟩
  refine ⟨_, rfl, p, dx, _, rfl, hp, pf3_no _ _ _ rows_ne.1 rows_ne.2.1 rows_ne.2.2, p, ls, rs, rfl, hT, ok, fun H1 l rows s1 hl hl1 hrt hdat => ?_⟩
  have hrl : rows.length ≤ 24 := by
    have e := congrArg List.length hdat
    rw [List.length_map, List.length_map] at e
    have := ok.kfew
    omega
  refine ⟨_, rfl, _, rfl, by show 2 ≤ sizeLine; decide, fun t ht => ?_⟩
  have s2 : Same H1 (upd H1 t (.tup [nm, .ref q])) := Same.upd_new ht
  refine ⟨by show 1 ≤ sizeLine; decide, fun l2 hl2 => ?_⟩
  have s3 := Same.upd_new hl2 (o := .lst [.ref t])
  refine ⟨l, l2, _, _, rfl, rfl, s3 _ _ (s2 _ _ hl1), upd_same, Nat.le_of_lt (small1000 (by rw [List.length_map]; simp; omega)), fun l3 hl3 => ?_⟩
  have s4 := Same.upd_new hl3 (o := .lst ((rows.map fun r => V.ref r.t) ++ [.ref t]))
  have ht4 := (s3.trans s4) _ _ (upd_same (H := H1) (a := t) (o := .tup [nm, .ref q]))
  have hl34 : upd (upd (upd H1 t (.tup [nm, .ref q])) l2 (.lst [.ref t])) l3 (.lst ((rows.map fun r => V.ref r.t) ++ [.ref t])) l3 = some (.lst ((rows.map fun r => V.ref r.t) ++ [.ref t])) := upd_same
  have s14 := s2.trans (s3.trans s4)
  have s04 := s1.trans s14
  generalize upd (upd (upd H1 t (.tup [nm, .ref q])) l2 (.lst [.ref t])) l3 (.lst ((rows.map fun r => V.ref r.t) ++ [.ref t])) = H4 at *
  refine fun x dx' nx ndx nex => ?_
  have sm : Same H4 (upd (upd H4 dx' (.own x)) x (.ins CT dx' [])) := fun c o e => by
    rw [upd_ne (ne_of_none e nx), upd_ne (ne_of_none e ndx)]; exact e
  have edat : (rows ++ [(⟨t, nm, q, xs⟩ : RowIn)]).map RowIn.dat = rs.map rdat ++ [(nm, xs)] := by
    rw [List.map_append, hdat]
    rfl
  refine ⟨H4, x, dx', lt, l3, ls.map V.str, rows ++ [⟨t, nm, q, xs⟩], rfl, sm, nx, upd_same, .inr (SqT.of (s04 _ _ hlt)), ok.lampsNm, ?_, .inl ?_, fun r hr => ?_, ?_, fun ls' rs' e H' s' tab => ⟨rfl, ?_⟩, fun e he => ?_⟩
  · rw [List.length_map]
    have := ok.lfew
    omega
  · refine SqL.of ?_
    rw [List.map_append]
    exact hl34
  · rcases List.mem_append.mp hr with h | h
    · exact (rowsT_e ok hrt hdat r h).of s14
    · obtain rfl := List.mem_singleton.mp h
      exact ⟨SqT.of ht4, hnm.of s04, .inr (SqT.of (s04 _ _ hq)), fun v hv => (hx v hv).of s04, hlen⟩
  · rw [List.length_append]
    simp
    omega
  · rw [edat] at e
    exact k ls' rs' e H' x (s04.trans s') (s04.free nx) tab
  · rw [edat] at he
    exact Out.of s04 (kx e he)
theorem scTOnly : FnScope ["self", "looks", "look", "shown"] ["self", "looks"] (defScope sTableOnly) := ⟨rfl, rfl, rfl, by decide +kernel, rfl, by decide +kernel, by decide +kernel⟩
theorem ok_only {f : Addr} {fd : FuncData} (F : Fun K "only" "Table.only" sTableOnly f fd) (T : TabM P w K mg base CT C) (gA : Dfn P w K mg base (L2.CX P w) 5 "check_all_known" ["chosen", "names"] (spAllKnown K C)) : FnR P w K mg base (L2.CX P w) 10 f (starSp 1 (spOnly K CT C)) := by
  obtain ⟨oc, od, kV, doc, pm, an, cdv, ct, osl, rfl, lk, hcd⟩ := F.ex
  obtain ⟨fT, fdT, M, bT, GT⟩ := T.init
  obtain ⟨fR, fdR, mR, bR, GR⟩ := T.rows
  obtain ⟨fA, dA, mA, kA, bA, GA⟩ := gA
  refine StX.fn_star (k := 9) (ps := ["self"]) (pv := "looks") lk hcd scTOnly StX.cxUp (StX.bind_star1 (B := fun us => bindArgs _ ⟨us, []⟩) (fun _ => by rfl) (fun _ _ _ => by rfl)) (fun A outer s H vs Q E hr h => ?_)
  obtain ⟨p, q, ls, rs, xs, rfl, hT, ok, hq, hx, k, kx⟩ := h
  have hr1 : Room 1 _ := hr.mono (by decide)
  have hr5 : Room 5 _ := hr.mono (by decide)
  refine ⟨_, (pss_cons (ps_expr (pe_call GA hr5 (by rfl) mA kA bA .nil (passes_call (takes_of rfl rfl rfl rfl) (fun _ _ _ _ h => h)) (pa_cons (pv 1) (pa_cons (pe_fld (pv 0) rfl) pa_nil))))
    (pss_one (ps_ret (pe_make M GT hr (by rfl) T.gT bT .nil (passes_call (takes_of rfl rfl rfl rfl) (fun _ _ _ _ h => h)) (pa_cons (pe_fld (pv 0) rfl) (pa_cons
      (pe_lc (own := [("look", 2), ("shown", 3)]) (g := gTup K 2 (gCons (gName 2) (gCons (gName 3) gNil))) (tt := tTest (tOp (rIn K false) (tVar 2) (tVar 1))) rfl scTOnly.nd (pi_list (pe_meth0 (pv 0) T.cl mR GR hr1 bR .nil pass0)) (blkOk_by (N := ["self", "looks", "look", "shown"]) (sc := defScope sTableOnly) (by decide +kernel))
        (fun _ _ _ _ _ => pg_tup rfl (pgs_cons (pg_name (i := 2) scTOnly.nd rfl (Or.inl rfl)) (pgs_cons (pg_name (i := 3) scTOnly.nd rfl (Or.inl rfl)) pgs_nil))) (fun _ _ _ _ _ => pts_one (pt_cmpR op_in_seq (pv 2) (pv 1) (by rfl))) (fun _ _ _ _ _ => pe_tup (pa_cons (pv 2) (pa_cons (pv 3) pa_nil)))) pa_nil)))))), ?_⟩
  have hT2 := hT
  obtain ⟨dx, lt, sd, kt, kvs, hp, hlt, hsd, hkt, hrs⟩ := hT2
  refine ⟨_, rfl, _, rfl, p, CT, dx, _, _, rfl, hp, T.cl, T.nK, pf3_looks _ _ _, q, kt, xs, (rs.map fun x : Str × List Str => x.1), rfl, SqT.of hq, hx, SqT.of hkt, fun hu => ?_, fun v hv => kx v hv⟩
  have hxs := unk_strs (es := rs.map fun x : Str × List Str => x.1) hu
  refine ⟨_, rfl, p, CT, dx, _, _, rfl, hp, T.cl, T.nL, pf3_lamps _ _ _, ?_⟩
  refine ⟨_, rfl, p, dx, _, rfl, hp, pf3_no _ _ _ rows_ne.1 rows_ne.2.1 rows_ne.2.2, p, ls, rs, rfl, hT, ok, fun H1 l rows s1 hl hl1 hrt hdat => ?_⟩
  have hrl : rows.length = rs.length := by
    have e := congrArg List.length hdat
    rw [List.length_map, List.length_map] at e
    exact e
  refine ⟨l, rfl, ⟨_, SqL.of hl1⟩, fun D hD => lc_it (walk_list (K := K) (a := l) (xs := rows.map fun r => V.ref r.t)) (fun i H' => ∃ rows' : List RowIn, Same H1 H' ∧ H' D = some (.lst (rows'.map fun r => V.ref r.t)) ∧ (∀ r ∈ rows', RowT H' r) ∧ rows'.map RowIn.dat = (onlyOf (rs.take i) (xs.map strOf)).map rdat)
    ⟨[], Same.upd_new hD, upd_same, fun r hr => absurd hr (by simp), rfl⟩ (fun i H' _ ⟨_, s2, _⟩ => SqL.of (s2 _ _ hl1)) ?_ ?_⟩
  · rintro i v H2 H3 hi ⟨rows', s2, hD2, hrt', hdat'⟩ ⟨rfl, hv⟩
    have hv2 : (rows.map fun r => V.ref r.t)[i]? = some v := hv
    rw [List.getElem?_map] at hv2
    cases hri : rows[i]? with
    | none => rw [hri] at hv2; cases hv2
    | some r =>
    rw [hri] at hv2
    obtain rfl : V.ref r.t = v := Option.some.inj hv2
    have hlt2 : i < rs.length := by have := (List.getElem?_eq_some_iff.mp hri).1; omega
    have ex : r.dat = rdat rs[i] := by
      have e := congrArg (fun l => l[i]?) hdat
      simp only [List.getElem?_map, hri, List.getElem?_eq_getElem hlt2, Option.map_some] at e
      exact Option.some.inj e
    have e1 : r.look = .str rs[i].1 := congrArg Prod.fst ex
    have e2 : r.xs = rs[i].2.map V.str := congrArg Prod.snd ex
    have Rt := (hrt r (List.mem_of_getElem? hri)).of s2
    have step := only_step (ys := xs.map strOf) hlt2
    have hlen : rows'.length ≤ 24 := by
      have e := congrArg List.length hdat'
      rw [List.length_map, List.length_map] at e
      have : (onlyOf (rs.take i) (xs.map strOf)).length ≤ i := Nat.le_trans (List.length_filter_le _ _) (by rw [List.length_take]; omega)
      have := ok.kfew
      omega
    have hq3 := (s1.trans s2) _ _ hq
    refine ⟨r.t, _, rfl, SqT.of Rt.pair, rfl, _, _, rfl, _, _, rfl, rfl, rfl, _, rfl, _, rfl, q, xs, rfl, .inr (SqT.of hq3), by rw [e1]; rfl, by rw [hxs]; exact flat_strs _, _, rfl, ?_⟩
    have ein : inV r.look xs = decide (rs[i].1 ∈ xs.map strOf) := by
      rw [e1]
      conv => lhs; rw [hxs]
      exact inV_str
    rw [ein]
    by_cases hm : rs[i].1 ∈ xs.map strOf
    · rw [decide_eq_true hm]
      refine iteT ⟨_, rfl, _, rfl, by show 2 ≤ sizeLine; decide, fun t ht => ?_⟩
      have ntD : D ≠ t := ne_of_none hD2 ht
      refine ⟨_, by rw [upd_ne ntD]; exact hD2, by rw [List.length_map]; exact small1000 (by omega), rows' ++ [⟨t, r.look, r.s, r.xs⟩], fun c o h => ?_, by rw [upd_same, List.map_append]; rfl, fun y hy => ?_, ?_⟩
      · rw [upd_ne (ne_of_none h hD), upd_ne (ne_of_none (s2 _ _ h) ht)]
        exact s2 _ _ h
      · have keep : ∀ {c : Addr} {ys : List V}, H3 c = some (.tup ys) → upd (upd H3 t (.tup [r.look, .ref r.s])) D (.lst ((rows'.map fun r => V.ref r.t) ++ [.ref t])) c = some (.tup ys) := fun {c ys} h => by
          have nD : c ≠ D := fun q => by rw [q, hD2] at h; cases h
          rw [upd_ne nD, upd_ne (ne_of_none h ht)]
          exact h
        rcases List.mem_append.mp hy with h | h
        · exact ⟨keep (hrt' y h).pair, keep (hrt' y h).tup⟩
        · obtain rfl := List.mem_singleton.mp h
          exact ⟨by rw [upd_ne ntD.symm, upd_same], keep Rt.tup⟩
      · rw [List.map_append, hdat', step, decide_eq_true hm, if_pos rfl, List.map_append, List.map_cons, List.map_cons, ← ex]
        rfl
    · rw [decide_eq_false hm]
      refine iteF ⟨rows', s2, hD2, hrt', ?_⟩
      rw [hdat', step, decide_eq_false hm, if_neg (by decide), List.append_nil]
  · rintro H2 ⟨rows', s2, hD2, hrt', hdat'⟩
    rw [List.length_map, hrl, List.take_length] at hdat'
    have ok' := ok.only (xs.map strOf)
    have s02 := s1.trans s2
    refine fun x dx' nx ndx nex => ?_
    have sm : Same H2 (upd (upd H2 dx' (.own x)) x (.ins CT dx' [])) := fun c o e => by
      rw [upd_ne (ne_of_none e nx), upd_ne (ne_of_none e ndx)]; exact e
    refine ⟨H2, x, dx', lt, D, ls.map V.str, rows', rfl, sm, nx, upd_same, .inr (SqT.of (s02 _ _ hlt)), ok.lampsNm, ?_, .inl (SqL.of hD2), rowsT_e ok' hrt' hdat', ?_, fun ls' rs' e H' s' tab => ⟨rfl, ?_⟩, fun e he => ?_⟩
    · rw [List.length_map]
      have := ok.lfew
      omega
    · have e := congrArg List.length hdat'
      rw [List.length_map, List.length_map] at e
      have := ok'.kfew
      omega
    · rw [hdat', init_ok ok'] at e
      cases e
      exact k hu H' x (s02.trans s') (s02.free nx) tab
    · rw [hdat', init_ok ok'] at he
      cases he
end
end Dl

namespace Dl
open PySem PySem.Spec PyProof.Rows L2
/-- o.m() of a def with a star parameter -/
theorem pe_methR0 {X : Cx} {CX : CXT} {k : Nat} {C f : Addr} {m : Str} {sp : Sp} {E : XK} {o : Expr} {ta : TE} {apos pos : Pos} {pl : Sem Bool} (he : PE X o ta) (c : Cls X.K C) (hm : Meth X.K C m f) (F : FnR X.prog X.w X.K X.mg X.base CX k f sp) (hr : Room k X.A) (hx : Passes CX X E)
    (ht : eval (.Call (.Attribute o m apos) [] [] pos) X.env = (do
      let ov ← eval o X.env
      standAt apos.atName
      let (f, first) ← holding [ov] (getMethod ov m pl)
      callWith pos f first (backTo pos (starEach [] X.env)) (backToKw pos (keywordEach [] X.env))) := by rfl) :
    PE X (.Call (.Attribute o m apos) [] [] pos) (tMeth C m sp [] E ta tNil) := by
  constructor
  intro pins s σ H Q I h
  refine PySem.W.methodCall_KW (pl := pl) (thn (he.run pins s σ H _ I h) ?_) ht
  rintro u s1 ⟨x, H1, I1, rx, a, dx, fs, rfl, ea, l, q⟩
  obtain rfl : u = Value.ref a := rx
  exact getmeth_ok I1 ea c hm l (PySem.W.callWith_K0 (first := [.ref a]) I1.kIn hm.kp (wpAny_call (run_fnR (us := [.ref a]) (vs := [.ref a]) F hr hx I1 (.cons rfl .nil) q)))
section
variable {P : Program} {w : World} {K : PySem.W.Frag} {mg : Str → Option Value} {base : Heap} {C : Cs} {CT : Addr}
theorem scTWithout : FnScope ["self", "lamps", "kept", "lamp", "look", "shown"] ["self", "lamps"] (defScope sTableWithout) := ⟨rfl, rfl, rfl, by decide +kernel, rfl, by decide +kernel, by decide +kernel⟩
theorem ok_without {f : Addr} {fd : FuncData} (F : Fun K "without" "Table.without" sTableWithout f fd) (T : TabM P w K mg base CT C) (gA : Dfn P w K mg base (L2.CX P w) 5 "check_all_known" ["chosen", "names"] (spAllKnown K C))
    (gC : Dfn P w K mg base CX0 1 "_chosen_of" ["names", "chosen"] (spChosen K)) : FnR P w K mg base (L2.CX P w) 10 f (starSp 1 (spWithout K CT C)) := by
  obtain ⟨oc, od, kV, doc, pm, an, cdv, ct, osl, rfl, lk, hcd⟩ := F.ex
  obtain ⟨fT, fdT, M, bT, GT⟩ := T.init
  obtain ⟨fR, fdR, mR, bR, GR⟩ := T.rows
  obtain ⟨fA, dA, mA, kA, bA, GA⟩ := gA
  obtain ⟨fC, dC, mC, kC, bC, GC⟩ := gC
  refine StX.fn_star (k := 9) (ps := ["self"]) (pv := "lamps") lk hcd scTWithout StX.cxUp (StX.bind_star1 (B := fun us => bindArgs _ ⟨us, []⟩) (fun _ => by rfl) (fun _ _ _ => by rfl)) (fun A outer s H vs Q E hr h => ?_)
  obtain ⟨p, q, ls, rs, xs, rfl, hT, ok, hq, hx, k, kx⟩ := h
  have hr1 : Room 1 _ := hr.mono (by decide)
  have hr5 : Room 5 _ := hr.mono (by decide)
  refine ⟨_, (pss_cons (ps_expr (pe_call GA hr5 (by rfl) mA kA bA .nil (passes_call (takes_of rfl rfl rfl rfl) (fun _ _ _ _ h => h)) (pa_cons (pv 1) (pa_cons (pe_fld (pv 0) rfl) pa_nil))))
    (pss_cons (ps_set (i := 2) scTWithout.nd rfl (Or.inr rfl) (pe_lc (own := [("lamp", 3)]) (g := gName 3) (tt := tTest (tOp (rIn K true) (tVar 3) (tVar 1))) rfl scTWithout.nd (pi_tup (pe_fld (pv 0) rfl)) (blkOk_by (N := ["self", "lamps", "kept", "lamp", "look", "shown"]) (sc := defScope sTableWithout) (by decide +kernel)) (fun _ _ _ _ _ => (pg_name (i := 3) scTWithout.nd rfl (Or.inl rfl))) (fun _ _ _ _ _ => (pts_one (pt_cmpR op_notIn_seq (pv 3) (pv 1) (by rfl)))) (fun _ _ _ _ _ => (pv 3))))
    (pss_one (ps_ret (pe_make M GT hr (by rfl) T.gT bT .nil (passes_call (takes_of rfl rfl rfl rfl) (fun _ _ _ _ h => h)) (pa_cons (pv 2) (pa_cons
      (pe_lc (own := [("look", 4), ("shown", 5)]) (g := gTup K 2 (gCons (gName 4) (gCons (gName 5) gNil))) (tt := tYes) rfl scTWithout.nd (pi_list (pe_meth0 (pv 0) T.cl mR GR hr1 bR .nil pass0)) (blkOk_by (N := ["self", "lamps", "kept", "lamp", "look", "shown"]) (sc := defScope sTableWithout) (by decide +kernel))
        (fun _ _ _ _ _ => pg_tup rfl (pgs_cons (pg_name (i := 4) scTWithout.nd rfl (Or.inl rfl)) (pgs_cons (pg_name (i := 5) scTWithout.nd rfl (Or.inl rfl)) pgs_nil))) (fun _ _ _ _ _ => pts_nil) (fun _ _ _ _ _ => pe_tup (pa_cons (pv 4) (pa_cons (pe_call GC hr1 (by rfl) mC kC bC .nil pass0 (pa_cons (pv 5) (pa_cons (pv 2) pa_nil))) pa_nil)))) pa_nil))))))), ?_⟩
  have hT2 := hT
  obtain ⟨dx, lt, sd, kt, kvs, hp, hlt, hsd, hkt, hrs⟩ := hT2
  refine ⟨_, rfl, _, rfl, p, CT, dx, _, _, rfl, hp, T.cl, T.nL, pf3_lamps _ _ _, q, lt, xs, ls, rfl, SqT.of hq, hx, SqT.of hlt, fun hu => ?_, fun v hv => kx v hv⟩
  have hxs := unk_strs (es := ls) hu
  -- kept
  refine ⟨_, rfl, p, CT, dx, _, _, rfl, hp, T.cl, T.nL, pf3_lamps _ _ _, lt, rfl, ⟨_, SqT.of hlt⟩, fun D0 hD0 => lc_it (walk_tup (K := K) (a := lt) (xs := ls.map V.str)) (fun i H' => H' = upd H D0 (.lst ((goneOf (ls.take i) (xs.map strOf)).map V.str))) rfl (fun i H' _ e => by rw [e]; exact SqT.of ((Same.upd_new hD0) _ _ hlt)) ?_ ?_⟩
  · rintro i v H1 H2 hi rfl ⟨rfl, hv⟩
    have hv2 : (ls.map V.str)[i]? = some v := hv
    rw [List.getElem?_map] at hv2
    cases hli : ls[i]? with
    | none => rw [hli] at hv2; cases hv2
    | some z =>
    rw [hli] at hv2
    obtain rfl : V.str z = v := Option.some.inj hv2
    have s1 : Same H (upd H D0 (.lst ((goneOf (ls.take i) (xs.map strOf)).map V.str))) := Same.upd_new hD0
    have step : goneOf (ls.take (i + 1)) (xs.map strOf) = goneOf (ls.take i) (xs.map strOf) ++ (if (!decide (z ∈ xs.map strOf)) = true then [z] else []) := by
      unfold goneOf
      rw [List.take_succ, hli, List.filter_append]
      generalize xs.map strOf = ys
      congr 1
      by_cases hm : z ∈ ys <;> simp [hm]
    refine ⟨rfl, _, rfl, _, rfl, q, xs, rfl, .inr (SqT.of (s1 _ _ hq)), rfl, by rw [hxs]; exact flat_strs _, _, rfl, ?_⟩
    have ein : inV (.str z) xs = decide (z ∈ xs.map strOf) := by
      conv => lhs; rw [hxs]
      exact inV_str
    have show1 : (if (true : Bool) then !inV (V.str z) xs else inV (V.str z) xs) = !decide (z ∈ xs.map strOf) := by rw [ein]; rfl
    rw [show1]
    refine ite2 (fun c => ?_) (fun c => ?_)
    · refine ⟨_, rfl, _, upd_same, ?_, ?_⟩
      · have q1 : (goneOf (ls.take i) (xs.map strOf)).length ≤ 24 := Nat.le_trans (List.length_filter_le _ _) (by rw [List.length_take]; have := ok.lfew; omega)
        rw [List.length_map]
        exact small1000 (by omega)
      · rw [upd_upd, step, if_pos c, List.map_append]
        rfl
    · show _ = _
      rw [step, if_neg c, List.append_nil]
  rintro H1 rfl
  rw [List.length_map, List.take_length]
  have s0 : Same H (upd H D0 (.lst ((goneOf ls (xs.map strOf)).map V.str))) := Same.upd_new hD0
  have hD1 : upd H D0 (.lst ((goneOf ls (xs.map strOf)).map V.str)) D0 = some (.lst ((goneOf ls (xs.map strOf)).map V.str)) := upd_same
  generalize upd H D0 (.lst ((goneOf ls (xs.map strOf)).map V.str)) = H1 at *
  have ok' := ok.less (xs.map strOf)
  -- the rows
  have hT1 : TableAt CT H1 p ls rs := ⟨dx, lt, sd, kt, kvs, s0 _ _ hp, s0 _ _ hlt, s0 _ _ hsd, s0 _ _ hkt, hrs.of fun b ys e => s0 _ _ e⟩
  refine ⟨_, rfl, _, rfl, p, dx, _, rfl, s0 _ _ hp, pf3_no _ _ _ rows_ne.1 rows_ne.2.1 rows_ne.2.2, p, ls, rs, rfl, hT1, ok, fun H2 l rows s1 hl hl1 hrt hdat => ?_⟩
  have hrl : rows.length = rs.length := by
    have e := congrArg List.length hdat
    rw [List.length_map, List.length_map] at e
    exact e
  refine ⟨l, rfl, ⟨_, SqL.of hl1⟩, fun D hD => lc_it (walk_list (K := K) (a := l) (xs := rows.map fun r => V.ref r.t)) (fun i H' => ∃ rows' : List RowIn, Same H2 H' ∧ H' D = some (.lst (rows'.map fun r => V.ref r.t)) ∧ (∀ r ∈ rows', RowT H' r) ∧ rows'.map RowIn.dat = (lessOf (rs.take i) (goneOf ls (xs.map strOf))).map rdat)
    ⟨[], Same.upd_new hD, upd_same, fun r hr => absurd hr (by simp), rfl⟩ (fun i H' _ ⟨_, s2, _⟩ => SqL.of (s2 _ _ hl1)) ?_ ?_⟩
  · rintro i v H3 H4 hi ⟨rows', s2, hD2, hrt', hdat'⟩ ⟨rfl, hv⟩
    have hv2 : (rows.map fun r => V.ref r.t)[i]? = some v := hv
    rw [List.getElem?_map] at hv2
    cases hri : rows[i]? with
    | none => rw [hri] at hv2; cases hv2
    | some r =>
    rw [hri] at hv2
    obtain rfl : V.ref r.t = v := Option.some.inj hv2
    have hlt2 : i < rs.length := by have := (List.getElem?_eq_some_iff.mp hri).1; omega
    have ex : r.dat = rdat rs[i] := by
      have e := congrArg (fun l => l[i]?) hdat
      simp only [List.getElem?_map, hri, List.getElem?_eq_getElem hlt2, Option.map_some] at e
      exact Option.some.inj e
    have e1 : r.look = .str rs[i].1 := congrArg Prod.fst ex
    have e2 : r.xs = rs[i].2.map V.str := congrArg Prod.snd ex
    have Rt := (hrt r (List.mem_of_getElem? hri)).of s2
    have hlen : rows'.length ≤ 24 := by
      have e := congrArg List.length hdat'
      unfold lessOf at e
      rw [List.length_map, List.length_map, List.length_map, List.length_take] at e
      have := ok.kfew
      omega
    have hsub := (ok.sub _ (List.getElem_mem hlt2)).length_le
    have hlf := ok.lfew
    refine ⟨r.t, _, rfl, SqT.of Rt.pair, rfl, _, _, rfl, _, _, rfl, rfl, rfl, _, rfl, _, rfl, _, rfl, r.s, D0, rs[i].2, goneOf ls (xs.map strOf), rfl, SqT.of (by rw [← e2]; exact Rt.tup), .inl (SqL.of ((s1.trans s2) _ _ hD1)), by omega, fun H5 c s5 hc hc5 => ?_⟩
    refine ⟨by show 2 ≤ sizeLine; decide, fun t ht => ?_⟩
    have hD5 := s5 _ _ hD2
    have ntD : D ≠ t := ne_of_none hD5 ht
    refine ⟨_, by rw [upd_ne ntD]; exact hD5, by rw [List.length_map]; exact small1000 (by omega), rows' ++ [⟨t, r.look, c, (chosen rs[i].2 (goneOf ls (xs.map strOf))).map V.str⟩], fun b o h => ?_, by rw [upd_same, List.map_append]; rfl, fun y hy => ?_, ?_⟩
    · rw [upd_ne (ne_of_none h hD), upd_ne (ne_of_none (s5 _ _ (s2 _ _ h)) ht)]
      exact s5 _ _ (s2 _ _ h)
    · have keep : ∀ {b : Addr} {ys : List V}, H5 b = some (.tup ys) → upd (upd H5 t (.tup [r.look, .ref c])) D (.lst ((rows'.map fun r => V.ref r.t) ++ [.ref t])) b = some (.tup ys) := fun {b ys} h => by
        have nD : b ≠ D := fun q => by rw [q, hD5] at h; cases h
        rw [upd_ne nD, upd_ne (ne_of_none h ht)]
        exact h
      rcases List.mem_append.mp hy with h | h
      · exact ⟨keep (s5 _ _ (hrt' y h).pair), keep (s5 _ _ (hrt' y h).tup)⟩
      · obtain rfl := List.mem_singleton.mp h
        exact ⟨by rw [upd_ne ntD.symm, upd_same], keep hc5⟩
    · unfold lessOf at hdat' ⊢
      rw [List.map_append, hdat', List.take_succ, List.getElem?_eq_getElem hlt2, List.map_append, List.map_append]
      show _ ++ [(r.look, _)] = _
      rw [e1]
      rfl
  · rintro H3 ⟨rows', s2, hD2, hrt', hdat'⟩
    rw [List.length_map, hrl, List.take_length] at hdat'
    have s02 := s0.trans (s1.trans s2)
    have hD3 := (s1.trans s2) _ _ hD1
    refine fun x dx' nx ndx nex => ?_
    have sm : Same H3 (upd (upd H3 dx' (.own x)) x (.ins CT dx' [])) := fun c o e => by
      rw [upd_ne (ne_of_none e nx), upd_ne (ne_of_none e ndx)]; exact e
    refine ⟨H3, x, dx', D0, D, (goneOf ls (xs.map strOf)).map V.str, rows', rfl, sm, nx, upd_same, .inl (SqL.of hD3), ok'.lampsNm, ?_, .inl (SqL.of hD2), rowsT_e ok' hrt' hdat', ?_, fun ls' rs' e H' s' tab => ⟨rfl, ?_⟩, fun e he => ?_⟩
    · rw [List.length_map]
      have := ok'.lfew
      omega
    · have e := congrArg List.length hdat'
      rw [List.length_map, List.length_map] at e
      have := ok'.kfew
      omega
    · rw [hdat', init_ok ok'] at e
      cases e
      exact k hu H' x (s02.trans s') (s02.free nx) tab
    · rw [hdat', init_ok ok'] at he
      cases he
end
end Dl

/-! C(e, ..) in a try's body: what the class's __init__ lets out is wished for at the caller's slots; lists of texts as data -/
namespace Dl
open PySem PySem.Spec PyProof.Rows L2
def tMakeS (C : Addr) (sp : Sp) (E : L2.St → XK) (t : TA) : TE := fun σ H Q => t σ H fun vs H1 =>
  ∀ x dx, H1 x = none → H1 dx = none → dx ≠ x → sp (.ref x :: vs) (upd (upd H1 dx (.own x)) x (.ins C dx [])) (fun v H2 => v = .non ∧ Q (.ref x) H2) (E σ)
theorem make_slots {X : Cx} {CX : CXT} {k : Nat} {f C : Addr} {fd : FuncData} {ps : List Str} {sp : Sp} {E : XK} {σ : L2.St} {pins : List (Addr × Obj)} {H : Hp} {s : Shared} {Q : VK} {us : List Value} {vs : List V}
    (M : Mk X.K C f) (F : FnOk X.prog X.w X.K X.mg X.base CX k f fd ps sp) (hr : Room (k + 1) X.A) (hb : Binds X.K fd ps []) (hx : PassesAt CX X σ E) (I : Inv X pins σ H s) (r : Vals vs us)
    (h : ∀ x dx, H x = none → H dx = none → dx ≠ x → sp (.ref x :: vs) (upd (upd H dx (.own x)) x (.ins C dx [])) (fun v H2 => v = .non ∧ Q (.ref x) H2) E) :
    wpAny (model X.prog X.w) X.A (call (.ref C) us) (EP X pins σ Q) X.xe s := by
  have at0 : H s.heap.objs.size = none := I.hok.fresh (Nat.le_refl _)
  have at1 : H (s.heap.objs.size + 1) = none := I.hok.fresh (Nat.le_succ _)
  have want := h _ _ at1 at0 (Nat.ne_of_lt (Nat.lt_succ_self _))
  have J := Inv.made (C := C) I
  have rv : Vals (V.ref (s.heap.objs.size + 1) :: vs) (Value.ref (s.heap.objs.size + 1) :: us) := .cons rfl r
  have len : (Value.ref (s.heap.objs.size + 1) :: us).length = ps.length := by rw [← rv.length]; exact F.len _ _ _ _ want
  have bind := hb _ (Value.ref (s.heap.objs.size + 1) :: us) J.kIn (by rw [List.append_nil]; exact len)
  rw [List.append_nil] at bind
  have body := F.run _ X.stack _ _ ⟨Value.ref (s.heap.objs.size + 1) :: us, []⟩ _ _ _ E (hr.make C us []) (J.env0.make C us []) bind rv want
  apply wpAny_call
  apply make_map (f := f) I.kIn M.makes M.init (beq_iff_eq.mp M.fn)
  apply codeAny_mono body
  intro out s2 hout
  match out, hout with
  | .error er, hout => exact hx pins _ _ er s2 J hout
  | .ok (.ret u), hout =>
    obtain ⟨v, H2, J2, rel, ev, q⟩ := J.after hout
    cases ev
    exact ⟨rel, V.ref (s.heap.objs.size + 1), H2, J2, rfl, q⟩
theorem pe_makeS {X : Cx} {CX : CXT} {k : Nat} {f C : Addr} {fd : FuncData} {ps : List Str} {sp : Sp} {E : L2.St → XK} {x : Str} {p pos : Pos} {e : Expr} {es : List Expr} {t : TA}
    (M : Mk X.K C f) (F : FnOk X.prog X.w X.K X.mg X.base CX k f fd ps sp) (hr : Room (k + 1) X.A) (hg : Gl X x) (hm : X.mg x = some (.ref C)) (hb : Binds X.K fd ps []) (hx : ∀ σ, PassesAt CX X σ (E σ)) (ha : PA X (e :: es) t)
    (hdb : (x == ("__debug__" : Str)) = false := by decide) (he : starEach (e :: es) X.env = (false, eval e X.env) :: starEach es X.env := by rfl) (hpl : (backTo pos (starEach es X.env)).any (·.1) = false := by rfl) :
    PE X (.Call (.Name x p) (e :: es) [] pos) (tMakeS C sp E t) := by
  constructor
  intro pins s σ H Q I h
  apply wpAny_Call_Name_kw
  apply ld_glob I hg hm _ hdb
  apply PySem.W.callWith_K (h₀ := X.base) I.ok.mod.kin M.kp _ he hpl
  apply thn (ha.run pos pins s σ H _ I h)
  rintro us s1 ⟨vs, H1, I1, r, q⟩
  exact ⟨I1.kIn, make_slots M F hr hb (hx σ) I1 r q⟩
/-! ### lists and tuples of texts as data -/
theorem canAll_strs : ∀ {zs : List Str}, (∀ z ∈ zs, PyData.canLay0 (.str z) = true) → PyData.canLayAll0 (zs.map PyData.str) = true
  | [], _ => by simp [PyData.canLayAll0]
  | z :: r, h => by
    rw [List.map_cons, PyData.canLayAll0, Bool.and_eq_true]
    exact ⟨h z (List.mem_cons_self ..), canAll_strs fun y hy => h y (List.mem_cons_of_mem _ hy)⟩
theorem depthAll_strs : ∀ zs : List Str, PyData.depthAll (zs.map PyData.str) = 0
  | [] => by simp [PyData.depthAll]
  | z :: r => by rw [List.map_cons, PyData.depthAll, depthAll_strs r]; simp [PyData.depth]
theorem shaped_strs {zs : List Str} (h : ∀ z ∈ zs, PyData.canLay0 (.str z) = true) : SeqAt.shaped (.list (zs.map PyData.str)) = true := by
  unfold SeqAt.shaped
  rw [Bool.and_eq_true, PyData.canLay0, PyData.depth, depthAll_strs]
  exact ⟨canAll_strs h, by decide⟩
theorem dpAll_strs {K : PySem.W.Frag} {H : Hp} : ∀ zs : List Str, DpAll K H (zs.map V.str) (zs.map PyData.str)
  | [] => .nil
  | z :: r => .cons (.str z) (dpAll_strs r)
theorem eqvAll_strs : ∀ zs ys : List Str, PyData.eqvAll (zs.map PyData.str) (ys.map PyData.str) = decide (zs = ys)
  | [], [] => by simp [PyData.eqvAll]
  | [], _ :: _ => by simp [PyData.eqvAll]
  | _ :: _, [] => by simp [PyData.eqvAll]
  | z :: r, y :: q => by
    rw [List.map_cons, List.map_cons, PyData.eqvAll, eqvAll_strs r q, PyData.eqv]
    by_cases h1 : z = y <;> by_cases h2 : r = q <;> simp [h1, h2]
end Dl

namespace Dl
open PySem PySem.Spec PyProof.Rows L2
/-! ### the drawn names: one to three letters, and the number of the names before where it was there -/
def LT : Str := "abcdefghijklmnopqrstuvwxyz"
def isLet (c : Nat) : Prop := 97 ≤ c ∧ c ≤ 122
def dg (n : Nat) : List Nat := (Str.ofString (toString (n : Int))).cps.toList
theorem lt_facts : ∀ c ∈ LT.cps.toList, 97 ≤ c ∧ c ≤ 122 := by decide +kernel
theorem lt_len : LT.cps.toList.length = 26 := by decide +kernel
theorem dg_facts : ∀ k, k < 25 → dg k ≠ [] ∧ (dg k).length ≤ 2 ∧ ∀ c ∈ dg k, ¬ (97 ≤ c ∧ c ≤ 122) ∧ c ∈ SG.cps.toList ∧ c < 1114112 := by decide +kernel
theorem dg_inj : ∀ j, j < 25 → ∀ k, k < 25 → dg j = dg k → j = k := by decide +kernel
theorem let_sg : ∀ c, c < 123 → 97 ≤ c → c ∈ SG.cps.toList ∧ c < 1114112 := by decide +kernel
theorem sg_small' : ∀ c ∈ SG.cps.toList, c < 1114112 := by decide +kernel
theorem nil_codes : ("" : Str).cps.toList = [] := by decide +kernel
/-- the name that was drawn as number i -/
structure NameAt (i : Nat) (z : Str) : Prop where
  ex : ∃ l : List Nat, l ≠ [] ∧ l.length ≤ 3 ∧ (∀ c ∈ l, isLet c) ∧ (z.cps.toList = l ∨ z.cps.toList = l ++ dg i)
structure NamesOk (zs : List Str) : Prop where
  at_ : ∀ i z, zs[i]? = some z → NameAt i z
  nd : zs.Nodup
  few : zs.length ≤ 24
theorem codes_ext {a b : Str} (h : a.cps.toList = b.cps.toList) : a = b := by
  cases a; cases b
  congr
  exact Array.ext' h
theorem let_dg {l l' : List Nat} {j k : Nat} (hj : j < 25) (hk : k < 25) (hl : ∀ c ∈ l, isLet c) (hl' : ∀ c ∈ l', isLet c) (h : l' ++ dg j = l ++ dg k) : j = k := by
  have tw : ∀ (m d : List Nat), (∀ c ∈ m, isLet c) → (∀ c ∈ d, ¬ isLet c) → (m ++ d).dropWhile (fun c => decide (97 ≤ c ∧ c ≤ 122)) = d := by
    intro m
    induction m with
    | nil =>
      intro d _ hd
      cases d with
      | nil => rfl
      | cons a r =>
        have q : ¬ (97 ≤ a ∧ a ≤ 122) := hd a (List.mem_cons_self ..)
        simp only [List.nil_append, List.dropWhile]
        rw [decide_eq_false q]
    | cons a r ih =>
      intro d hm hd
      have q : 97 ≤ a ∧ a ≤ 122 := hm a (List.mem_cons_self ..)
      rw [List.cons_append, List.dropWhile, decide_eq_true q]
      exact ih d (fun c hc => hm c (List.mem_cons_of_mem _ hc)) hd
  have e := congrArg (List.dropWhile fun c => decide (97 ≤ c ∧ c ≤ 122)) h
  rw [tw l' (dg j) hl' fun c hc => ((dg_facts j hj).2.2 c hc).1, tw l (dg k) hl fun c hc => ((dg_facts k hk).2.2 c hc).1] at e
  exact dg_inj j hj k hk e
theorem fresh_tail {zs : List Str} {l : List Nat} {z : Str} (ok : NamesOk zs) (h23 : zs.length ≤ 23) (hl : ∀ c ∈ l, isLet c) (hz : z.cps.toList = l ++ dg zs.length) : z ∉ zs := by
  intro hm
  obtain ⟨i, hi⟩ := List.getElem?_of_mem hm
  have hlt : i < zs.length := (List.getElem?_eq_some_iff.mp hi).1
  obtain ⟨l', _, _, hl', e⟩ := (ok.at_ i z hi).ex
  rcases e with e | e
  · rw [hz] at e
    have d := dg_facts zs.length (by omega)
    cases hd : dg zs.length with
    | nil => exact d.1 hd
    | cons c r =>
      have m1 : c ∈ l' := by rw [← e, hd]; simp
      have m2 : c ∈ dg zs.length := by rw [hd]; simp
      exact (d.2.2 c m2).1 (hl' c m1)
  · rw [hz] at e
    have := let_dg (by omega) (by omega) hl hl' e.symm
    omega
theorem NameAt.sg {i : Nat} {z : Str} (h : NameAt i z) (hi : i < 25) : (∀ c ∈ z.cps.toList, c ∈ SG.cps.toList) ∧ 1 ≤ z.length ∧ z.length ≤ 5 := by
  obtain ⟨l, h1, h2, h3, h4⟩ := h.ex
  have zl : z.length = z.cps.toList.length := by simp [Str.length]
  have l1 : 1 ≤ l.length := by cases l with | nil => exact absurd rfl h1 | cons _ _ => simp
  have d := dg_facts i hi
  rcases h4 with e | e
  · refine ⟨fun c hc => ?_, by rw [zl, e]; exact l1, by rw [zl, e]; omega⟩
    rw [e] at hc
    exact (let_sg c (by have := (h3 c hc).2; omega) (h3 c hc).1).1
  · refine ⟨fun c hc => ?_, by rw [zl, e, List.length_append]; omega, by rw [zl, e, List.length_append]; omega⟩
    rw [e] at hc
    rcases List.mem_append.mp hc with hc | hc
    · exact (let_sg c (by have := (h3 c hc).2; omega) (h3 c hc).1).1
    · exact (d.2.2 c hc).2.1
theorem NameAt.valid {i : Nat} {z : Str} (h : NameAt i z) (hi : i < 25) : validN z = true := by
  obtain ⟨h1, h2, h3⟩ := h.sg hi
  unfold validN
  rw [decide_eq_true h2, decide_eq_true (show z.length ≤ 12 by omega), List.all_eq_true.mpr fun c hc => decide_eq_true (h1 c hc)]
  rfl
theorem NamesOk.valid {zs : List Str} (ok : NamesOk zs) {z : Str} (hz : z ∈ zs) : validN z = true := by
  obtain ⟨i, hi⟩ := List.getElem?_of_mem hz
  have hlt : i < zs.length := (List.getElem?_eq_some_iff.mp hi).1
  exact (ok.at_ i z hi).valid (by have := ok.few; omega)
theorem valid_small {z : Str} (h : validN z = true) : z.length ≤ 12 ∧ (∀ c ∈ z.cps.toList, c < 1114112) := by
  unfold validN at h
  simp only [Bool.and_eq_true, decide_eq_true_eq] at h
  exact ⟨h.2.1, fun c hc => sg_small' c (of_decide_eq_true (List.all_eq_true.mp h.2.2 c hc))⟩
/-- everything but the bag at b stands -/
def SameB (b : Addr) (H H' : Hp) : Prop := ∀ c o, c ≠ b → H c = some o → H' c = some o
theorem SameB.refl (b : Addr) (H : Hp) : SameB b H H := fun _ _ _ h => h
theorem SameB.trans {b : Addr} {H H1 H2 : Hp} (s : SameB b H H1) (t : SameB b H1 H2) : SameB b H H2 := fun c o n h => t c o n (s c o n h)
theorem SameB.upd {b : Addr} {H : Hp} {o : HO} : SameB b H (upd H b o) := fun c u n h => by rw [upd_ne n]; exact h
theorem SameB.of {b : Addr} {H H' : Hp} (s : Same H H') : SameB b H H' := fun c o _ h => s c o h
theorem SameB.free {b : Addr} {H H' : Hp} (s : SameB b H H') {c : Addr} (n : c ≠ b) (h : H' c = none) : H c = none := by
  cases e : H c with
  | none => rfl
  | some o => rw [s c o n e] at h; cases h
theorem upd_none {H : Hp} {b c : Addr} {o : HO} (h : upd H b o c = none) : H c = none ∧ c ≠ b := by
  by_cases e : c = b
  · subst e; rw [upd_same] at h; cases h
  · rw [upd_ne e] at h; exact ⟨h, e⟩
structure TxtM (mg : Str → Option Value) : Prop where
  range : mg "range" = none
  len : mg "len" = none
  str : mg "str" = none
def spName : Sp := fun vs H Q _ => ∃ (b u : Addr) (L : List Int) (zs : List Str), vs = [.ref b, .ref u] ∧ H b = some (.lst (L.map V.int)) ∧ BagOk L ∧ u ≠ b ∧ H u = some (.lst (zs.map V.str)) ∧ NamesOk zs ∧ zs.length ≤ 23 ∧
  ∀ (L' : List Int) (z : Str), BagOk L' → NameAt zs.length z → z ∉ zs → Q (.str z) (upd H b (.lst (L'.map V.int)))
def spNames : Sp := fun vs H Q _ => ∃ (b : Addr) (L : List Int) (n : Int), vs = [.ref b, .int n] ∧ H b = some (.lst (L.map V.int)) ∧ BagOk L ∧ 0 ≤ n ∧ n ≤ 24 ∧
  ∀ (H' : Hp) (u : Addr) (L' : List Int) (zs : List Str), SameB b H H' → H u = none → H' u = some (.lst (zs.map V.str)) → H' b = some (.lst (L'.map V.int)) → BagOk L' → NamesOk zs → zs.length = n.toNat → Q (.ref u) H'
theorem cat_codes (a b : Str) : (a ++ b).cps.toList = a.cps.toList ++ b.cps.toList := by
  show (a.cps ++ b.cps).toList = _
  simp
theorem cat_len (a b : Str) : (a ++ b).length = a.length + b.length := by
  show (a.cps ++ b.cps).size = _
  rw [Array.size_append]
  rfl
section
variable {P : Program} {w : World} {K : PySem.W.Frag} {mg : Str → Option Value} {base : Heap}
theorem scName : FnScope ["_law_bag_here", "_law_used", "_law_letters", "_law_name_here", "_law_k"] ["_law_bag_here", "_law_used"] (defScope sLawName) := ⟨rfl, rfl, rfl, by decide +kernel, rfl, by decide +kernel, by decide +kernel⟩
theorem ok_name {f : Addr} {fd : FuncData} (F : Fun K "_law_name" "_law_name" sLawName f fd) (T : TxtM mg) (gT : Dfn P w K mg base CX0 1 "_law_take" ["_law_bag_here", "_law_size"] spTake) :
    FnOk P w K mg base CX0 2 f fd ["_law_bag_here", "_law_used"] spName := by
  obtain ⟨fT, dT, mT, kT, bT, GT⟩ := gT
  refine F.ok scName (fun vs H Q E h => ?_) (fun cdv A outer s H vs Q E hr h => ?_)
  · obtain ⟨a, u, L, zs, rfl, _⟩ := h
    rfl
  · obtain ⟨b, u, L, zs, rfl, hb, hok, hub, hu, ok, hlen, k⟩ := h
    have hr1 : Room 1 _ := hr
    refine ⟨_, (pss_cons (ps_set (i := 2) scName.nd rfl (Or.inl rfl) pe_str)
        (pss_cons (ps_set (i := 3) scName.nd rfl (Or.inl rfl) pe_str)
        (pss_cons (ps_for PassesOwn.never rfl (pi_range1 (by rfl) T.range (pa_cons (pe_op op_add pe_int (pe_call GT hr1 (by rfl) mT kT bT .nil pass0 (pa_cons (pv 0) (pa_cons pe_int pa_nil)))) pa_nil)) (pg_name (i := 4) scName.nd rfl (Or.inl rfl)) (pss_one (ps_set (i := 3) scName.nd rfl (Or.inl rfl) (pe_op op_add_str (pv 3) (pe_ix ix_str (pv 2) (pe_call GT hr1 (by rfl) mT kT bT .nil pass0 (pa_cons (pv 0) (pa_cons pe_int pa_nil))) (fun _ _ => rfl))))))
        (pss_cons (ps_if (pt_cmpR op_in_seq (pv 3) (pv 1) (by rfl)) (pss_one (ps_set (i := 3) scName.nd rfl (Or.inl rfl) (pe_op op_add_str (pv 3) (pe_callTy call_str_int (by rfl) T.str (by decide +kernel) (pa_cons (pe_callB call_len_seq (by rfl) T.len PySem.boot_len (pa_cons (pv 1) pa_nil)) pa_nil))))) pss_nil)
        (pss_one (ps_ret (pv 3))))))), ?_⟩
    refine ⟨_, rfl, b, L, 3, rfl, hb, hok, by decide, by decide, fun L1 r ok1 r0 r1 => ⟨_, _, rfl, rfl, _, rfl, by omega, by omega, for_range (n := (1 + r).toNat) (lo := 0)
      (fun i σ H' => ∃ (z : Str) (x : Option V) (L2 : List Int), σ = [some (.ref b), some (.ref u), some (.str LT), some (.str z), x] ∧ H' = upd H b (.lst (L2.map V.int)) ∧ BagOk L2 ∧ z.cps.toList.length = i ∧ ∀ c ∈ z.cps.toList, isLet c)
      ⟨_, none, L1, rfl, rfl, ok1, by decide +kernel, fun c hc => absurd hc (by rw [nil_codes]; exact List.not_mem_nil)⟩ ?_ ?_⟩⟩
    · rintro i σ H2 hi ⟨z, x, L2, rfl, rfl, ok2, hz, hzc⟩
      refine ⟨_, rfl, _, rfl, _, rfl, b, L2, 26, rfl, upd_same, ok2, by decide, by decide, fun L3 q ok3 q0 q1 => ?_⟩
      have hq3 : q.toNat < LT.cps.toList.length := by rw [lt_len]; omega
      refine ⟨LT, q, LT.cps.toList[q.toNat], rfl, rfl, by decide +kernel, ?_, ?_⟩
      · have e := atI_nat (xs := LT.cps.toList) (j := q.toNat) (List.getElem?_eq_getElem hq3)
        rw [Int.toNat_of_nonneg q0] at e
        exact e
      · have ez : z.length = i := hz
        refine ⟨z, _, rfl, rfl, ?_, ?_⟩
        · rw [ez]
          exact Nat.le_of_lt (small1000 (by show i + 1 ≤ 1000; omega))
        · refine ⟨_, _, L3, rfl, upd_upd, ok3, ?_, ?_⟩
          · rw [cat_codes, List.length_append, hz]
            rfl
          · intro c hc
            rw [cat_codes] at hc
            rcases List.mem_append.mp hc with h | h
            · exact hzc c h
            · obtain rfl : c = LT.cps.toList[q.toNat] := by simpa using h
              exact lt_facts _ (List.getElem_mem hq3)
    · rintro σ H2 ⟨z, x, L2, rfl, rfl, ok2, hz, hzc⟩
      have zl : z.length = (1 + r).toNat := hz
      have hne : z.cps.toList ≠ [] := by
        intro e
        rw [e] at hz
        simp at hz
        omega
      have at0 : NameAt zs.length z := ⟨z.cps.toList, hne, by omega, hzc, .inl rfl⟩
      refine ⟨_, rfl, _, rfl, u, _, rfl, .inl (SqL.of (by rw [upd_ne hub]; exact hu)), rfl, flat_strs zs, _, rfl, ?_⟩
      show if (inV (.str z) (zs.map V.str)) = true then _ else _
      rw [inV_str]
      by_cases hm : z ∈ zs
      · rw [decide_eq_true hm]
        refine iteT ⟨_, rfl, _, rfl, u, _, rfl, .inl (SqL.of (by rw [upd_ne hub]; exact hu)), _, rfl, ?_, z, _, rfl, rfl, ?_, _, rfl, ?_⟩
        · rw [List.length_map]
          have : ((zs.length : Nat) : Int).natAbs = zs.length := by simp
          rw [this]
          exact Nat.lt_of_le_of_lt (Nat.log2_le_self _) (by omega)
        · have d := (dg_facts zs.length (by omega)).2.1
          have e : (Str.ofString (toString ((((zs.map V.str).length : Nat) : Int)))).length = (dg zs.length).length := by
            rw [List.length_map]
            simp [dg, Str.length]
          show z.length + (Str.ofString (toString ((((zs.map V.str).length : Nat) : Int)))).length ≤ sizeLine
          rw [e, zl]
          exact Nat.le_of_lt (small1000 (by omega))
        · have ez : (z ++ (Str.ofString (toString ((((zs.map V.str).length : Nat) : Int))))).cps.toList = z.cps.toList ++ dg zs.length := by
            rw [cat_codes, List.length_map]
            rfl
          exact k L2 _ ok2 ⟨z.cps.toList, hne, by omega, hzc, .inr ez⟩ (fresh_tail ok hlen hzc ez)
      · rw [decide_eq_false hm]
        exact iteF ⟨_, rfl, k L2 z ok2 at0 hm⟩
theorem scNames : FnScope ["_law_bag_here", "_law_count", "_law_names_here", "_law_k"] ["_law_bag_here", "_law_count"] (defScope sLawNames) := ⟨rfl, rfl, rfl, by decide +kernel, rfl, by decide +kernel, by decide +kernel⟩
theorem ok_names {f : Addr} {fd : FuncData} (F : Fun K "_law_names" "_law_names" sLawNames f fd) (T : TxtM mg) (gN : Dfn P w K mg base CX0 2 "_law_name" ["_law_bag_here", "_law_used"] spName) :
    FnOk P w K mg base CX0 3 f fd ["_law_bag_here", "_law_count"] spNames := by
  obtain ⟨fNm, dNm, mNm, kNm, bNm, GNm⟩ := gN
  refine F.ok scNames (fun vs H Q E h => ?_) (fun cdv A outer s H vs Q E hr h => ?_)
  · obtain ⟨a, L, n, rfl, _⟩ := h
    rfl
  · obtain ⟨b, L, n, rfl, hb, hok, hn0, hn1, k⟩ := h
    have hr2 : Room 2 _ := hr
    refine ⟨_, (pss_cons (ps_set (i := 2) scNames.nd rfl (Or.inl rfl) (pe_lst pa_nil))
        (pss_cons (ps_for PassesOwn.never rfl (pi_range1 (by rfl) T.range (pa_cons (pv 1) pa_nil)) (pg_name (i := 3) scNames.nd rfl (Or.inl rfl)) (pss_one (ps_expr (pe_bm PySem.F.plainAttrs_list PySem.F.slot_list_append PySem.F.type_list_append mt_append (pv 2) (pa_cons (pe_call GNm hr2 (by rfl) mNm kNm bNm .nil pass0 (pa_cons (pv 0) (pa_cons (pv 2) pa_nil))) pa_nil)))))
        (pss_one (ps_ret (pv 2))))), ?_⟩
    refine ⟨Nat.zero_le _, fun u hu => ?_⟩
    have nub : u ≠ b := fun e => by rw [e, hb] at hu; cases hu
    refine ⟨_, rfl, _, rfl, by omega, by omega, for_range (n := n.toNat) (lo := 0)
      (fun i σ H' => ∃ (zs : List Str) (x : Option V) (L2 : List Int), σ = [some (.ref b), some (.int n), some (.ref u), x] ∧ SameB b H H' ∧ H' b = some (.lst (L2.map V.int)) ∧ BagOk L2 ∧ H' u = some (.lst (zs.map V.str)) ∧ NamesOk zs ∧ zs.length = i)
      ⟨[], none, L, rfl, SameB.of (Same.upd_new hu), by rw [upd_ne nub.symm]; exact hb, hok, upd_same, ⟨fun i z h => by simp at h, by simp, by simp⟩, rfl⟩ ?_ ?_⟩
    · rintro i σ H2 hi ⟨zs, x, L2, rfl, s2, hb2, ok2, hu2, okz, hz⟩
      refine ⟨_, rfl, .inl ⟨rfl, _, SqL.of hu2⟩, _, rfl, _, rfl, b, u, L2, zs, rfl, hb2, ok2, nub, hu2, okz, by omega, fun L3 z ok3 hat hnz => ?_⟩
      refine ⟨u, _, _, rfl, rfl, by rw [upd_ne nub]; exact hu2, ?_, ?_⟩
      · rw [List.length_map]
        exact small1000 (by omega)
      · refine ⟨zs ++ [z], _, L3, rfl, fun c o n h => ?_, ?_, ok3, ?_, ⟨fun j y h => ?_, ?_, ?_⟩, ?_⟩
        · have ncu : c ≠ u := ne_of_none h hu
          rw [upd_ne ncu, upd_ne n]
          exact s2 c o n h
        · rw [upd_ne nub.symm, upd_same]
        · rw [upd_same, List.map_append]
          rfl
        · by_cases hj : j < zs.length
          · rw [List.getElem?_append_left hj] at h
            exact okz.at_ j y h
          · rw [List.getElem?_append_right (by omega)] at h
            have hj0 : j - zs.length = 0 := by
              have := (List.getElem?_eq_some_iff.mp h).1
              simp at this
              omega
            rw [hj0] at h
            obtain rfl : z = y := by simpa using h
            have : j = zs.length := by omega
            rw [this]
            exact hat
        · rw [List.nodup_append]
          refine ⟨okz.nd, by simp, fun a ha c hc => ?_⟩
          obtain rfl := List.mem_singleton.mp hc
          exact fun e => hnz (e ▸ ha)
        · rw [List.length_append]
          simp
          omega
        · rw [List.length_append, hz]
          rfl
    · rintro σ H2 ⟨zs, x, L2, rfl, s2, hb2, ok2, hu2, okz, hz⟩
      exact ⟨_, rfl, k H2 u L2 zs s2 hu hu2 hb2 ok2 okz hz⟩
end
end Dl

namespace Dl
open PySem PySem.Spec PyProof.Rows L2
/-! ### texts: what is a valid name -/
theorem len_pos {z : Str} (h : ¬ z = ("" : Str)) : 1 ≤ z.length := by
  have e0 : ("" : Str) = ⟨#[]⟩ := by decide +kernel
  cases z with
  | mk cps =>
    by_cases q : cps.size = 0
    · exfalso
      apply h
      rw [e0, Array.eq_empty_of_size_eq_zero q]
    · show 1 ≤ cps.size
      omega
theorem valid_of {z : Str} (h1 : 1 ≤ z.length) (h : ∀ c ∈ z.cps.toList, c ∈ SG.cps.toList) : validN z = decide (z.length ≤ 12) := by
  unfold validN
  rw [decide_eq_true h1, List.all_eq_true.mpr fun c hc => decide_eq_true (h c hc)]
  simp
theorem invalid_of {z : Str} {c : Nat} (hc : c ∈ z.cps.toList) (h : c ∉ SG.cps.toList) : validN z = false := by
  unfold validN
  have q : (z.cps.toList.all fun c => decide (c ∈ SG.cps.toList)) = false := by
    rw [List.all_eq_false]
    exact ⟨c, hc, by simpa using h⟩
  rw [q]
  simp
end Dl

namespace Dl
open PySem PySem.Spec PyProof.Rows L2
/-! ### names and texts as data -/
def canS (z : Str) : Prop := PyData.canLay0 (.str z) = true
theorem can_of {z : Str} (h : ∀ c ∈ z.cps.toList, c < 1114112) : canS z := by
  unfold canS PyData.canLay0 PyData.strOk
  rw [Array.all_eq_true]
  intro i hi
  exact decide_eq_true (h _ (by simp))
/-- a value that is passed as a name, as data -/
def NmD (H : Hp) : V → Prop
  | .str z => canS z ∧ z.length ≤ 1000
  | .int _ => True
  | .non => True
  | .ref p => ∃ zs : List Str, H p = some (.lst (zs.map V.str)) ∧ ∀ z ∈ zs, canS z
  | _ => False
theorem NmD.ok {H : Hp} {v : V} (h : NmD H v) : NmOk H v := by
  cases v with
  | str z => exact Nat.le_of_lt (small1000 h.2)
  | int i => trivial
  | non => trivial
  | ref p => obtain ⟨zs, e, _⟩ := h; exact ⟨_, e⟩
  | bl _ => exact h.elim
  | byt _ => exact h.elim
  | flt _ => exact h.elim
  | ty _ => exact h.elim
theorem NmD.of {H H' : Hp} {v : V} (s : Same H H') (h : NmD H v) : NmD H' v := by
  cases v with
  | str z => exact h
  | int i => trivial
  | non => trivial
  | ref p => obtain ⟨zs, e, q⟩ := h; exact ⟨zs, s _ _ e, q⟩
  | bl _ => exact h.elim
  | byt _ => exact h.elim
  | flt _ => exact h.elim
  | ty _ => exact h.elim
theorem any_str (es : List Str) (y : Str) : (es.map PyData.str).any (fun z => PyData.eqv z (.str y)) = decide (y ∈ es) := by
  rw [List.any_map]
  induction es with
  | nil => simp
  | cons a r ih =>
    rw [List.any_cons, ih]
    show (PyData.eqv (.str a) (.str y) || decide (y ∈ r)) = _
    rw [PyData.eqv]
    by_cases h : a = y
    · subst h; simp
    · have h2 : ¬ y = a := fun q => h q.symm
      simp [h, h2]
theorem any_no (es : List Str) {d : PyData} (h : ∀ z : Str, PyData.eqv (.str z) d = false) : (es.map PyData.str).any (fun z => PyData.eqv z d) = false := by
  rw [List.any_map, List.any_eq_false]
  intro z _
  show ¬ PyData.eqv (.str z) d = true
  rw [h z]
  decide
/-- the data of a name -/
theorem NmD.dat (K : PySem.W.Frag) {H : Hp} {v : V} (h : NmD H v) : ∃ d, Dp K H v d ∧ PyData.canLay0 d = true ∧ d.depth ≤ 1 ∧ ∀ es : List Str, (es.map PyData.str).any (fun z => PyData.eqv z d) = knows v es := by
  cases v with
  | str z => exact ⟨.str z, .str z, h.1, by simp [PyData.depth], fun es => any_str es z⟩
  | int i => exact ⟨.int i, .int i, by simp [PyData.canLay0], by simp [PyData.depth], fun es => any_no es fun z => by rw [PyData.eqv]⟩
  | non => exact ⟨.none, .non, by simp [PyData.canLay0], by simp [PyData.depth], fun es => any_no es fun z => by rw [PyData.eqv]⟩
  | ref p =>
    obtain ⟨zs, e, q⟩ := h
    refine ⟨.list (zs.map PyData.str), .lst (SqL.of e) (dpAll_strs zs), ?_, ?_, fun es => any_no es fun z => by rw [PyData.eqv]⟩
    · rw [PyData.canLay0]; exact canAll_strs q
    · rw [PyData.depth, depthAll_strs]; decide
  | bl _ => exact h.elim
  | byt _ => exact h.elim
  | flt _ => exact h.elim
  | ty _ => exact h.elim
theorem shaped_of {d : PyData} (h : PyData.canLay0 d = true) (h2 : d.depth ≤ 1) : SeqAt.shaped d = true := by
  unfold SeqAt.shaped
  rw [h, Bool.true_and]
  exact decide_eq_true (by omega)
theorem room65 {k : Nat} {A : Around} (r : Room k A) : A.units + 65 < cLine := by
  have := r.un
  omega
theorem valid_can {z : Str} (h : validN z = true) : canS z := can_of (valid_small h).2
end Dl

namespace Dl
open PySem PySem.Spec PyProof.Rows L2
/-! ### drawn rows: a list of pairs of a look and a list of some of the lamps -/
def BagIn (H : Hp) (b : Addr) : Prop := ∃ L : List Int, H b = some (.lst (L.map V.int)) ∧ BagOk L
theorem BagIn.lst {H : Hp} {b : Addr} (h : BagIn H b) : ∃ xs, H b = some (.lst xs) := let ⟨L, e, _⟩ := h; ⟨_, e⟩
theorem BagIn.upd {H : Hp} {b : Addr} {L : List Int} (h : BagOk L) : BagIn (upd H b (.lst (L.map V.int))) b := ⟨L, upd_same, h⟩
theorem BagIn.of {H H' : Hp} {b : Addr} (s : Same H H') (h : BagIn H b) : BagIn H' b := let ⟨L, e, o⟩ := h; ⟨L, s _ _ e, o⟩
structure RowD (b : Addr) (lamps : List Str) (H : Hp) (r : RowIn) : Prop where
  look : ∃ k, r.look = .str k
  pair : H r.t = some (.tup [r.look, .ref r.s])
  ns : r.s ≠ b
  lst : H r.s = some (.lst r.xs)
  sub : ∃ sh : List Str, r.xs = sh.map V.str ∧ sh.Sublist lamps
theorem ne_tup_lst {H : Hp} {a c : Addr} {xs ys : List V} (h1 : H a = some (.tup xs)) (h2 : H c = some (.lst ys)) : a ≠ c := fun e => by
  rw [e, h2] at h1; cases h1
theorem RowD.of {b : Addr} {lamps : List Str} {H H' : Hp} {r : RowIn} (hb : ∃ xs, H b = some (.lst xs)) (s : SameB b H H') (h : RowD b lamps H r) : RowD b lamps H' r :=
  ⟨h.look, s _ _ (let ⟨_, e⟩ := hb; ne_tup_lst h.pair e) h.pair, h.ns, s _ _ h.ns h.lst, h.sub⟩
def refsOf (rows : List RowIn) : List V := rows.map fun r => V.ref r.t
/-- the rows stand at R -/
structure RowsD (b : Addr) (lamps ks : List Str) (H : Hp) (R : Addr) (rows : List RowIn) : Prop where
  nR : R ≠ b
  lst : H R = some (.lst (refsOf rows))
  all : ∀ r ∈ rows, RowD b lamps H r
  looks : rows.map (·.look) = ks.map V.str
theorem RowsD.of {b : Addr} {lamps ks : List Str} {H H' : Hp} {R : Addr} {rows : List RowIn} (hb : ∃ xs, H b = some (.lst xs)) (s : SameB b H H') (h : RowsD b lamps ks H R rows) : RowsD b lamps ks H' R rows :=
  ⟨h.nR, s _ _ h.nR h.lst, fun r hr => (h.all r hr).of hb s, h.looks⟩
theorem RowsD.length {b : Addr} {lamps ks : List Str} {H : Hp} {R : Addr} {rows : List RowIn} (h : RowsD b lamps ks H R rows) : rows.length = ks.length := by
  have q := congrArg List.length h.looks
  rw [List.length_map, List.length_map] at q
  exact q
/-- a draw keeps everything but the bag -/
theorem draw_same {b : Addr} {H : Hp} {L : List Int} : SameB b H (upd H b (.lst (L.map V.int))) := SameB.upd
def spRows3 : Sp := fun vs H Q _ => ∃ (b a c : Addr) (ls ks : List Str), vs = [.ref b, .ref a, .ref c] ∧ BagIn H b ∧ a ≠ b ∧ c ≠ b ∧ H a = some (.lst (ls.map V.str)) ∧ H c = some (.lst (ks.map V.str)) ∧ ls.length ≤ 24 ∧ ks.length ≤ 24 ∧
  ∀ (H' : Hp) (R : Addr) (rows : List RowIn), SameB b H H' → BagIn H' b → RowsD b ls ks H' R rows → Q (.ref R) H'
theorem map_at {α β : Type} {l : List α} {f : α → β} {i : Nat} {v : β} (h : (l.map f)[i]? = some v) : ∃ x, l[i]? = some x ∧ v = f x := by
  rw [List.getElem?_map] at h
  cases e : l[i]? with
  | none => rw [e] at h; cases h
  | some x => rw [e] at h; exact ⟨x, rfl, (Option.some.inj h).symm⟩
theorem take_at {α : Type} {l : List α} {i : Nat} {x : α} (h : l[i]? = some x) : l.take (i + 1) = l.take i ++ [x] := by
  rw [List.take_succ, h]
  rfl
theorem sub_short {b : Addr} {lamps : List Str} {H : Hp} {r : RowIn} (h : RowD b lamps H r) (n : Nat) (hn : lamps.length ≤ n) : r.xs.length ≤ n := by
  obtain ⟨sh, e, s⟩ := h.sub
  rw [e, List.length_map]
  exact Nat.le_trans s.length_le hn
section
variable {P : Program} {w : World} {K : PySem.W.Frag} {mg : Str → Option Value} {base : Heap}
theorem scFree : FnScope ["_law_bag_here", "_law_lamps", "_law_looks", "_law_rows_here", "_law_look", "_law_shown", "_law_lamp"] ["_law_bag_here", "_law_lamps", "_law_looks"] (defScope sLawFreeRows) := ⟨rfl, rfl, rfl, by decide +kernel, rfl, by decide +kernel, by decide +kernel⟩
theorem ok_free {f : Addr} {fd : FuncData} (F : Fun K "_law_free_rows" "_law_free_rows" sLawFreeRows f fd) (gT : Dfn P w K mg base CX0 1 "_law_take" ["_law_bag_here", "_law_size"] spTake) :
    FnOk P w K mg base CX0 2 f fd ["_law_bag_here", "_law_lamps", "_law_looks"] spRows3 := by
  obtain ⟨fT, dT, mT, kT, bT, GT⟩ := gT
  refine F.ok scFree (fun vs H Q E h => ?_) (fun cdv A outer s H vs Q E hr h => ?_)
  · obtain ⟨a, b, c, ls, ks, rfl, _⟩ := h
    rfl
  · obtain ⟨b, a, c, ls, ks, rfl, hb, hab, hcb, ha, hc, hll, hkl, k⟩ := h
    have hr1 : Room 1 _ := hr
    refine ⟨_, (pss_cons (ps_set (i := 3) scFree.nd rfl (Or.inl rfl) (pe_lst pa_nil))
        (pss_cons (ps_for PassesOwn.never rfl (pi_list (pv 2)) (pg_name (i := 4) scFree.nd rfl (Or.inl rfl)) (pss_cons (ps_set (i := 5) scFree.nd rfl (Or.inl rfl) (pe_lst pa_nil))
        (pss_cons (ps_for PassesOwn.never rfl (pi_list (pv 1)) (pg_name (i := 6) scFree.nd rfl (Or.inl rfl)) (pss_one (ps_if (pt_cmpR op_eq (pe_call GT hr1 (by rfl) mT kT bT .nil pass0 (pa_cons (pv 0) (pa_cons pe_int pa_nil))) pe_int (nomark _)) (pss_one (ps_expr (pe_bm PySem.F.plainAttrs_list PySem.F.slot_list_append PySem.F.type_list_append mt_append (pv 5) (pa_cons (pv 6) pa_nil)))) pss_nil)))
        (pss_one (ps_expr (pe_bm PySem.F.plainAttrs_list PySem.F.slot_list_append PySem.F.type_list_append mt_append (pv 3) (pa_cons (pe_tup (pa_cons (pv 4) (pa_cons (pv 5) pa_nil))) pa_nil)))))))
        (pss_one (ps_ret (pv 3))))), ?_⟩
    refine ⟨Nat.zero_le _, fun R hR => ?_⟩
    obtain ⟨xb, hxb⟩ := hb.lst
    have nRb : R ≠ b := fun e => by rw [e, hxb] at hR; cases hR
    have s0 : Same H (upd H R (.lst [])) := Same.upd_new hR
    refine ⟨_, rfl, c, rfl, ⟨_, SqL.of (s0 _ _ hc)⟩, for_it (walk_list (K := K) (a := c) (xs := ks.map V.str)) (fun i σ H' => ∃ (x4 x5 x6 : Option V) (rows : List RowIn), σ = [some (.ref b), some (.ref a), some (.ref c), some (.ref R), x4, x5, x6] ∧
        SameB b H H' ∧ BagIn H' b ∧ H' R = some (.lst (refsOf rows)) ∧ (∀ r ∈ rows, RowD b ls H' r ∧ r.s ≠ R) ∧ rows.map (·.look) = (ks.take i).map V.str)
      ⟨none, none, none, [], rfl, SameB.of s0, hb.of s0, upd_same, fun r hr => absurd hr (by simp), rfl⟩ (fun i σ H' _ ⟨_, _, _, _, _, s1, _⟩ => SqL.of (s1 _ _ hcb hc)) ?_ ?_⟩
    · rintro i v σ H1 H2 hi ⟨x4, x5, x6, rows, rfl, s1, hb1, hR1, hrs, hlk⟩ ⟨rfl, hv⟩
      obtain ⟨z, hz, rfl⟩ := map_at hv
      refine ⟨Nat.zero_le _, fun u hu => ?_⟩
      have s2 : Same H2 (upd H2 u (.lst [])) := Same.upd_new hu
      obtain ⟨xb1, hxb1⟩ := hb1.lst
      have nub : u ≠ b := fun e => by rw [e, hxb1] at hu; cases hu
      refine ⟨_, rfl, a, rfl, ⟨_, SqL.of (s2 _ _ (s1 _ _ hab ha))⟩, for_it (walk_list (K := K) (a := a) (xs := ls.map V.str)) (fun j σ H' => ∃ (x6 : Option V) (sh : List Str), σ = [some (.ref b), some (.ref a), some (.ref c), some (.ref R), some (.str z), some (.ref u), x6] ∧
          SameB b H2 H' ∧ BagIn H' b ∧ H' u = some (.lst (sh.map V.str)) ∧ sh.Sublist (ls.take j))
        ⟨x6, [], rfl, SameB.of s2, hb1.of s2, upd_same, List.nil_sublist _⟩ (fun j σ H' _ ⟨_, _, _, s3, _⟩ => SqL.of (s3 _ _ hab (s1 _ _ hab ha))) ?_ ?_⟩
      · rintro j y σ H3 H4 hj ⟨x6', sh, rfl, s3, ⟨L3, hb3, ok3⟩, hu3, hsub⟩ ⟨rfl, hy⟩
        obtain ⟨l, hl, rfl⟩ := map_at hy
        refine ⟨_, rfl, b, L3, 2, rfl, hb3, ok3, by decide, by decide, fun L4 r ok4 r0 r1 => ⟨rfl, _, rfl, ?_⟩⟩
        have hlen : sh.length ≤ 24 := Nat.le_trans hsub.length_le (Nat.le_trans (by rw [List.length_take]; omega) hll)
        refine ite2 (fun _ => ?_) (fun _ => ?_)
        · refine ⟨_, rfl, .inl ⟨rfl, _, SqL.of (by rw [upd_ne nub]; exact hu3)⟩, _, rfl, u, _, _, rfl, rfl, by rw [upd_ne nub]; exact hu3, ?_, ?_⟩
          · rw [List.length_map]
            exact small1000 (by omega)
          · refine ⟨_, sh ++ [l], rfl, fun d o n h => ?_, ?_, ?_, ?_⟩
            · rw [upd_ne (ne_of_none h hu), upd_ne n]
              exact s3 d o n h
            · exact ⟨L4, by rw [upd_ne nub.symm, upd_same], ok4⟩
            · rw [upd_same, List.map_append]; rfl
            · rw [take_at hl]
              exact hsub.append (List.Sublist.refl _)
        · refine ⟨_, sh, rfl, s3.trans draw_same, BagIn.upd ok4, by rw [upd_ne nub]; exact hu3, ?_⟩
          rw [take_at hl]
          exact hsub.trans (List.sublist_append_left _ _)
      · rintro σ H3 ⟨x6', sh, rfl, s3, hb3, hu3, hsub⟩
        rw [List.length_map, List.take_length] at hsub
        have hR3 := s3 _ _ nRb hR1
        have nuR : u ≠ R := fun e => by rw [e, hR1] at hu; cases hu
        refine ⟨_, rfl, .inl ⟨rfl, _, SqL.of hR3⟩, _, rfl, _, rfl, by show 2 ≤ sizeLine; decide, fun t ht => ?_⟩
        have ntR : R ≠ t := ne_of_none hR3 ht
        have htl : refsOf rows = (refsOf rows) := rfl
        have hrl : rows.length ≤ 24 := by
          have q := congrArg List.length hlk
          rw [List.length_map, List.length_map, List.length_take] at q
          omega
        refine ⟨R, _, _, rfl, rfl, by rw [upd_ne ntR]; exact hR3, ?_, ?_⟩
        · unfold refsOf
          rw [List.length_map]
          exact small1000 (by omega)
        · have s4 : SameB b H3 (upd H3 t (.tup [.str z, .ref u])) := SameB.of (Same.upd_new ht)
          have ntb : b ≠ t := by obtain ⟨x, hx⟩ := hb3.lst; exact ne_of_none hx ht
          have keepR : ∀ {d : Addr} {o : HO}, d ≠ R → upd H3 t (.tup [.str z, .ref u]) d = some o → upd (upd H3 t (.tup [.str z, .ref u])) R (.lst (refsOf rows ++ [.ref t])) d = some o := fun n h => by
            rw [upd_ne n]; exact h
          refine ⟨_, _, _, rows ++ [⟨t, .str z, u, sh.map V.str⟩], rfl, fun d o n h => ?_, ?_, ?_, fun r hr => ?_, ?_⟩
          · have ndR : d ≠ R := ne_of_none h hR
            exact keepR ndR (s4 _ _ n (s3 _ _ n (s1 _ _ n h)))
          · obtain ⟨L3, e3, o3⟩ := hb3
            exact ⟨L3, keepR nRb.symm (by rw [upd_ne ntb]; exact e3), o3⟩
          · rw [upd_same]
            unfold refsOf
            rw [List.map_append]
            rfl
          · rcases List.mem_append.mp hr with h | h
            · obtain ⟨D, nsR⟩ := hrs r h
              have D4 := (D.of hb1.lst s3).of hb3.lst s4
              exact ⟨⟨D4.look, keepR (ne_tup_lst D.pair hR1) D4.pair, D4.ns, keepR nsR D4.lst, D4.sub⟩, nsR⟩
            · obtain rfl := List.mem_singleton.mp h
              have hu4 : upd H3 t (.tup [.str z, .ref u]) u = some (.lst (sh.map V.str)) := by rw [upd_ne (ne_of_none hu3 ht)]; exact hu3
              exact ⟨⟨⟨z, rfl⟩, keepR ntR.symm upd_same, nub, keepR nuR hu4, ⟨sh, rfl, hsub⟩⟩, nuR⟩
          · rw [List.map_append, hlk, take_at hz, List.map_append]
            rfl
    · rintro σ H1 ⟨x4, x5, x6, rows, rfl, s1, hb1, hR1, hrs, hlk⟩
      rw [List.length_map, List.take_length] at hlk
      exact ⟨_, rfl, k H1 R rows s1 hb1 ⟨nRb, hR1, fun r hr => (hrs r hr).1, hlk⟩⟩
end
end Dl

namespace Dl
open PySem PySem.Spec PyProof.Rows L2
structure TxtR (mg : Str → Option Value) : Prop where
  range : mg "range" = none
  len : mg "len" = none
  list : mg "list" = none
theorem atI0 {α : Type} {xs : List α} {i : Nat} {v : α} (h : xs[i]? = some v) : atI xs (0 + (i : Int)) = some v := by
  rw [Int.zero_add]
  exact atI_nat h
structure EndsD (H : Hp) (e : Addr × Int × Int) : Prop where
  at_ : H e.1 = some (.tup [.int e.2.1, .int e.2.2])
section
variable {P : Program} {w : World} {K : PySem.W.Frag} {mg : Str → Option Value} {base : Heap}
theorem scPlanted : FnScope ["_law_bag_here", "_law_lamps", "_law_looks", "_law_settings", "_law_look", "_law_ends", "_law_lamp", "_law_low", "_law_rows_here", "_law_k", "_law_shown", "_law_j"] ["_law_bag_here", "_law_lamps", "_law_looks"] (defScope sLawPlantedRows) := ⟨rfl, rfl, rfl, by decide +kernel, rfl, by decide +kernel, by decide +kernel⟩
theorem ok_planted {f : Addr} {fd : FuncData} (F : Fun K "_law_planted_rows" "_law_planted_rows" sLawPlantedRows f fd) (T : TxtR mg) (gT : Dfn P w K mg base CX0 1 "_law_take" ["_law_bag_here", "_law_size"] spTake) :
    FnOk P w K mg base CX0 2 f fd ["_law_bag_here", "_law_lamps", "_law_looks"] spRows3 := by
  obtain ⟨fT, dT, mT, kT, bT, GT⟩ := gT
  refine F.ok scPlanted (fun vs H Q E h => ?_) (fun cdv A outer s H vs Q E hr h => ?_)
  · obtain ⟨a, b, c, ls, ks, rfl, _⟩ := h
    rfl
  · obtain ⟨b, a, c, ls, ks, rfl, hb, hab, hcb, ha, hc, hll, hkl, k⟩ := h
    have hr1 : Room 1 _ := hr
    refine ⟨_, (pss_cons (ps_set (i := 3) scPlanted.nd rfl (Or.inr rfl) (pe_lst pa_nil))
        (pss_cons (ps_for PassesOwn.never rfl (pi_list (pv 2)) (pg_name (i := 4) scPlanted.nd rfl (Or.inl rfl)) (pss_one (ps_expr (pe_bm PySem.F.plainAttrs_list PySem.F.slot_list_append PySem.F.type_list_append mt_append (pv 3) (pa_cons (pe_call GT hr1 (by rfl) mT kT bT .nil pass0 (pa_cons (pv 0) (pa_cons pe_int pa_nil))) pa_nil)))))
        (pss_cons (ps_set (i := 5) scPlanted.nd rfl (Or.inr rfl) (pe_lst pa_nil))
        (pss_cons (ps_for PassesOwn.never rfl (pi_list (pv 1)) (pg_name (i := 6) scPlanted.nd rfl (Or.inl rfl)) (pss_cons (ps_set (i := 7) scPlanted.nd rfl (Or.inl rfl) (pe_call GT hr1 (by rfl) mT kT bT .nil pass0 (pa_cons (pv 0) (pa_cons pe_int pa_nil))))
        (pss_one (ps_expr (pe_bm PySem.F.plainAttrs_list PySem.F.slot_list_append PySem.F.type_list_append mt_append (pv 5) (pa_cons (pe_tup (pa_cons (pv 7) (pa_cons (pe_op op_sub (pe_op op_add (pv 7) (pe_call GT hr1 (by rfl) mT kT bT .nil pass0 (pa_cons (pv 0) (pa_cons pe_int pa_nil)))) pe_int) pa_nil))) pa_nil))))))
        (pss_cons (ps_set (i := 8) scPlanted.nd rfl (Or.inl rfl) (pe_lst pa_nil))
        (pss_cons (ps_for PassesOwn.never rfl (pi_range1 (by rfl) T.range (pa_cons (pe_callB call_len_seq (by rfl) T.len PySem.boot_len (pa_cons (pv 2) pa_nil)) pa_nil)) (pg_name (i := 9) scPlanted.nd rfl (Or.inr rfl)) (pss_cons (ps_setLc (i := 10) (own := [("_law_j", 11)]) (g := gName 11) rfl scPlanted.nd rfl rfl (sw_true rfl rfl rfl (by decide +kernel)) (pi_range1 (by rfl) T.range (pa_cons (pe_callB call_len_seq (by rfl) T.len PySem.boot_len (pa_cons (pv 1) pa_nil)) pa_nil)) (blkOk_by (N := ["_law_bag_here", "_law_lamps", "_law_looks", "_law_settings", "_law_look", "_law_ends", "_law_lamp", "_law_low", "_law_rows_here", "_law_k", "_law_shown", "_law_j"]) (sc := defScope sLawPlantedRows) (by decide +kernel)) (fun _ _ _ _ _ => (pg_name (i := 11) scPlanted.nd rfl (Or.inl rfl))) (fun _ _ _ _ _ => (pts_one (PW.pt (pw_and (pt_cmpR op_le (pe_ix (by exact ix_tup : IxR _ (rIxT K)) (pe_ix (by exact ix_list : IxR _ (rIxL K)) (pv 5) (pv 11) (fun _ _ => rfl)) pe_int (fun _ _ => rfl)) (pe_ix (by exact ix_list : IxR _ (rIxL K)) (pv 3) (pv 9) (fun _ _ => rfl)) (nomark _)) (pw_and1 (pt_cmpR op_le (pe_ix (by exact ix_list : IxR _ (rIxL K)) (pv 3) (pv 9) (fun _ _ => rfl)) (pe_ix (by exact ix_tup : IxR _ (rIxT K)) (pe_ix (by exact ix_list : IxR _ (rIxL K)) (pv 5) (pv 11) (fun _ _ => rfl)) pe_int (fun _ _ => rfl)) (nomark _))))))) (fun _ _ _ _ _ => (pe_ix (by exact ix_list : IxR _ (rIxL K)) (pv 1) (pv 11) (fun _ _ => rfl))))
        (pss_one (ps_expr (pe_bm PySem.F.plainAttrs_list PySem.F.slot_list_append PySem.F.type_list_append mt_append (pv 8) (pa_cons (pe_tup (pa_cons (pe_ix ix_list (pv 2) (pv 9) (fun _ _ => rfl)) (pa_cons (pv 10) pa_nil))) pa_nil))))))
        (pss_one (ps_ret (pv 8))))))))), ?_⟩
    -- settings
    refine ⟨Nat.zero_le _, fun st hst => ?_⟩
    obtain ⟨xb, hxb⟩ := hb.lst
    have nsb : st ≠ b := fun e => by rw [e, hxb] at hst; cases hst
    have s0 : Same H (upd H st (.lst [])) := Same.upd_new hst
    refine ⟨_, rfl, c, rfl, ⟨_, SqL.of (s0 _ _ hc)⟩, for_it (walk_list (K := K) (a := c) (xs := ks.map V.str)) (fun i σ H' => ∃ (x4 : Option V) (S : List Int), σ = [some (.ref b), some (.ref a), some (.ref c), some (.ref st), x4, none, none, none, none, none, none, none] ∧
        SameB b H H' ∧ BagIn H' b ∧ H' st = some (.lst (S.map V.int)) ∧ S.length = i)
      ⟨none, [], rfl, SameB.of s0, hb.of s0, upd_same, rfl⟩ (fun i σ H' _ ⟨_, _, _, s1, _⟩ => SqL.of (s1 _ _ hcb hc)) ?_ ?_⟩
    · rintro i v σ H1 H2 hi ⟨x4, S, rfl, s1, ⟨L1, hb1, ok1⟩, hS, hlS⟩ ⟨rfl, hv⟩
      rw [List.length_map] at hi
      refine ⟨_, rfl, .inl ⟨rfl, _, SqL.of hS⟩, _, rfl, b, L1, 9, rfl, hb1, ok1, by decide, by decide, fun L2 r ok2 r0 r1 => ?_⟩
      refine ⟨st, _, _, rfl, rfl, by rw [upd_ne nsb]; exact hS, ?_, ?_⟩
      · rw [List.length_map]
        exact small1000 (by omega)
      · refine ⟨_, S ++ [r], rfl, fun d o n h => ?_, ⟨L2, by rw [upd_ne nsb.symm, upd_same], ok2⟩, by rw [upd_same, List.map_append]; rfl, by rw [List.length_append, hlS]; rfl⟩
        rw [upd_ne (ne_of_none h hst), upd_ne n]
        exact s1 d o n h
    rintro σ H1 ⟨x4, S, rfl, s1, hb1, hS, hlS⟩
    rw [List.length_map] at hlS
    -- ends
    refine ⟨Nat.zero_le _, fun en hen => ?_⟩
    obtain ⟨xb1, hxb1⟩ := hb1.lst
    have neb : en ≠ b := fun e => by rw [e, hxb1] at hen; cases hen
    have s2 : Same H1 (upd H1 en (.lst [])) := Same.upd_new hen
    refine ⟨_, rfl, a, rfl, ⟨_, SqL.of (s2 _ _ (s1 _ _ hab ha))⟩, for_it (walk_list (K := K) (a := a) (xs := ls.map V.str)) (fun i σ H' => ∃ (x6 x7 : Option V) (es : List (Addr × Int × Int)),
        σ = [some (.ref b), some (.ref a), some (.ref c), some (.ref st), x4, some (.ref en), x6, x7, none, none, none, none] ∧
        SameB b H1 H' ∧ BagIn H' b ∧ H' en = some (.lst (es.map fun e => V.ref e.1)) ∧ (∀ e ∈ es, EndsD H' e) ∧ es.length = i)
      ⟨none, none, [], rfl, SameB.of s2, hb1.of s2, upd_same, fun e he => absurd he (by simp), rfl⟩ (fun i σ H' _ ⟨_, _, _, _, s3, _⟩ => SqL.of (s3 _ _ hab (s1 _ _ hab ha))) ?_ ?_⟩
    · rintro i v σ H2 H3 hi ⟨x6, x7, es, rfl, s3, ⟨L3, hb3, ok3⟩, hE, hes, hle⟩ ⟨rfl, hv⟩
      rw [List.length_map] at hi
      refine ⟨_, rfl, b, L3, 9, rfl, hb3, ok3, by decide, by decide, fun L4 lo ok4 lo0 lo1 => ?_⟩
      refine ⟨_, rfl, .inl ⟨rfl, _, SqL.of (by rw [upd_ne neb]; exact hE)⟩, _, rfl, _, rfl, _, rfl, b, L4, 7, rfl, upd_same, ok4, by decide, by decide, fun L5 q ok5 q0 q1 => ?_⟩
      refine ⟨_, _, rfl, rfl, _, _, rfl, rfl, by show 2 ≤ sizeLine; decide, fun t ht => ?_⟩
      obtain ⟨ht0, ntb⟩ := upd_none ht
      have ht1 : H3 t = none := (upd_none ht0).1
      have net : en ≠ t := ne_of_none hE ht1
      refine ⟨en, _, _, rfl, rfl, by rw [upd_ne net, upd_ne neb, upd_ne neb]; exact hE, ?_, ?_⟩
      · rw [List.length_map]
        exact small1000 (by omega)
      · have keep : ∀ {d : Addr} {o : HO}, d ≠ b → d ≠ en → H3 d = some o → upd (upd (upd (upd H3 b (.lst (L4.map V.int))) b (.lst (L5.map V.int))) t (.tup [.int lo, .int (lo + q - 1)])) en (.lst ((es.map fun e => V.ref e.1) ++ [.ref t])) d = some o := fun nb ne h => by
          rw [upd_ne ne, upd_ne (ne_of_none h ht1), upd_ne nb, upd_ne nb]; exact h
        refine ⟨_, _, es ++ [(t, lo, lo + q - 1)], rfl, fun d o n h => ?_, ⟨L5, ?_, ok5⟩, ?_, fun e he => ?_, by rw [List.length_append, hle]; rfl⟩
        · exact keep n (ne_of_none h hen) (s3 d o n h)
        · rw [upd_ne neb.symm, upd_ne ntb.symm, upd_same]
        · rw [upd_same, List.map_append]; rfl
        · rcases List.mem_append.mp he with h | h
          · have q := (hes e h).at_
            exact ⟨keep (ne_tup_lst q hb3) (ne_tup_lst q hE) q⟩
          · obtain rfl := List.mem_singleton.mp h
            exact ⟨by rw [upd_ne net.symm, upd_same]⟩
    rintro σ H2 ⟨x6, x7, es, rfl, s3, hb3, hE, hes, hle⟩
    rw [List.length_map] at hle
    have s13 : SameB b H H2 := s1.trans s3
    have ha2 := s13 _ _ hab ha
    have hc2 := s13 _ _ hcb hc
    have hS2 := s3 _ _ nsb hS
    -- rows
    refine ⟨Nat.zero_le _, fun R hR => ?_⟩
    obtain ⟨xb3, hxb3⟩ := hb3.lst
    have nRb : R ≠ b := fun e => by rw [e, hxb3] at hR; cases hR
    have s4 : Same H2 (upd H2 R (.lst [])) := Same.upd_new hR
    refine ⟨_, rfl, c, _, rfl, .inl (SqL.of (s4 _ _ hc2)), _, rfl, by omega, by rw [List.length_map]; omega, for_range (n := (((ks.map V.str).length : Nat) : Int).toNat) (lo := 0) (fun i σ H' => ∃ (x9 x10 : Option V) (rows : List RowIn),
        σ = [some (.ref b), some (.ref a), some (.ref c), some (.ref st), x4, some (.ref en), x6, x7, some (.ref R), x9, x10, none] ∧
        Same H2 H' ∧ H' R = some (.lst (refsOf rows)) ∧ (∀ r ∈ rows, RowD b ls H' r ∧ r.s ≠ R) ∧ rows.map (·.look) = (ks.take i).map V.str)
      ⟨none, none, [], rfl, s4, upd_same, fun r hr => absurd hr (by simp), rfl⟩ ?_ ?_⟩
    · rintro i σ H3 hi ⟨x9, x10, rows, rfl, s5, hR3, hrs, hlk⟩
      have hik : i < ks.length := by
        rw [List.length_map] at hi
        omega
      have hSi : (S.map V.int)[i]? = some (.int S[i]) := by rw [List.getElem?_map, List.getElem?_eq_getElem (by omega)]; rfl
      have hki : (ks.map V.str)[i]? = some (.str ks[i]) := by rw [List.getElem?_map, List.getElem?_eq_getElem hik]; rfl
      refine ⟨_, rfl, a, _, rfl, .inl (SqL.of (s5 _ _ ha2)), _, rfl, by omega, by rw [List.length_map]; omega, fun D hD => lc_range (lo := 0) (n := (((ls.map V.str).length : Nat) : Int).toNat) (fun j H' => ∃ sh : List Str, H' = upd H3 D (.lst (sh.map V.str)) ∧ sh.Sublist (ls.take j)) ⟨[], rfl, List.nil_sublist _⟩ ?_ ?_⟩
      · rintro j H4 hj ⟨sh, rfl, hsub⟩
        have s6 : Same H3 (upd H3 D (.lst (sh.map V.str))) := Same.upd_new hD
        have s56 := s5.trans s6
        have hjl : j < ls.length := by
          rw [List.length_map] at hj
          omega
        have hje : j < es.length := by omega
        have hEj : (es.map fun e => V.ref e.1)[j]? = some (.ref es[j].1) := by rw [List.getElem?_map, List.getElem?_eq_getElem hje]; rfl
        have hEt := s56 _ _ (hes _ (List.getElem_mem hje)).at_
        have hlj : (ls.map V.str)[j]? = some (.str ls[j]) := by rw [List.getElem?_map, List.getElem?_eq_getElem hjl]; rfl
        have grow : sh.Sublist (ls.take (j + 1)) ∧ (sh ++ [ls[j]]).Sublist (ls.take (j + 1)) := by
          rw [take_at (List.getElem?_eq_getElem hjl)]
          exact ⟨hsub.trans (List.sublist_append_left _ _), hsub.append (List.Sublist.refl _)⟩
        have hlen : sh.length ≤ 24 := Nat.le_trans hsub.length_le (Nat.le_trans (by rw [List.length_take]; omega) hll)
        refine ⟨rfl, _, rfl, _, rfl, en, _, _, _, rfl, rfl, SqL.of (s56 _ _ hE), atI0 hEj, es[j].1, _, 0, _, rfl, rfl, SqT.of hEt, rfl, _, rfl, _, rfl, st, _, _, _, rfl, rfl, SqL.of (s56 _ _ hS2), atI0 hSi, _, _, rfl, rfl, _, rfl, ?_⟩
        refine ite2 (fun _ => ?_) (fun _ => ?_)
        · refine ⟨_, rfl, _, rfl, st, _, _, _, rfl, rfl, SqL.of (s56 _ _ hS2), atI0 hSi, _, rfl, _, rfl, en, _, _, _, rfl, rfl, SqL.of (s56 _ _ hE), atI0 hEj, es[j].1, _, 1, _, rfl, rfl, SqT.of hEt, rfl, _, _, rfl, rfl, _, rfl, ?_⟩
          refine ite2 (fun _ => ?_) (fun _ => ?_)
          · refine ⟨_, rfl, _, rfl, a, _, _, _, rfl, rfl, SqL.of (s56 _ _ ha2), atI0 hlj, _, upd_same, ?_, sh ++ [ls[j]], ?_, grow.2⟩
            · rw [List.length_map]
              exact small1000 (by omega)
            · rw [upd_upd, List.map_append]; rfl
          · exact ⟨sh, rfl, grow.1⟩
        · exact ⟨sh, rfl, grow.1⟩
      · rintro H4 ⟨sh, rfl, hsub⟩
        have hsub' : sh.Sublist ls := hsub.trans (List.take_sublist _ _)
        have s6 : Same H3 (upd H3 D (.lst (sh.map V.str))) := Same.upd_new hD
        have s56 := s5.trans s6
        have nRD : R ≠ D := ne_of_none hR3 hD
        refine ⟨_, rfl, .inl ⟨rfl, _, SqL.of (s6 _ _ hR3)⟩, _, rfl, _, rfl, c, _, _, _, rfl, rfl, SqL.of (s56 _ _ hc2), atI0 hki, _, rfl, by show 2 ≤ sizeLine; decide, fun t ht => ?_⟩
        have ht' : upd H3 D (.lst (sh.map V.str)) t = none := ht
        have s7 : Same (upd H3 D (.lst (sh.map V.str))) (upd (upd H3 D (.lst (sh.map V.str))) t (.tup [.str ks[i], .ref D])) := Same.upd_new ht'
        have ntR : R ≠ t := ne_of_none (s6 _ _ hR3) ht'
        have hrl : rows.length ≤ 24 := by
          have q := congrArg List.length hlk
          rw [List.length_map, List.length_map, List.length_take] at q
          omega
        refine ⟨R, _, _, rfl, rfl, s7 _ _ (s6 _ _ hR3), ?_, ?_⟩
        · unfold refsOf
          rw [List.length_map]
          exact small1000 (by omega)
        · have keepR : ∀ {d : Addr} {o : HO}, d ≠ R → upd (upd H3 D (.lst (sh.map V.str))) t (.tup [.str ks[i], .ref D]) d = some o → upd (upd (upd H3 D (.lst (sh.map V.str))) t (.tup [.str ks[i], .ref D])) R (.lst (refsOf rows ++ [.ref t])) d = some o := fun n h => by
            rw [upd_ne n]; exact h
          have nDb : D ≠ b := fun e => by rw [e, s5 _ _ hxb3] at hD; cases hD
          refine ⟨_, _, rows ++ [⟨t, .str ks[i], D, sh.map V.str⟩], rfl, fun d o h => ?_, ?_, fun r hr => ?_, ?_⟩
          · exact keepR (ne_of_none h hR) (s7 _ _ (s56 _ _ h))
          · rw [upd_same]
            unfold refsOf
            rw [List.map_append]
            rfl
          · rcases List.mem_append.mp hr with h | h
            · obtain ⟨Dr, nsR⟩ := hrs r h
              have s67 := s6.trans s7
              exact ⟨⟨Dr.look, keepR (ne_tup_lst Dr.pair hR3) (s67 _ _ Dr.pair), Dr.ns, keepR nsR (s67 _ _ Dr.lst), Dr.sub⟩, nsR⟩
            · obtain rfl := List.mem_singleton.mp h
              exact ⟨⟨⟨ks[i], rfl⟩, keepR ntR.symm upd_same, nDb, keepR nRD.symm (s7 _ _ upd_same), ⟨sh, rfl, hsub'⟩⟩, nRD.symm⟩
          · rw [List.map_append, hlk, take_at (List.getElem?_eq_getElem hik), List.map_append]
            rfl
    · rintro σ H3 ⟨x9, x10, rows, rfl, s5, hR3, hrs, hlk⟩
      have q : (((ks.map V.str).length : Nat) : Int).toNat = ks.length := by rw [List.length_map]; omega
      rw [q, List.take_length] at hlk
      exact ⟨_, rfl, k H3 R rows (s13.trans (SameB.of s5)) (hb3.of s5) ⟨nRb, hR3, fun r hr => (hrs r hr).1, hlk⟩⟩
end
end Dl

namespace Dl
open PySem PySem.Spec PyProof.Rows L2
theorem cut_drop (xs : List V) (i : Nat) : cutV xs (some (i : Int)) none = xs.drop i := by
  unfold cutV
  rw [HT.sIx_nat, HT.sIx_none]
  by_cases h : i ≤ xs.length
  · rw [Nat.min_eq_left h, List.take_of_length_le (by rw [List.length_drop]; omega)]
  · rw [Nat.min_eq_right (by omega), List.drop_eq_nil_of_le (Nat.le_refl _), List.drop_eq_nil_of_le (by omega)]
    simp
/-- the data of rows -/
theorem RowD.dat (K : PySem.W.Frag) {b : Addr} {ls : List Str} {H : Hp} {r : RowIn} (h : RowD b ls H r) (hl : ∀ z ∈ ls, canS z) (hk : ∀ k, r.look = .str k → canS k) : ∃ d, Dp K H (.ref r.t) d ∧ PyData.canLay0 d = true ∧ d.depth ≤ 2 := by
  obtain ⟨k, ek⟩ := h.look
  obtain ⟨sh, es, hs⟩ := h.sub
  have hsh : ∀ z ∈ sh, PyData.canLay0 (.str z) = true := fun z hz => hl z (hs.subset hz)
  refine ⟨.tuple [.str k, .list (sh.map PyData.str)], .tup (SqT.of h.pair) (.cons (by rw [ek]; exact .str k) (.cons (.lst (SqL.of h.lst) (by rw [es]; exact dpAll_strs sh)) .nil)), ?_, ?_⟩
  · rw [PyData.canLay0, PyData.canLayAll0, PyData.canLayAll0, PyData.canLayAll0, show PyData.canLay0 (.str k) = true from hk k ek, PyData.canLay0, canAll_strs hsh]
    rfl
  · simp only [PyData.depth, PyData.depthAll, depthAll_strs]
    decide
theorem rows_dat (K : PySem.W.Frag) {b : Addr} {ls : List Str} {H : Hp} (hl : ∀ z ∈ ls, canS z) : ∀ {rows : List RowIn}, (∀ r ∈ rows, RowD b ls H r ∧ ∀ k, r.look = .str k → canS k) →
    ∃ ds, DpAll K H (refsOf rows) ds ∧ ds.length = rows.length ∧ PyData.canLayAll0 ds = true ∧ PyData.depthAll ds ≤ 2
  | [], _ => ⟨[], .nil, rfl, by simp [PyData.canLayAll0], by simp [PyData.depthAll]⟩
  | r :: q, h => by
    obtain ⟨ds, h1, h2, h3, h4⟩ := rows_dat K hl (rows := q) fun x hx => h x (List.mem_cons_of_mem _ hx)
    obtain ⟨R, hk⟩ := h r (List.mem_cons_self ..)
    obtain ⟨d, d1, d2, d3⟩ := R.dat K hl hk
    refine ⟨d :: ds, .cons d1 h1, by rw [List.length_cons, List.length_cons, h2], ?_, ?_⟩
    · rw [PyData.canLayAll0, d2, h3]; rfl
    · rw [PyData.depthAll]; omega
theorem shaped_list {ds : List PyData} (h1 : PyData.canLayAll0 ds = true) (h2 : PyData.depthAll ds ≤ 2) : SeqAt.shaped (.list ds) = true := by
  unfold SeqAt.shaped
  rw [PyData.canLay0, h1, Bool.true_and, PyData.depth]
  exact decide_eq_true (by omega)
theorem eqv_nil {ds : List PyData} : PyData.eqv (.list ds) (.list []) = decide (ds = []) := by
  cases ds with
  | nil => simp [PyData.eqv, PyData.eqvAll]
  | cons _ _ => simp [PyData.eqv, PyData.eqvAll]
theorem looks_can {b : Addr} {ls ks : List Str} {H : Hp} {R : Addr} {rows : List RowIn} (h : RowsD b ls ks H R rows) (hk : ∀ z ∈ ks, canS z) {r : RowIn} (hr : r ∈ rows) : ∀ k, r.look = .str k → canS k := fun k e => by
  have m : r.look ∈ ks.map V.str := by rw [← h.looks]; exact List.mem_map_of_mem hr
  obtain ⟨z, hz, ez⟩ := List.mem_map.mp m
  rw [e] at ez
  cases ez
  exact hk _ hz
def spFlip : Sp := fun vs H Q _ => ∃ (b a R : Addr) (ls ks : List Str) (rows : List RowIn), vs = [.ref b, .ref a, .ref R] ∧ BagIn H b ∧ a ≠ b ∧ H a = some (.lst (ls.map V.str)) ∧ RowsD b ls ks H R rows ∧ (∀ z ∈ ls, canS z) ∧ (∀ z ∈ ks, canS z) ∧ ls.length ≤ 24 ∧ ks.length ≤ 24 ∧
  ∀ (H' : Hp) (R' : Addr) (rows' : List RowIn), SameB b H H' → BagIn H' b → RowsD b ls ks H' R' rows' → Q (.ref R') H'
def spRows3c : Sp := fun vs H Q _ => ∃ (b a c : Addr) (ls ks : List Str), vs = [.ref b, .ref a, .ref c] ∧ BagIn H b ∧ a ≠ b ∧ c ≠ b ∧ H a = some (.lst (ls.map V.str)) ∧ H c = some (.lst (ks.map V.str)) ∧ (∀ z ∈ ls, canS z) ∧ (∀ z ∈ ks, canS z) ∧ ls.length ≤ 24 ∧ ks.length ≤ 24 ∧
  ∀ (H' : Hp) (R : Addr) (rows : List RowIn), SameB b H H' → BagIn H' b → RowsD b ls ks H' R rows → Q (.ref R) H'
section
variable {P : Program} {w : World} {K : PySem.W.Frag} {mg : Str → Option Value} {base : Heap}
theorem scFlip : FnScope ["_law_bag_here", "_law_lamps", "_law_rows_here", "_law_spot", "_law_lamp", "_law_old", "_law_new", "_law_one"] ["_law_bag_here", "_law_lamps", "_law_rows_here"] (defScope sLawFlipped) := ⟨rfl, rfl, rfl, by decide +kernel, rfl, by decide +kernel, by decide +kernel⟩
theorem ok_flip {f : Addr} {fd : FuncData} (F : Fun K "_law_flipped" "_law_flipped" sLawFlipped f fd) (T : TxtR mg) (gT : Dfn P w K mg base CX0 1 "_law_take" ["_law_bag_here", "_law_size"] spTake) :
    FnOk P w K mg base CX0 2 f fd ["_law_bag_here", "_law_lamps", "_law_rows_here"] spFlip := by
  obtain ⟨fT, dT, mT, kT, bT, GT⟩ := gT
  refine F.ok scFlip (fun vs H Q E h => ?_) (fun cdv A outer s H vs Q E hr h => ?_)
  · obtain ⟨a, b, c, ls, ks, rows, rfl, _⟩ := h
    rfl
  · obtain ⟨b, a, R, ls, ks, rows, rfl, hb, hab, ha, hR, hlc, hkc, hll, hkl, k⟩ := h
    have hr1 : Room 1 _ := hr
    have hrl := hR.length
    refine ⟨_, (pss_cons (ps_if (PW.pt (pw_or (pt_cmpR (op_eqD hr.units) (pv 1) (pe_lst pa_nil) (nomark _)) (pw_or1 (pt_cmpR (op_eqD hr.units) (pv 2) (pe_lst pa_nil) (nomark _))))) (pss_one (ps_ret (pv 2))) pss_nil)
        (pss_cons (ps_set (i := 3) scFlip.nd rfl (Or.inl rfl) (pe_call GT hr1 (by rfl) mT kT bT .nil pass0 (pa_cons (pv 0) (pa_cons (pe_callB call_len_seq (by rfl) T.len PySem.boot_len (pa_cons (pv 2) pa_nil)) pa_nil))))
        (pss_cons (ps_set (i := 4) scFlip.nd rfl (Or.inr rfl) (pe_ix ix_list (pv 1) (pe_call GT hr1 (by rfl) mT kT bT .nil pass0 (pa_cons (pv 0) (pa_cons (pe_callB call_len_seq (by rfl) T.len PySem.boot_len (pa_cons (pv 1) pa_nil)) pa_nil))) (fun _ _ => rfl)))
        (pss_cons (ps_set (i := 5) scFlip.nd rfl (Or.inr rfl) (pe_ix ix_tup (pe_ix ix_list (pv 2) (pv 3) (fun _ _ => rfl)) pe_int (fun _ _ => rfl)))
        (pss_cons (ps_setLc (i := 6) (own := [("_law_one", 7)]) (g := gName 7) rfl scFlip.nd rfl rfl (sw_true rfl rfl rfl (by decide +kernel)) (pi_list (pv 1)) (blkOk_by (N := ["_law_bag_here", "_law_lamps", "_law_rows_here", "_law_spot", "_law_lamp", "_law_old", "_law_new", "_law_one"]) (sc := defScope sLawFlipped) (by decide +kernel)) (fun _ _ _ _ _ => (pg_name (i := 7) scFlip.nd rfl (Or.inl rfl))) (fun _ _ _ _ _ => (pts_one (pt_cmpR op_ne (pe_cmpR (by exact op_in_seq : OpR _ _ (rIn K false)) (pv 7) (pv 5) (by rfl)) (pe_cmpR op_eq (pv 7) (pv 4) (nomark _)) (nomark _)))) (fun _ _ _ _ _ => (pv 7)))
        (pss_one (ps_ret (pe_op op_cat (pe_op op_cat (pe_slice sl_list (pv 2) po_none (po_some (pv 3))) (pe_lst (pa_cons (pe_tup (pa_cons (pe_ix ix_tup (pe_ix ix_list (pv 2) (pv 3) (fun _ _ => rfl)) pe_int (fun _ _ => rfl)) (pa_cons (pv 6) pa_nil))) pa_nil))) (pe_slice sl_list (pv 2) (po_some (pe_op op_add (pv 3) pe_int)) po_none))))))))), ?_⟩
    refine ⟨_, rfl, Nat.zero_le _, fun e1 he1 => ?_⟩
    have s1 : Same H (upd H e1 (.lst [])) := Same.upd_new he1
    refine ⟨.list (ls.map PyData.str), .list [], .lst (SqL.of (s1 _ _ ha)) (dpAll_strs ls), .lst (SqL.of upd_same) .nil, shaped_strs hlc, shaped_list (by simp [PyData.canLayAll0]) (by simp [PyData.depthAll]), _, rfl, ?_⟩
    rw [eqv_nil]
    refine ite2 (fun _ => ⟨_, rfl, k _ R rows (SameB.of s1) (hb.of s1) (hR.of hb.lst (SameB.of s1))⟩) (fun c1 => ?_)
    have hls0 : ls ≠ [] := by simpa using c1
    have hlp : 1 ≤ ls.length := by cases ls with | nil => exact absurd rfl hls0 | cons _ _ => simp
    refine ⟨_, rfl, Nat.zero_le _, fun e2 he2 => ?_⟩
    have s2' : Same (upd H e1 (.lst [])) (upd (upd H e1 (.lst [])) e2 (.lst [])) := Same.upd_new he2
    have s2 := s1.trans s2'
    have hR2 := hR.of hb.lst (SameB.of s2)
    obtain ⟨ds, hd1, hd2, hd3, hd4⟩ := rows_dat K hlc (rows := rows) (H := upd (upd H e1 (.lst [])) e2 (.lst [])) fun r hr => ⟨hR2.all r hr, looks_can hR hkc hr⟩
    refine ⟨.list ds, .list [], .lst (SqL.of hR2.lst) hd1, .lst (SqL.of upd_same) .nil, shaped_list hd3 hd4, shaped_list (by simp [PyData.canLayAll0]) (by simp [PyData.depthAll]), _, rfl, ?_⟩
    rw [eqv_nil]
    refine ite2 (fun _ => ⟨_, rfl, k _ R rows (SameB.of s2) (hb.of s2) hR2⟩) (fun c2 => ?_)
    have hds0 : ds ≠ [] := by simpa using c2
    have hrp : 1 ≤ rows.length := by rw [← hd2]; cases ds with | nil => exact absurd rfl hds0 | cons _ _ => simp
    generalize upd (upd H e1 (.lst [])) e2 (.lst []) = H2 at *
    have ha2 := s2 _ _ ha
    have hb2 := hb.of s2
    obtain ⟨L2, hbl2, ok2⟩ := hb2
    have hlen : (refsOf rows).length = rows.length := by unfold refsOf; rw [List.length_map]
    refine ⟨_, rfl, _, rfl, R, _, rfl, .inl (SqL.of hR2.lst), b, L2, _, rfl, hbl2, ok2, by rw [hlen]; omega, by rw [hlen]; omega, fun L3 q ok3 q0 q1 => ?_⟩
    obtain ⟨q, rfl⟩ := Int.eq_ofNat_of_zero_le q0
    rw [hlen] at q1
    refine ⟨_, rfl, _, rfl, _, rfl, a, _, rfl, .inl (SqL.of (by rw [upd_ne hab]; exact ha2)), b, L3, _, rfl, upd_same, ok3, by rw [List.length_map]; omega, by rw [List.length_map]; omega, fun L4 p ok4 p0 p1 => ?_⟩
    obtain ⟨p, rfl⟩ := Int.eq_ofNat_of_zero_le p0
    rw [List.length_map] at p1
    rw [upd_upd]
    have hpl : p < ls.length := by omega
    have hqr : q < rows.length := by omega
    have s4 : SameB b H2 (upd H2 b (.lst (L4.map V.int))) := draw_same
    have hb4 : BagIn (upd H2 b (.lst (L4.map V.int))) b := BagIn.upd ok4
    have hR4 := hR2.of ⟨_, hbl2⟩ s4
    have ha4 := s4 _ _ hab ha2
    have s04 : SameB b H (upd H2 b (.lst (L4.map V.int))) := (SameB.of s2).trans s4
    generalize upd H2 b (.lst (L4.map V.int)) = H4 at *
    have hRq : (refsOf rows)[q]? = some (.ref rows[q].t) := by unfold refsOf; rw [List.getElem?_map, List.getElem?_eq_getElem hqr]; rfl
    have Dq := hR4.all _ (List.getElem_mem hqr)
    refine ⟨a, _, (p : Int), _, rfl, rfl, SqL.of ha4, atI_nat (by rw [List.getElem?_map, List.getElem?_eq_getElem hpl]; rfl), ?_⟩
    refine ⟨_, rfl, _, rfl, R, _, (q : Int), _, rfl, rfl, SqL.of hR4.lst, atI_nat hRq, rows[q].t, _, 1, _, rfl, rfl, SqT.of Dq.pair, rfl, ?_⟩
    obtain ⟨sho, esho, hsho⟩ := Dq.sub
    refine ⟨_, rfl, a, rfl, ⟨_, SqL.of ha4⟩, fun D hD => lc_it (walk_list (K := K) (a := a) (xs := ls.map V.str)) (fun j H' => ∃ sh : List Str, H' = upd H4 D (.lst (sh.map V.str)) ∧ sh.Sublist (ls.take j)) ⟨[], rfl, List.nil_sublist _⟩ (fun j H' _ ⟨sh, e, _⟩ => SqL.of (by rw [e]; exact Same.upd_new hD _ _ ha4)) ?_ ?_⟩
    · rintro j y H5 H6 hj ⟨sh, rfl, hsub⟩ ⟨rfl, hy⟩
      obtain ⟨l, hl, rfl⟩ := map_at hy
      have s6 : Same H4 (upd H4 D (.lst (sh.map V.str))) := Same.upd_new hD
      have hshl : sh.length ≤ 24 := Nat.le_trans hsub.length_le (Nat.le_trans (by rw [List.length_take]; omega) hll)
      refine ⟨rfl, _, rfl, _, rfl, rows[q].s, _, rfl, .inl (SqL.of (s6 _ _ Dq.lst)), rfl, by rw [esho]; exact flat_strs sho, _, rfl, _, rfl, rfl, rfl, _, rfl, ?_⟩
      refine ite2 (fun _ => ?_) (fun _ => ?_)
      · refine ⟨_, rfl, _, upd_same, by rw [List.length_map]; exact small1000 (by omega), sh ++ [l], by rw [upd_upd, List.map_append]; rfl, ?_⟩
        rw [take_at hl]
        exact hsub.append (List.Sublist.refl _)
      · refine ⟨sh, rfl, ?_⟩
        rw [take_at hl]
        exact hsub.trans (List.sublist_append_left _ _)
    rintro H5 ⟨sh, rfl, hsub⟩
    have hsub' : sh.Sublist ls := hsub.trans (List.take_sublist _ _)
    have s5 : Same H4 (upd H4 D (.lst (sh.map V.str))) := Same.upd_new hD
    have hD5 : upd H4 D (.lst (sh.map V.str)) D = some (.lst (sh.map V.str)) := upd_same
    have nDb : D ≠ b := fun e => by obtain ⟨x, hx⟩ := hb4.lst; rw [e, hx] at hD; cases hD
    have hR5 := hR4.of hb4.lst (SameB.of s5)
    have hb5 := hb4.of s5
    have s05 := s04.trans (SameB.of s5 (b := b))
    generalize upd H4 D (.lst (sh.map V.str)) = H5 at *
    have Dq5 := hR5.all _ (List.getElem_mem hqr)
    refine ⟨_, rfl, _, rfl, (q : Int), rfl, R, _, rfl, SqL.of hR5.lst, fun p1' hp1 => ?_⟩
    have t1 : Same H5 (upd H5 p1' (.lst (cutV (refsOf rows) none (some (q : Int))))) := Same.upd_new hp1
    refine ⟨_, rfl, _, rfl, R, _, (q : Int), _, rfl, rfl, SqL.of (t1 _ _ hR5.lst), atI_nat hRq, rows[q].t, _, 0, _, rfl, rfl, SqT.of (t1 _ _ Dq5.pair), rfl, _, rfl, by show 2 ≤ sizeLine; decide, fun t ht => ?_⟩
    have t2 : Same (upd H5 p1' (.lst (cutV (refsOf rows) none (some (q : Int))))) (upd (upd H5 p1' (.lst (cutV (refsOf rows) none (some (q : Int))))) t (.tup [rows[q].look, .ref D])) := Same.upd_new ht
    refine ⟨by show 1 ≤ sizeLine; decide, fun p2 hp2 => ?_⟩
    have t3 := Same.upd_new hp2 (o := .lst [.ref t])
    have lens : (cutV (refsOf rows) none (some (q : Int))).length ≤ 24 := Nat.le_trans (cutV_length _ _ _) (by rw [hlen, hrl]; exact hkl)
    refine ⟨p1', p2, _, _, rfl, rfl, t3 _ _ (t2 _ _ upd_same), upd_same, Nat.le_of_lt (small1000 (by simp; omega)), fun p3 hp3 => ?_⟩
    have t4 := Same.upd_new hp3 (o := .lst (cutV (refsOf rows) none (some (q : Int)) ++ [.ref t]))
    have tt := t1.trans (t2.trans (t3.trans t4))
    refine ⟨_, rfl, _, rfl, _, _, rfl, rfl, (q : Int) + 1, rfl, R, _, rfl, SqL.of (tt _ _ hR5.lst), fun p4 hp4 => ?_⟩
    have t5 := Same.upd_new hp4 (o := .lst (cutV (refsOf rows) (some ((q : Int) + 1)) none))
    have lens2 : (cutV (refsOf rows) (some ((q : Int) + 1)) none).length ≤ 24 := Nat.le_trans (cutV_length _ _ _) (by rw [hlen, hrl]; exact hkl)
    refine ⟨p3, p4, _, _, rfl, rfl, t5 _ _ upd_same, upd_same, Nat.le_of_lt (small1000 (by rw [List.length_append]; simp; omega)), fun p5 hp5 => ?_⟩
    have t6 := Same.upd_new hp5 (o := .lst (cutV (refsOf rows) none (some (q : Int)) ++ [.ref t] ++ cutV (refsOf rows) (some ((q : Int) + 1)) none))
    have all := tt.trans (t5.trans t6)
    have nb5 : p5 ≠ b := fun e => by
      obtain ⟨x, hx⟩ := hb5.lst
      have := (tt.trans t5) _ _ hx
      rw [e, this] at hp5
      cases hp5
    refine k _ p5 (rows.take q ++ [⟨t, rows[q].look, D, sh.map V.str⟩] ++ rows.drop (q + 1)) (s05.trans (SameB.of all)) (hb5.of all) ⟨nb5, ?_, fun r hr => ?_, ?_⟩
    · have e2 : ((q : Nat) : Int) + 1 = ((q + 1 : Nat) : Int) := by omega
      rw [upd_same, cut_take, e2, cut_drop]
      unfold refsOf
      rw [List.map_append, List.map_append, List.map_take, List.map_drop]
      rfl
    · have old : ∀ r ∈ rows, RowD b ls _ r := fun r hr => (hR5.all r hr).of hb5.lst (SameB.of all)
      rcases List.mem_append.mp hr with h | h
      · rcases List.mem_append.mp h with h | h
        · exact old r (List.mem_of_mem_take h)
        · obtain rfl := List.mem_singleton.mp h
          exact ⟨Dq5.look, (t3.trans (t4.trans (t5.trans t6))) _ _ upd_same, nDb, all _ _ hD5, ⟨sh, rfl, hsub'⟩⟩
      · exact old r (List.mem_of_mem_drop h)
    · rw [← hR5.looks, List.map_append, List.map_append]
      have hsplit : rows = rows.take q ++ [rows[q]] ++ rows.drop (q + 1) := by
        rw [← take_at (List.getElem?_eq_getElem hqr), List.take_append_drop]
      conv => rhs; rw [hsplit]
      rw [List.map_append, List.map_append]
      rfl
end
end Dl

namespace Dl
open PySem PySem.Spec PyProof.Rows L2
/-- a row as it stands, whatever it holds -/
structure RowG (H : Hp) (r : RowIn) : Prop where
  pair : H r.t = some (.tup [r.look, .ref r.s])
  lst : H r.s = some (.lst r.xs)
theorem RowG.of {H H' : Hp} {r : RowIn} (s : Same H H') (h : RowG H r) : RowG H' r := ⟨s _ _ h.pair, s _ _ h.lst⟩
theorem RowD.g {b : Addr} {ls : List Str} {H : Hp} {r : RowIn} (h : RowD b ls H r) : RowG H r := ⟨h.pair, h.lst⟩
def turned (way : Int) (r : RowIn) : V × List V := (r.look, if way = 1 then r.xs.reverse else r.xs)
def spGiven : Sp := fun vs H Q _ => ∃ (R : Addr) (way : Int) (rows : List RowIn), vs = [.ref R, .int way] ∧ (way = 0 ∨ way = 1) ∧ H R = some (.lst (refsOf rows)) ∧ (∀ r ∈ rows, RowG H r) ∧ rows.length ≤ 900 ∧
  ∀ (H' : Hp) (R' : Addr) (rows' : List RowIn), Same H H' → H R' = none → H' R' = some (.lst (refsOf rows')) → (∀ r ∈ rows', RowG H' r ∧ r.s ≠ R' ∧ H r.s = none) → rows'.map RowIn.dat = rows.map (turned way) → Q (.ref R') H'
section
variable {P : Program} {w : World} {K : PySem.W.Frag} {mg : Str → Option Value} {base : Heap}
theorem scRows : FnScope ["_law_bag_here", "_law_lamps", "_law_looks", "_law_way", "_law_rows_here"] ["_law_bag_here", "_law_lamps", "_law_looks"] (defScope sLawRows) := ⟨rfl, rfl, rfl, by decide +kernel, rfl, by decide +kernel, by decide +kernel⟩
theorem ok_rows {f : Addr} {fd : FuncData} (F : Fun K "_law_rows" "_law_rows" sLawRows f fd) (gT : Dfn P w K mg base CX0 1 "_law_take" ["_law_bag_here", "_law_size"] spTake)
    (gR : Dfn P w K mg base CX0 2 "_law_free_rows" ["_law_bag_here", "_law_lamps", "_law_looks"] spRows3) (gP : Dfn P w K mg base CX0 2 "_law_planted_rows" ["_law_bag_here", "_law_lamps", "_law_looks"] spRows3)
    (gF : Dfn P w K mg base CX0 2 "_law_flipped" ["_law_bag_here", "_law_lamps", "_law_rows_here"] spFlip) : FnOk P w K mg base CX0 3 f fd ["_law_bag_here", "_law_lamps", "_law_looks"] spRows3c := by
  obtain ⟨fT, dT, mT, kT, bT, GT⟩ := gT
  obtain ⟨fFr, dFr, mFr, kFr, bFr, GFr⟩ := gR
  obtain ⟨fPl, dPl, mPl, kPl, bPl, GPl⟩ := gP
  obtain ⟨fFl, dFl, mFl, kFl, bFl, GFl⟩ := gF
  refine F.ok scRows (fun vs H Q E h => ?_) (fun cdv A outer s H vs Q E hr h => ?_)
  · obtain ⟨a, b, c, ls, ks, rfl, _⟩ := h
    rfl
  · obtain ⟨b, a, c, ls, ks, rfl, ⟨L, hb, ok⟩, hab, hcb, ha, hc, hlc, hkc, hll, hkl, k⟩ := h
    have hr2 : Room 2 _ := hr
    have hr1 : Room 1 _ := hr.mono (by decide)
    refine ⟨_, (pss_cons (ps_set (i := 3) scRows.nd rfl (Or.inl rfl) (pe_call GT hr1 (by rfl) mT kT bT .nil pass0 (pa_cons (pv 0) (pa_cons pe_int pa_nil))))
        (pss_cons (ps_if (pt_cmpR op_eq (pv 3) pe_int (nomark _)) (pss_one (ps_ret (pe_call GFr hr2 (by rfl) mFr kFr bFr .nil pass0 (pa_cons (pv 0) (pa_cons (pv 1) (pa_cons (pv 2) pa_nil)))))) pss_nil)
        (pss_cons (ps_set (i := 4) scRows.nd rfl (Or.inl rfl) (pe_call GPl hr2 (by rfl) mPl kPl bPl .nil pass0 (pa_cons (pv 0) (pa_cons (pv 1) (pa_cons (pv 2) pa_nil)))))
        (pss_cons (ps_if (pt_cmpR op_eq (pv 3) pe_int (nomark _)) (pss_one (ps_ret (pv 4))) pss_nil)
        (pss_one (ps_ret (pe_call GFl hr2 (by rfl) mFl kFl bFl .nil pass0 (pa_cons (pv 0) (pa_cons (pv 1) (pa_cons (pv 4) pa_nil)))))))))), ?_⟩
    refine ⟨_, rfl, b, L, 4, rfl, hb, ok, by decide, by decide, fun L2 r ok2 r0 r1 => ?_⟩
    have s1 : SameB b H (upd H b (.lst (L2.map V.int))) := draw_same
    have hb1 : BagIn (upd H b (.lst (L2.map V.int))) b := BagIn.upd ok2
    have ha1 := s1 _ _ hab ha
    have hc1 := s1 _ _ hcb hc
    generalize upd H b (.lst (L2.map V.int)) = H1 at *
    refine ⟨_, rfl, rfl, _, rfl, ?_⟩
    refine ite2 (fun _ => ?_) (fun _ => ?_)
    · exact ⟨_, rfl, _, rfl, _, rfl, b, a, c, ls, ks, rfl, hb1, hab, hcb, ha1, hc1, hll, hkl, fun H' R rows s' hb' hR => k H' R rows (s1.trans s') hb' hR⟩
    · refine ⟨_, rfl, _, rfl, _, rfl, b, a, c, ls, ks, rfl, hb1, hab, hcb, ha1, hc1, hll, hkl, fun H2 R rows s2 hb2 hR2 => ?_⟩
      refine ⟨_, rfl, rfl, _, rfl, ?_⟩
      refine ite2 (fun _ => ?_) (fun _ => ?_)
      · exact ⟨_, rfl, k H2 R rows (s1.trans s2) hb2 hR2⟩
      · exact ⟨_, rfl, _, rfl, _, rfl, b, a, R, ls, ks, rows, rfl, hb2, hab, s2 _ _ hab ha1, hR2, hlc, hkc, hll, hkl, fun H' R' rows' s' hb' hR' => k H' R' rows' (s1.trans (s2.trans s')) hb' hR'⟩
theorem scGiven : FnScope ["_law_rows_here", "_law_way", "_law_given_here", "_law_row", "_law_shown"] ["_law_rows_here", "_law_way"] (defScope sLawGiven) := ⟨rfl, rfl, rfl, by decide +kernel, rfl, by decide +kernel, by decide +kernel⟩
theorem ok_given {f : Addr} {fd : FuncData} (F : Fun K "_law_given" "_law_given" sLawGiven f fd) (T : TxtR mg) : FnOk P w K mg base CX0 1 f fd ["_law_rows_here", "_law_way"] spGiven := by
  refine F.ok scGiven (fun vs H Q E h => ?_) (fun cdv A outer s H vs Q E hr h => ?_)
  · obtain ⟨a, b, rows, rfl, _⟩ := h
    rfl
  · obtain ⟨R, way, rows, rfl, hw, hR, hrw, hrl, k⟩ := h
    refine ⟨_, (pss_cons (ps_set (i := 2) scGiven.nd rfl (Or.inl rfl) (pe_lst pa_nil))
        (pss_cons (ps_for PassesOwn.never rfl (pi_list (pv 0)) (pg_name (i := 3) scGiven.nd rfl (Or.inl rfl)) (pss_cons (ps_set (i := 4) scGiven.nd rfl (Or.inl rfl) (pe_callTy call_list_of (by rfl) T.list (by decide +kernel) (pa_cons (pe_ix ix_tup (pv 3) pe_int (fun _ _ => rfl)) pa_nil)))
        (pss_cons (ps_if (pt_cmpR op_eq (pv 1) pe_int (nomark _)) (pss_one (ps_expr (pe_bm0 PySem.F.plainAttrs_list PySem.F.slot_list_reverse PySem.F.type_list_reverse mt_reverse (pv 4)))) pss_nil)
        (pss_one (ps_expr (pe_bm PySem.F.plainAttrs_list PySem.F.slot_list_append PySem.F.type_list_append mt_append (pv 2) (pa_cons (pe_tup (pa_cons (pe_ix ix_tup (pv 3) pe_int (fun _ _ => rfl)) (pa_cons (pv 4) pa_nil))) pa_nil)))))))
        (pss_one (ps_ret (pv 2))))), ?_⟩
    refine ⟨Nat.zero_le _, fun G hG0 => ?_⟩
    have s0 : Same H (upd H G (.lst [])) := Same.upd_new hG0
    refine ⟨_, rfl, R, rfl, ⟨_, SqL.of (s0 _ _ hR)⟩, for_it (walk_list (K := K) (a := R) (xs := refsOf rows)) (fun i σ H' => ∃ (x3 x4 : Option V) (rows' : List RowIn), σ = [some (.ref R), some (.int way), some (.ref G), x3, x4] ∧ Same H H' ∧ H' G = some (.lst (refsOf rows')) ∧
        (∀ r ∈ rows', RowG H' r ∧ r.s ≠ G ∧ H r.s = none) ∧ rows'.map RowIn.dat = (rows.take i).map (turned way) ∧ rows'.length = i)
      ⟨none, none, [], rfl, s0, upd_same, fun r hr => absurd hr (by simp), rfl, rfl⟩ (fun i σ H' _ ⟨_, _, _, _, s1, _⟩ => SqL.of (s1 _ _ hR)) ?_ ?_⟩
    · rintro i v σ H2 H3 hi ⟨x3, x4, rows', rfl, s2, hG2, hrs, hdat, hlen'⟩ ⟨rfl, hv⟩
      obtain ⟨r, hr', rfl⟩ := map_at (show (rows.map fun r => V.ref r.t)[i]? = some v from hv)
      have hlt : i < rows.length := (List.getElem?_eq_some_iff.mp hr').1
      have hg := hrw r (List.mem_of_getElem? hr')
      refine ⟨_, rfl, r.t, _, 1, .ref r.s, rfl, rfl, SqT.of (hg.of s2).pair, rfl, r.s, _, rfl, .inl (SqL.of (hg.of s2).lst), fun D hD => ?_⟩
      rcases hw with rfl | rfl
      ·
        refine ⟨_, rfl, rfl, _, rfl, ?_⟩
        rw [decide_eq_false (show ¬ V.int 0 = V.int 1 from fun e => by cases e)]
        refine iteF ?_
        have nGD : G ≠ D := ne_of_none hG2 hD
        have hD0 : H D = none := s2.free hD
        refine ⟨_, rfl, .inl ⟨rfl, _, SqL.of (by rw [upd_ne nGD]; exact hG2)⟩, _, rfl, r.t, _, 0, r.look, rfl, rfl, SqT.of ((Same.upd_new hD) _ _ (hg.of s2).pair), rfl, _, rfl, by show 2 ≤ sizeLine; decide, fun t ht => ?_⟩
        have ht0 : H3 t = none := (upd_none ht).1
        have ntG : G ≠ t := ne_of_none hG2 ht0
        have ntD : D ≠ t := (upd_none ht).2.symm
        refine ⟨G, _, _, rfl, rfl, by rw [upd_ne ntG]; rw [upd_ne nGD]; exact hG2, ?_, ?_⟩
        · unfold refsOf
          rw [List.length_map]
          exact small1000 (by omega)
        · have keep : ∀ {d : Addr} {o : HO}, d ≠ G → H3 d = some o → upd (upd (upd H3 D (.lst r.xs)) t (.tup [r.look, .ref D])) G (.lst (refsOf rows' ++ [.ref t])) d = some o := fun n h => by
            rw [upd_ne n, upd_ne (ne_of_none h ht0), upd_ne (ne_of_none h hD)]; exact h
          refine ⟨_, _, rows' ++ [⟨t, r.look, D, r.xs⟩], rfl, fun d o h => keep (ne_of_none h hG0) (s2 _ _ h), by rw [upd_same]; unfold refsOf; rw [List.map_append]; rfl, fun x hx => ?_, ?_, ?_⟩
          · rcases List.mem_append.mp hx with h | h
            · obtain ⟨g, ng, nf⟩ := hrs x h
              exact ⟨⟨keep (ne_tup_lst g.pair hG2) g.pair, keep ng g.lst⟩, ng, nf⟩
            · obtain rfl := List.mem_singleton.mp h
              exact ⟨⟨by rw [upd_ne ntG.symm, upd_same], by rw [upd_ne nGD.symm, upd_ne ntD]; exact upd_same⟩, nGD.symm, hD0⟩
          · rw [List.map_append, hdat, take_at hr', List.map_append]
            rfl
          · rw [List.length_append, hlen']
            rfl
      ·
        refine ⟨_, rfl, rfl, _, rfl, ?_⟩
        rw [decide_eq_true (rfl : V.int 1 = V.int 1)]
        refine iteT ⟨_, rfl, .inl ⟨rfl, _, SqL.of upd_same⟩, D, _, rfl, rfl, upd_same, ?_⟩
        have nGD : G ≠ D := ne_of_none hG2 hD
        have hD0 : H D = none := s2.free hD
        refine ⟨_, rfl, .inl ⟨rfl, _, SqL.of (by rw [upd_upd, upd_ne nGD]; exact hG2)⟩, _, rfl, r.t, _, 0, r.look, rfl, rfl, SqT.of (by rw [upd_upd]; exact (Same.upd_new hD) _ _ (hg.of s2).pair), rfl, _, rfl, by show 2 ≤ sizeLine; decide, fun t ht => ?_⟩
        rw [upd_upd] at ht
        have ht0 : H3 t = none := (upd_none ht).1
        have ntG : G ≠ t := ne_of_none hG2 ht0
        have ntD : D ≠ t := (upd_none ht).2.symm
        refine ⟨G, _, _, rfl, rfl, by rw [upd_ne ntG]; rw [upd_upd, upd_ne nGD]; exact hG2, ?_, ?_⟩
        · unfold refsOf
          rw [List.length_map]
          exact small1000 (by omega)
        · have keep : ∀ {d : Addr} {o : HO}, d ≠ G → H3 d = some o → upd (upd (upd (upd H3 D (.lst r.xs)) D (.lst r.xs.reverse)) t (.tup [r.look, .ref D])) G (.lst (refsOf rows' ++ [.ref t])) d = some o := fun n h => by
            rw [upd_ne n, upd_ne (ne_of_none h ht0), upd_ne (ne_of_none h hD), upd_ne (ne_of_none h hD)]; exact h
          refine ⟨_, _, rows' ++ [⟨t, r.look, D, r.xs.reverse⟩], rfl, fun d o h => keep (ne_of_none h hG0) (s2 _ _ h), by rw [upd_same]; unfold refsOf; rw [List.map_append]; rfl, fun x hx => ?_, ?_, ?_⟩
          · rcases List.mem_append.mp hx with h | h
            · obtain ⟨g, ng, nf⟩ := hrs x h
              exact ⟨⟨keep (ne_tup_lst g.pair hG2) g.pair, keep ng g.lst⟩, ng, nf⟩
            · obtain rfl := List.mem_singleton.mp h
              exact ⟨⟨by rw [upd_ne ntG.symm, upd_same], by rw [upd_ne nGD.symm, upd_ne ntD]; exact upd_same⟩, nGD.symm, hD0⟩
          · rw [List.map_append, hdat, take_at hr', List.map_append]
            rfl
          · rw [List.length_append, hlen']
            rfl
    · rintro σ H2 ⟨x3, x4, rows', rfl, s2, hG2, hrs, hdat, hlen'⟩
      have hlen2 : (refsOf rows).length = rows.length := by unfold refsOf; rw [List.length_map]
      rw [hlen2, List.take_length] at hdat
      exact ⟨_, rfl, k H2 G rows' s2 hG0 hG2 hrs hdat⟩
end
end Dl

namespace Dl
open PySem PySem.Spec PyProof.Rows L2
def spWord (K : PySem.W.Frag) : Sp := fun vs H Q _ => ∃ (p : Addr) (zs : List Str), vs = [.ref p, .int (zs.length : Int)] ∧ H p = some (.tup (zs.map V.str)) ∧ Q (.bl true) H
def spIsTable (CT : Addr) : Sp := fun vs H Q _ => ∃ (p a R : Addr) (ls : List Str) (rs : List (Str × List Str)) (rows : List RowIn), vs = [.ref p, .ref a, .ref R] ∧ TableAt CT H p ls rs ∧ TabOk ls rs ∧ H a = some (.lst (ls.map V.str)) ∧ H R = some (.lst (refsOf rows)) ∧
  (∀ r ∈ rows, RowG H r) ∧ rows.map RowIn.dat = rs.map rdat ∧ ∀ H', Same H H' → Q (.bl true) H'
structure TxtI (mg : Str → Option Value) : Prop where
  isinstance : mg "isinstance" = none
  str : mg "str" = none
  tuple : mg "tuple" = none
  list : mg "list" = none
  len : mg "len" = none
  range : mg "range" = none
theorem eqv_same {zs : List Str} (h : ∀ z ∈ zs, canS z) : PyData.eqv (.list (zs.map PyData.str)) (.list (zs.map PyData.str)) = true :=
  SeqAt.eqv_refl _ (by
    have q := shaped_strs h
    unfold SeqAt.shaped at q
    exact (Bool.and_eq_true_iff.mp q).1)
section
variable {P : Program} {w : World} {K : PySem.W.Frag} {mg : Str → Option Value} {base : Heap} {C : Cs} {CT : Addr}
theorem scWord : FnScope ["_law_value", "_law_count", "_law_word"] ["_law_value", "_law_count"] (defScope sLawWordTuple) := ⟨rfl, rfl, rfl, by decide +kernel, rfl, by decide +kernel, by decide +kernel⟩
theorem ok_word {f : Addr} {fd : FuncData} (F : Fun K "_law_word_tuple" "_law_word_tuple" sLawWordTuple f fd) (T : TxtI mg) : FnOk P w K mg base CX0 1 f fd ["_law_value", "_law_count"] (spWord K) := by
  refine F.ok scWord (fun vs H Q E h => ?_) (fun cdv A outer s H vs Q E hr h => ?_)
  · obtain ⟨p, zs, rfl, _⟩ := h
    rfl
  · obtain ⟨p, zs, rfl, hp, k⟩ := h
    refine ⟨_, (pss_cons (ps_if (PW.pt (pw_or (pt_not (pt_val (pe_callB call_isi (by rfl) T.isinstance (by decide +kernel) (pa_cons (pv 0) (pa_cons (pe_bltn (v := .ty "tuple") (by rfl) T.tuple (by decide +kernel) rfl) pa_nil))))) (pw_or1 (pt_cmpR op_ne (pe_callB call_len_seq (by rfl) T.len PySem.boot_len (pa_cons (pv 0) pa_nil)) (pv 1) (nomark _))))) (pss_one (ps_ret pe_bl)) pss_nil)
        (pss_cons (ps_for PassesOwn.never rfl (pi_tup (pv 0)) (pg_name (i := 2) scWord.nd rfl (Or.inl rfl)) (pss_one (ps_if (pt_not (pt_val (pe_callB call_isi (by rfl) T.isinstance (by decide +kernel) (pa_cons (pv 2) (pa_cons (pe_bltn (v := .ty "str") (by rfl) T.str (by decide +kernel) rfl) pa_nil))))) (pss_one (ps_ret pe_bl)) pss_nil)))
        (pss_one (ps_ret pe_bl)))), ?_⟩
    refine ⟨_, rfl, _, _, _, _, true, rfl, ClsV.ty "tuple", .base (.tup hp), kit_ty (by decide +kernel), true, rfl, iteF ?_⟩
    refine ⟨_, rfl, p, _, rfl, .inr (SqT.of hp), _, rfl, rfl, _, rfl, ?_⟩
    have e : (!decide (V.int (((zs.map V.str).length : Nat) : Int) = V.int (zs.length : Int))) = false := by simp
    rw [e]
    refine iteF ?_
    refine ⟨_, rfl, p, rfl, ⟨_, SqT.of hp⟩, for_it (walk_tup (K := K) (a := p) (xs := zs.map V.str)) (fun i σ H' => H' = H ∧ ∃ x, σ = [some (.ref p), some (.int (zs.length : Int)), x]) ⟨rfl, none, rfl⟩ (fun i σ H' _ ⟨e, _⟩ => by rw [e]; exact SqT.of hp) ?_ ?_⟩
    · rintro i v σ H1 H2 hi ⟨rfl, x, rfl⟩ ⟨rfl, hv⟩
      obtain ⟨z, hz, rfl⟩ := map_at (show (zs.map V.str)[i]? = some v from hv)
      exact ⟨_, rfl, _, _, _, _, true, rfl, ClsV.ty "str", .base (.str z), kit_ty (by decide +kernel), true, rfl, iteF ⟨rfl, _, rfl⟩⟩
    · rintro σ H1 ⟨rfl, x, rfl⟩
      exact k
theorem scIsTab : FnScope ["_law_table", "_law_lamps", "_law_rows_here", "_law_told", "_law_k", "_law_row"] ["_law_table", "_law_lamps", "_law_rows_here"] (defScope sLawIsTable) := ⟨rfl, rfl, rfl, by decide +kernel, rfl, by decide +kernel, by decide +kernel⟩
theorem ok_istab {f : Addr} {fd : FuncData} (F : Fun K "_law_is_table" "_law_is_table" sLawIsTable f fd) (T : TxtI mg) (cl : Cls K CT) (nL : NoAttr K CT "lamps") (nK : NoAttr K CT "looks")
    (rowsM : ∃ fR fdR, Meth K CT "rows" fR ∧ Binds K fdR ["self"] [] ∧ FnOk P w K mg base CX0 1 fR fdR ["self"] (spTRows K CT)) (gW : Dfn P w K mg base CX0 1 "_law_word_tuple" ["_law_value", "_law_count"] (spWord K)) :
    FnOk P w K mg base CX0 2 f fd ["_law_table", "_law_lamps", "_law_rows_here"] (spIsTable CT) := by
  obtain ⟨fR, fdR, mR, bR, GR⟩ := rowsM
  obtain ⟨fW, dW, mW, kW, bW, GW⟩ := gW
  refine F.ok scIsTab (fun vs H Q E h => ?_) (fun cdv A outer s H vs Q E hr h => ?_)
  · obtain ⟨p, a, R, ls, rs, rows, rfl, _⟩ := h
    rfl
  · obtain ⟨p, a, R, ls, rs, rows, rfl, hT, ok, ha, hR, hrw, hdat0, k⟩ := h
    have hr1 : Room 1 _ := hr
    refine ⟨_, (pss_cons (ps_set (i := 3) scIsTab.nd rfl (Or.inl rfl) (pe_meth0 (pv 0) cl mR GR hr1 bR .nil pass0))
        (pss_cons (ps_if (PW.pt (pw_or (pt_not (pt_val (pe_callB call_isi (by rfl) T.isinstance (by decide +kernel) (pa_cons (pv 3) (pa_cons (pe_bltn (v := .ty "list") (by rfl) T.list (by decide +kernel) rfl) pa_nil))))) (pw_or (pt_cmpR op_ne (pe_callB call_len_seq (by rfl) T.len PySem.boot_len (pa_cons (pv 3) pa_nil)) (pe_callB call_len_seq (by rfl) T.len PySem.boot_len (pa_cons (pv 2) pa_nil)) (nomark _)) (pw_or1 (pt_cmpR (op_neD hr.units) (pe_callTy call_list_of (by rfl) T.list (by decide +kernel) (pa_cons (pe_fld (pv 0) rfl) pa_nil)) (pv 1) (nomark _)))))) (pss_one (ps_ret pe_bl)) pss_nil)
        (pss_cons (ps_for PassesOwn.never rfl (pi_range1 (by rfl) T.range (pa_cons (pe_callB call_len_seq (by rfl) T.len PySem.boot_len (pa_cons (pv 2) pa_nil)) pa_nil)) (pg_name (i := 4) scIsTab.nd rfl (Or.inl rfl)) (pss_cons (ps_if (PW.pt (pw_or (pt_not (pt_val (pe_callB call_isi (by rfl) T.isinstance (by decide +kernel) (pa_cons (pe_ix ix_list (pv 3) (pv 4) (fun _ _ => rfl)) (pa_cons (pe_bltn (v := .ty "tuple") (by rfl) T.tuple (by decide +kernel) rfl) pa_nil))))) (pw_or (pt_cmpR op_ne (pe_callB call_len_seq (by rfl) T.len PySem.boot_len (pa_cons (pe_ix ix_list (pv 3) (pv 4) (fun _ _ => rfl)) pa_nil)) pe_int (nomark _)) (pw_or1 (pt_cmpR op_ne (pe_ix ix_tup (pe_ix ix_list (pv 3) (pv 4) (fun _ _ => rfl)) pe_int (fun _ _ => rfl)) (pe_ix ix_tup (pe_ix ix_list (pv 2) (pv 4) (fun _ _ => rfl)) pe_int (fun _ _ => rfl)) (nomark _)))))) (pss_one (ps_ret pe_bl)) pss_nil)
        (pss_one (ps_if (PW.pt (pw_or (pt_not (pt_val (pe_call GW hr1 (by rfl) mW kW bW .nil pass0 (pa_cons (pe_ix ix_tup (pe_ix ix_list (pv 3) (pv 4) (fun _ _ => rfl)) pe_int (fun _ _ => rfl)) (pa_cons (pe_callB call_len_seq (by rfl) T.len PySem.boot_len (pa_cons (pe_ix ix_tup (pe_ix ix_list (pv 2) (pv 4) (fun _ _ => rfl)) pe_int (fun _ _ => rfl)) pa_nil)) pa_nil))))) (pw_or1 (pt_cmpR (op_neD hr.units) (pe_callTy call_list_of (by rfl) T.list (by decide +kernel) (pa_cons (pe_ix ix_tup (pe_ix ix_list (pv 3) (pv 4) (fun _ _ => rfl)) pe_int (fun _ _ => rfl)) pa_nil)) (pe_ix ix_tup (pe_ix ix_list (pv 2) (pv 4) (fun _ _ => rfl)) pe_int (fun _ _ => rfl)) (nomark _))))) (pss_one (ps_ret pe_bl)) pss_nil))))
        (pss_cons (ps_expr (pe_bm0 PySem.F.plainAttrs_list PySem.F.slot_list_clear PySem.F.type_list_clear mt_clear (pv 3)))
        (pss_one (ps_ret (pe_and (pe_cmpR (op_eqD hr.units) (pe_callTy call_list_of (by rfl) T.list (by decide +kernel) (pa_cons (pe_fld (pv 0) rfl) pa_nil)) (pe_lc (own := [("_law_row", 5)]) (g := gName 5) (tt := tYes) (te := tOp (rIxT K) (tVar 5) (tC (.int 0))) rfl scIsTab.nd (pi_list (pv 2)) (blkOk_by (N := ["_law_table", "_law_lamps", "_law_rows_here", "_law_told", "_law_k", "_law_row"]) (sc := defScope sLawIsTable) (by decide +kernel)) (fun _ _ _ _ _ => (pg_name (i := 5) scIsTab.nd rfl (Or.inl rfl))) (fun _ _ _ _ _ => pts_nil) (fun _ _ _ _ _ => (pe_ix ix_tup (pv 5) pe_int (fun _ _ => rfl)))) (nomark _)) (pe_one (pe_cmpR op_eq (pe_callB call_len_seq (by rfl) T.len PySem.boot_len (pa_cons (pe_meth0 (pv 0) cl mR GR hr1 bR .nil pass0) pa_nil)) (pe_callB call_len_seq (by rfl) T.len PySem.boot_len (pa_cons (pv 2) pa_nil)) (nomark _)))))))))), ?_⟩
    have hT2 := hT
    obtain ⟨dx, lt, sd, kt, kvs, hp, hlt, hsd, hkt, hrs⟩ := hT2
    have lcan : ∀ z ∈ ls, canS z := fun z hz => valid_can (ok.lval z hz)
    have kcan : ∀ z ∈ rs.map (·.1), canS z := fun z hz => by
      obtain ⟨x, hx, rfl⟩ := List.mem_map.mp hz
      exact valid_can (ok.kval x hx)
    have hlen0 : rows.length = rs.length := by
      have e := congrArg List.length hdat0
      rw [List.length_map, List.length_map] at e
      exact e
    refine ⟨_, rfl, p, dx, _, rfl, hp, pf3_no _ _ _ rows_ne.1 rows_ne.2.1 rows_ne.2.2, p, ls, rs, rfl, hT, ok, fun H1 l trows s1 hl hl1 hrt hdat => ?_⟩
    have hlen1 : trows.length = rs.length := by
      have e := congrArg List.length hdat
      rw [List.length_map, List.length_map] at e
      exact e
    refine ⟨_, rfl, _, _, _, _, true, rfl, ClsV.ty "list", .base (.lst hl1), kit_ty (by decide +kernel), true, rfl, iteF ?_⟩
    refine ⟨_, rfl, l, _, rfl, .inl (SqL.of hl1), _, rfl, R, _, rfl, .inl (SqL.of (s1 _ _ hR)), rfl, _, rfl, ?_⟩
    have e1 : (!decide (V.int (((trows.map fun r => V.ref r.t).length : Nat) : Int) = V.int (((refsOf rows).length : Nat) : Int))) = false := by
      unfold refsOf
      rw [List.length_map, List.length_map, hlen0, hlen1]
      simp
    rw [e1]
    refine iteF ?_
    refine ⟨_, rfl, p, CT, dx, _, _, rfl, s1 _ _ hp, cl, nL, pf3_lamps _ _ _, lt, _, rfl, .inr (SqT.of (s1 _ _ hlt)), fun l2 hl2 => ?_⟩
    have s2 : Same H1 (upd H1 l2 (.lst (ls.map V.str))) := Same.upd_new hl2
    refine ⟨_, rfl, .list (ls.map PyData.str), .list (ls.map PyData.str), .lst (SqL.of upd_same) (dpAll_strs ls), .lst (SqL.of (s2 _ _ (s1 _ _ ha))) (dpAll_strs ls), shaped_strs lcan, shaped_strs lcan, _, rfl, ?_⟩
    rw [eqv_same lcan]
    refine iteF ?_
    have hl2' := s2 _ _ hl1
    have s12 := s1.trans s2
    generalize upd H1 l2 (.lst (ls.map V.str)) = H2 at *
    have hrt2 : ∀ r ∈ trows, RowT H2 r := fun r hr => (hrt r hr).of s2
    have hR2 := s12 _ _ hR
    have lenR : (refsOf rows).length = rs.length := by unfold refsOf; rw [List.length_map, hlen0]
    have hkf := ok.kfew
    refine ⟨_, rfl, R, _, rfl, .inl (SqL.of hR2), _, rfl, by rw [lenR]; omega, by rw [lenR]; omega, for_range (n := ((((refsOf rows).length : Nat) : Int)).toNat) (lo := 0) (fun i σ H' => (∃ x4, σ = [some (.ref p), some (.ref a), some (.ref R), some (.ref l), x4, none]) ∧ Same H2 H') ⟨⟨none, rfl⟩, Same.refl H2⟩ ?_ ?_⟩
    · rintro i σ H3 hi ⟨⟨x4, rfl⟩, s3⟩
      have hir : i < rs.length := by rw [lenR] at hi; omega
      have hit : i < trows.length := by omega
      have hig : i < rows.length := by omega
      have Rt := (hrt2 _ (List.getElem_mem hit)).of s3
      have Rg := (hrw _ (List.getElem_mem hig)).of (s12.trans s3)
      have e1 : trows[i].dat = rdat rs[i] := by
        have e := congrArg (fun l => l[i]?) hdat
        simp only [List.getElem?_map, List.getElem?_eq_getElem hit, List.getElem?_eq_getElem hir, Option.map_some] at e
        exact Option.some.inj e
      have e2 : rows[i].dat = rdat rs[i] := by
        have e := congrArg (fun l => l[i]?) hdat0
        simp only [List.getElem?_map, List.getElem?_eq_getElem hig, List.getElem?_eq_getElem hir, Option.map_some] at e
        exact Option.some.inj e
      have tl : trows[i].look = .str rs[i].1 := congrArg Prod.fst e1
      have tx : trows[i].xs = rs[i].2.map V.str := congrArg Prod.snd e1
      have gl : rows[i].look = .str rs[i].1 := congrArg Prod.fst e2
      have gx : rows[i].xs = rs[i].2.map V.str := congrArg Prod.snd e2
      have htk : (trows.map fun r => V.ref r.t)[i]? = some (.ref trows[i].t) := by rw [List.getElem?_map, List.getElem?_eq_getElem hit]; rfl
      have hgk : (refsOf rows)[i]? = some (.ref rows[i].t) := by unfold refsOf; rw [List.getElem?_map, List.getElem?_eq_getElem hig]; rfl
      have hl3 := s3 _ _ hl2'
      have hR3 := s3 _ _ hR2
      have pt := Rt.pair
      have pg := Rg.pair
      rw [tl] at pt
      rw [gl] at pg
      have qt := Rt.tup
      have qg := Rg.lst
      rw [tx] at qt
      rw [gx] at qg
      have scan : ∀ z ∈ rs[i].2, canS z := fun z hz => lcan z ((ok.sub _ (List.getElem_mem hir)).subset hz)
      refine ⟨_, rfl, _, rfl, l, _, _, _, rfl, rfl, SqL.of hl3, atI0 htk, _, _, _, _, true, rfl, ClsV.ty "tuple", .base (.tup pt), kit_ty (by decide +kernel), true, rfl, iteF ?_⟩
      refine ⟨_, rfl, _, rfl, l, _, _, _, rfl, rfl, SqL.of hl3, atI0 htk, trows[i].t, _, rfl, .inr (SqT.of pt), rfl, _, rfl, iteF ?_⟩
      refine ⟨_, rfl, _, rfl, l, _, _, _, rfl, rfl, SqL.of hl3, atI0 htk, trows[i].t, _, 0, _, rfl, rfl, SqT.of pt, rfl, _, rfl, _, rfl, R, _, _, _, rfl, rfl, SqL.of hR3, atI0 hgk, rows[i].t, _, 0, _, rfl, rfl, SqT.of pg, rfl, rfl, _, rfl, iteNS rfl ?_⟩
      refine ⟨_, rfl, _, rfl, l, _, _, _, rfl, rfl, SqL.of hl3, atI0 htk, trows[i].t, _, 1, _, rfl, rfl, SqT.of pt, rfl, _, rfl, _, rfl, R, _, _, _, rfl, rfl, SqL.of hR3, atI0 hgk, rows[i].t, _, 1, _, rfl, rfl, SqT.of pg, rfl, rows[i].s, _, rfl, .inl (SqL.of qg), trows[i].s, rs[i].2, by rw [List.length_map]; rfl, qt, true, rfl, iteF ?_⟩
      refine ⟨_, rfl, _, rfl, l, _, _, _, rfl, rfl, SqL.of hl3, atI0 htk, trows[i].t, _, 1, _, rfl, rfl, SqT.of pt, rfl, trows[i].s, _, rfl, .inr (SqT.of qt), fun l4 hl4 => ?_⟩
      have s4 : Same H3 (upd H3 l4 (.lst (rs[i].2.map V.str))) := Same.upd_new hl4
      refine ⟨_, rfl, _, rfl, R, _, _, _, rfl, rfl, SqL.of (s4 _ _ hR3), atI0 hgk, rows[i].t, _, 1, _, rfl, rfl, SqT.of (s4 _ _ pg), rfl, .list (rs[i].2.map PyData.str), .list (rs[i].2.map PyData.str), .lst (SqL.of upd_same) (dpAll_strs _), .lst (SqL.of (s4 _ _ qg)) (dpAll_strs _), shaped_strs scan, shaped_strs scan, _, rfl, ?_⟩
      rw [eqv_same scan]
      exact iteF ⟨⟨_, rfl⟩, s3.trans s4⟩
    · rintro σ H3 ⟨⟨x4, rfl⟩, s3⟩
      have hl3 := s3 _ _ hl2'
      refine ⟨_, rfl, .inl ⟨rfl, _, SqL.of hl3⟩, l, _, rfl, rfl, hl3, ?_⟩
      have s13 := s12.trans s3
      have s4 : Same H (upd H3 l (.lst [])) := fun c o h => by
        rw [upd_ne (ne_of_none h hl)]; exact s13 _ _ h
      generalize upd H3 l (.lst []) = H4 at *
      refine ⟨_, rfl, p, CT, dx, _, _, rfl, s4 _ _ hp, cl, nK, pf3_looks _ _ _, kt, _, rfl, .inr (SqT.of (s4 _ _ hkt)), fun l5 hl5 => ?_⟩
      have s5 : Same H4 (upd H4 l5 (.lst ((rs.map (·.1)).map V.str))) := Same.upd_new hl5
      have hl55 : upd H4 l5 (.lst ((rs.map (·.1)).map V.str)) l5 = some (.lst ((rs.map (·.1)).map V.str)) := upd_same
      have s45 := s4.trans s5
      generalize upd H4 l5 (.lst ((rs.map (·.1)).map V.str)) = H5 at *
      refine ⟨_, rfl, R, rfl, ⟨_, SqL.of (s45 _ _ hR)⟩, fun D hD => lc_it (walk_list (K := K) (a := R) (xs := refsOf rows)) (fun i H' => H' = upd H5 D (.lst (((rs.map (·.1)).take i).map V.str))) rfl (fun i H' _ e => by rw [e]; exact SqL.of ((Same.upd_new hD) _ _ (s45 _ _ hR))) ?_ ?_⟩
      · rintro i v H6 H7 hi rfl ⟨rfl, hv⟩
        obtain ⟨g, hg, rfl⟩ := map_at (show (rows.map fun r => V.ref r.t)[i]? = some v from hv)
        have hig : i < rows.length := (List.getElem?_eq_some_iff.mp hg).1
        have hir : i < rs.length := by omega
        have e2 : g.dat = rdat rs[i] := by
          have e := congrArg (fun l => l[i]?) hdat0
          simp only [List.getElem?_map, hg, List.getElem?_eq_getElem hir, Option.map_some] at e
          exact Option.some.inj e
        have gl : g.look = .str rs[i].1 := congrArg Prod.fst e2
        have s6 : Same H5 (upd H5 D (.lst (((rs.map (·.1)).take i).map V.str))) := Same.upd_new hD
        have pg := ((hrw g (List.mem_of_getElem? hg)).of (s45.trans s6)).pair
        rw [gl] at pg
        refine ⟨rfl, _, rfl, g.t, _, 0, _, rfl, rfl, SqT.of pg, rfl, _, upd_same, ?_, ?_⟩
        · rw [List.length_map, List.length_take]
          exact small1000 (by omega)
        · rw [upd_upd, take_at (show (rs.map (·.1))[i]? = some rs[i].1 by rw [List.getElem?_map, List.getElem?_eq_getElem hir]; rfl), List.map_append]
          rfl
      · rintro H6 rfl
        have et : (rs.map (·.1)).take (refsOf rows).length = rs.map (·.1) := by rw [lenR, ← List.length_map (f := fun x : Str × List Str => x.1), List.take_length]
        rw [et]
        have s6 : Same H5 (upd H5 D (.lst ((rs.map (·.1)).map V.str))) := Same.upd_new hD
        refine ⟨.list ((rs.map (·.1)).map PyData.str), .list ((rs.map (·.1)).map PyData.str), .lst (SqL.of (s6 _ _ hl55)) (dpAll_strs _), .lst (SqL.of upd_same) (dpAll_strs _), shaped_strs kcan, shaped_strs kcan, _, rfl, ?_⟩
        rw [eqv_same kcan]
        refine iteT ?_
        have s06 := s45.trans s6
        generalize upd H5 D (.lst ((rs.map (·.1)).map V.str)) = H6 at *
        have hT6 : TableAt CT H6 p ls rs := ⟨dx, lt, sd, kt, kvs, s06 _ _ hp, s06 _ _ hlt, s06 _ _ hsd, s06 _ _ hkt, hrs.of fun b ys e => s06 _ _ e⟩
        refine ⟨_, rfl, p, dx, _, rfl, s06 _ _ hp, pf3_no _ _ _ rows_ne.1 rows_ne.2.1 rows_ne.2.2, p, ls, rs, rfl, hT6, ok, fun H7 l7 trows7 s7 hl7 hl77 hrt7 hdat7 => ?_⟩
        have hlen7 : trows7.length = rs.length := by
          have e := congrArg List.length hdat7
          rw [List.length_map, List.length_map] at e
          exact e
        refine ⟨l7, _, rfl, .inl (SqL.of hl77), _, rfl, R, _, rfl, .inl (SqL.of ((s06.trans s7) _ _ hR)), rfl, ?_⟩
        have e7 : decide (V.int (((trows7.map fun r => V.ref r.t).length : Nat) : Int) = V.int (((refsOf rows).length : Nat) : Int)) = true := by
          rw [List.length_map, lenR, hlen7]
          simp
        rw [e7]
        exact k H7 (s06.trans s7)
end
end Dl

namespace Dl
open PySem PySem.Spec PyProof.Rows L2
theorem unk_none {zs es : List Str} (h : ∀ z ∈ zs, z ∈ es) : unkOf (zs.map V.str) es = none := by
  unfold unkOf
  rw [List.find?_eq_none]
  intro v hv
  obtain ⟨z, hz, rfl⟩ := List.mem_map.mp hv
  simp [knows, h z hz]
theorem without_ne : ¬ (("without" : Str) = "lamps") ∧ ¬ (("without" : Str) = "_shown") ∧ ¬ (("without" : Str) = "looks") := by decide +kernel
theorem only_ne : ¬ (("only" : Str) = "lamps") ∧ ¬ (("only" : Str) = "_shown") ∧ ¬ (("only" : Str) = "looks") := by decide +kernel
theorem with_ne : ¬ (("with_look" : Str) = "lamps") ∧ ¬ (("with_look" : Str) = "_shown") ∧ ¬ (("with_look" : Str) = "looks") := by decide +kernel
section
variable {P : Program} {w : World} {K : PySem.W.Frag} {mg : Str → Option Value} {base : Heap} {C : Cs} {CT : Addr}
theorem without_call {H : Hp} {p : Addr} {ls : List Str} {rs : List (Str × List Str)} {Q : VK} {E : XK} (zs : List Str) (hT : TableAt CT H p ls rs) (ok : TabOk ls rs) (hz : ∀ z ∈ zs, z ∈ ls) (h3 : zs.length ≤ 1000)
    (k : ∀ H' x, Same H H' → H x = none → TableAt CT H' x (goneOf ls zs) (lessOf rs (goneOf ls zs)) → Q (.ref x) H') : starSp 1 (spWithout K CT C) (.ref p :: zs.map V.str ++ []) H Q E := by
  refine ⟨[.ref p], zs.map V.str, by simp, rfl, ?_, fun q hq => ?_⟩
  · rw [List.length_map]
    exact Nat.le_of_lt (small1000 h3)
  · have s := Same.upd_new hq (o := .tup (zs.map V.str))
    refine ⟨p, q, ls, rs, zs.map V.str, rfl, hT.of s, ok, upd_same, strs_nm fun z hm => ok.lval z (hz z hm), fun _ H' x s' hx t => ?_, fun v hv => ?_⟩
    · rw [strs_back] at t
      exact k H' x (s.trans s') (s.free hx) t
    · rw [unk_none hz] at hv
      cases hv
theorem only_call {H : Hp} {p : Addr} {ls : List Str} {rs : List (Str × List Str)} {Q : VK} {E : XK} (zs : List Str) (hT : TableAt CT H p ls rs) (ok : TabOk ls rs) (hz : ∀ z ∈ zs, z ∈ rs.map fun x : Str × List Str => x.1) (h3 : zs.length ≤ 1000)
    (k : ∀ H' x, Same H H' → H x = none → TableAt CT H' x ls (onlyOf rs zs) → Q (.ref x) H') : starSp 1 (spOnly K CT C) (.ref p :: zs.map V.str ++ []) H Q E := by
  have vz : ∀ z ∈ zs, validN z = true := fun z hm => by
    obtain ⟨x, hx, rfl⟩ := List.mem_map.mp (hz z hm)
    exact ok.kval x hx
  refine ⟨[.ref p], zs.map V.str, by simp, rfl, ?_, fun q hq => ?_⟩
  · rw [List.length_map]
    exact Nat.le_of_lt (small1000 h3)
  · have s := Same.upd_new hq (o := .tup (zs.map V.str))
    refine ⟨p, q, ls, rs, zs.map V.str, rfl, hT.of s, ok, upd_same, strs_nm vz, fun _ H' x s' hx t => ?_, fun v hv => ?_⟩
    · rw [strs_back] at t
      exact k H' x (s.trans s') (s.free hx) t
    · rw [unk_none hz] at hv
      cases hv
def spTaken (CT : Addr) : Sp := fun vs H Q _ => ∃ (p g : Addr) (ls : List Str) (rs : List (Str × List Str)) (zs : List Str), vs = [.ref p, .ref g] ∧ TableAt CT H p ls rs ∧ TabOk ls rs ∧ H g = some (.lst (zs.map V.str)) ∧ (∀ z ∈ zs, z ∈ ls) ∧ zs.length ≤ 3 ∧
  ∀ H' x, Same H H' → H x = none → TableAt CT H' x (goneOf ls zs) (lessOf rs (goneOf ls zs)) → Q (.ref x) H'
def spOnlyL (CT : Addr) : Sp := fun vs H Q _ => ∃ (p g : Addr) (ls : List Str) (rs : List (Str × List Str)) (zs : List Str), vs = [.ref p, .ref g] ∧ TableAt CT H p ls rs ∧ TabOk ls rs ∧ H g = some (.lst (zs.map V.str)) ∧ (∀ z ∈ zs, z ∈ rs.map fun x : Str × List Str => x.1) ∧ zs.length ≤ 3 ∧
  ∀ H' x, Same H H' → H x = none → TableAt CT H' x ls (onlyOf rs zs) → Q (.ref x) H'
theorem scTaken : FnScope ["_law_table", "_law_gone"] ["_law_table", "_law_gone"] (defScope sLawTakenOut) := ⟨rfl, rfl, rfl, by decide +kernel, rfl, by decide +kernel, by decide +kernel⟩
theorem ok_taken {f : Addr} {fd : FuncData} (F : Fun K "_law_taken_out" "_law_taken_out" sLawTakenOut f fd) (T : TxtI mg) (cl : Cls K CT) (gM : ∃ fM, Meth K CT "without" fM ∧ FnR P w K mg base (L2.CX P w) 10 fM (starSp 1 (spWithout K CT C))) : FnOk P w K mg base CX0 11 f fd ["_law_table", "_law_gone"] (spTaken CT) := by
  obtain ⟨fM, mM, GM⟩ := gM
  refine F.ok scTaken (fun vs H Q E h => ?_) (fun cdv A outer s H vs Q E hr h => ?_)
  · obtain ⟨p, g, ls, rs, zs, rfl, _⟩ := h
    rfl
  · obtain ⟨p, g, ls, rs, zs, rfl, hT, ok, hg, hz, hz3, k⟩ := h
    have hr10 : Room 10 _ := hr
    have zcan : ∀ z ∈ zs, canS z := fun z hm => valid_can (ok.lval z (hz z hm))
    refine ⟨_, (pss_cons (ps_if (pt_cmpR (op_eqD hr.units) (pv 1) (pe_lst pa_nil) (nomark _)) (pss_one (ps_ret (pe_methR0 (pv 0) cl mM GM hr10 passL))) pss_nil)
        (pss_cons (ps_if (pt_cmpR op_eq (pe_callB call_len_seq (by rfl) T.len PySem.boot_len (pa_cons (pv 1) pa_nil)) pe_int (nomark _)) (pss_one (ps_ret (pe_methR (pv 0) cl mM GM hr10 passL (pa_cons (pe_ix ix_list (pv 1) pe_int (fun _ _ => rfl)) pa_nil)))) pss_nil)
        (pss_cons (ps_if (pt_cmpR op_eq (pe_callB call_len_seq (by rfl) T.len PySem.boot_len (pa_cons (pv 1) pa_nil)) pe_int (nomark _)) (pss_one (ps_ret (pe_methR (pv 0) cl mM GM hr10 passL (pa_cons (pe_ix ix_list (pv 1) pe_int (fun _ _ => rfl)) (pa_cons (pe_ix ix_list (pv 1) pe_int (fun _ _ => rfl)) pa_nil))))) pss_nil)
        (pss_one (ps_ret (pe_methR (pv 0) cl mM GM hr10 passL (pa_cons (pe_ix ix_list (pv 1) pe_int (fun _ _ => rfl)) (pa_cons (pe_ix ix_list (pv 1) pe_int (fun _ _ => rfl)) (pa_cons (pe_ix ix_list (pv 1) pe_int (fun _ _ => rfl)) pa_nil))))))))), ?_⟩
    refine ⟨_, rfl, Nat.zero_le _, fun e1 he1 => ?_⟩
    have s1 : Same H (upd H e1 (.lst [])) := Same.upd_new he1
    refine ⟨.list (zs.map PyData.str), .list [], .lst (SqL.of (s1 _ _ hg)) (dpAll_strs zs), .lst (SqL.of upd_same) .nil, shaped_strs zcan, shaped_list (by simp [PyData.canLayAll0]) (by simp [PyData.depthAll]), _, rfl, ?_⟩
    rw [eqv_nil]
    have hT1 : TableAt CT (upd H e1 (.lst [])) p ls rs := hT.of s1
    have hg1 := s1 _ _ hg
    generalize upd H e1 (.lst []) = H1 at *
    have dt := hT1
    obtain ⟨dx, lt, sd, kt, kvs, hp, hlt, hsd, hkt, hrs⟩ := dt
    match zs, hz, hz3, k, zcan, hg1 with
    | [], hz, hz3, k, zcan, hg1 =>
      rw [show decide (([] : List Str).map PyData.str = []) = true by simp]
      exact iteT ⟨_, rfl, p, dx, _, rfl, hp, pf3_no _ _ _ without_ne.1 without_ne.2.1 without_ne.2.2, without_call [] hT1 ok (by simp) (by simp) fun H' x s h0 t => k H' x (s1.trans s) (s1.free h0) t⟩
    | [a], hz, hz3, k, zcan, hg1 =>
      rw [show decide (([a] : List Str).map PyData.str = []) = false by simp]
      refine iteF ⟨_, rfl, g, _, rfl, .inl (SqL.of hg1), rfl, _, rfl, iteT ?_⟩
      exact ⟨_, rfl, p, dx, _, rfl, hp, pf3_no _ _ _ without_ne.1 without_ne.2.1 without_ne.2.2, _, rfl, g, _, 0, .str a, rfl, rfl, SqL.of hg1, rfl, without_call [a] hT1 ok hz (by simp) fun H' x s h0 t => k H' x (s1.trans s) (s1.free h0) t⟩
    | [a, b], hz, hz3, k, zcan, hg1 =>
      rw [show decide (([a, b] : List Str).map PyData.str = []) = false by simp]
      refine iteF ⟨_, rfl, g, _, rfl, .inl (SqL.of hg1), rfl, _, rfl, iteF ?_⟩
      refine ⟨_, rfl, g, _, rfl, .inl (SqL.of hg1), rfl, _, rfl, iteT ?_⟩
      exact ⟨_, rfl, p, dx, _, rfl, hp, pf3_no _ _ _ without_ne.1 without_ne.2.1 without_ne.2.2, _, rfl, g, _, 0, .str a, rfl, rfl, SqL.of hg1, rfl, _, rfl, g, _, 1, .str b, rfl, rfl, SqL.of hg1, rfl, without_call [a, b] hT1 ok hz (by simp) fun H' x s h0 t => k H' x (s1.trans s) (s1.free h0) t⟩
    | [a, b, c], hz, hz3, k, zcan, hg1 =>
      rw [show decide (([a, b, c] : List Str).map PyData.str = []) = false by simp]
      refine iteF ⟨_, rfl, g, _, rfl, .inl (SqL.of hg1), rfl, _, rfl, iteF ?_⟩
      refine ⟨_, rfl, g, _, rfl, .inl (SqL.of hg1), rfl, _, rfl, iteF ?_⟩
      exact ⟨_, rfl, p, dx, _, rfl, hp, pf3_no _ _ _ without_ne.1 without_ne.2.1 without_ne.2.2, _, rfl, g, _, 0, .str a, rfl, rfl, SqL.of hg1, rfl, _, rfl, g, _, 1, .str b, rfl, rfl, SqL.of hg1, rfl, _, rfl, g, _, 2, .str c, rfl, rfl, SqL.of hg1, rfl, without_call [a, b, c] hT1 ok hz (by simp) fun H' x s h0 t => k H' x (s1.trans s) (s1.free h0) t⟩
    | a :: b :: c :: d :: r, hz, hz3, _, _, _ => exact absurd hz3 (by simp)
theorem scOnly : FnScope ["_law_table", "_law_stay"] ["_law_table", "_law_stay"] (defScope sLawOnly) := ⟨rfl, rfl, rfl, by decide +kernel, rfl, by decide +kernel, by decide +kernel⟩
theorem ok_onlyl {f : Addr} {fd : FuncData} (F : Fun K "_law_only" "_law_only" sLawOnly f fd) (T : TxtI mg) (cl : Cls K CT) (gM : ∃ fM, Meth K CT "only" fM ∧ FnR P w K mg base (L2.CX P w) 10 fM (starSp 1 (spOnly K CT C))) : FnOk P w K mg base CX0 11 f fd ["_law_table", "_law_stay"] (spOnlyL CT) := by
  obtain ⟨fM, mM, GM⟩ := gM
  refine F.ok scOnly (fun vs H Q E h => ?_) (fun cdv A outer s H vs Q E hr h => ?_)
  · obtain ⟨p, g, ls, rs, zs, rfl, _⟩ := h
    rfl
  · obtain ⟨p, g, ls, rs, zs, rfl, hT, ok, hg, hz, hz3, k⟩ := h
    have hr10 : Room 10 _ := hr
    have zcan : ∀ z ∈ zs, canS z := fun z hm => (by obtain ⟨x, hx, rfl⟩ := List.mem_map.mp (hz z hm); exact valid_can (ok.kval x hx))
    refine ⟨_, (pss_cons (ps_if (pt_cmpR (op_eqD hr.units) (pv 1) (pe_lst pa_nil) (nomark _)) (pss_one (ps_ret (pe_methR0 (pv 0) cl mM GM hr10 passL))) pss_nil)
        (pss_cons (ps_if (pt_cmpR op_eq (pe_callB call_len_seq (by rfl) T.len PySem.boot_len (pa_cons (pv 1) pa_nil)) pe_int (nomark _)) (pss_one (ps_ret (pe_methR (pv 0) cl mM GM hr10 passL (pa_cons (pe_ix ix_list (pv 1) pe_int (fun _ _ => rfl)) pa_nil)))) pss_nil)
        (pss_cons (ps_if (pt_cmpR op_eq (pe_callB call_len_seq (by rfl) T.len PySem.boot_len (pa_cons (pv 1) pa_nil)) pe_int (nomark _)) (pss_one (ps_ret (pe_methR (pv 0) cl mM GM hr10 passL (pa_cons (pe_ix ix_list (pv 1) pe_int (fun _ _ => rfl)) (pa_cons (pe_ix ix_list (pv 1) pe_int (fun _ _ => rfl)) pa_nil))))) pss_nil)
        (pss_one (ps_ret (pe_methR (pv 0) cl mM GM hr10 passL (pa_cons (pe_ix ix_list (pv 1) pe_int (fun _ _ => rfl)) (pa_cons (pe_ix ix_list (pv 1) pe_int (fun _ _ => rfl)) (pa_cons (pe_ix ix_list (pv 1) pe_int (fun _ _ => rfl)) pa_nil))))))))), ?_⟩
    refine ⟨_, rfl, Nat.zero_le _, fun e1 he1 => ?_⟩
    have s1 : Same H (upd H e1 (.lst [])) := Same.upd_new he1
    refine ⟨.list (zs.map PyData.str), .list [], .lst (SqL.of (s1 _ _ hg)) (dpAll_strs zs), .lst (SqL.of upd_same) .nil, shaped_strs zcan, shaped_list (by simp [PyData.canLayAll0]) (by simp [PyData.depthAll]), _, rfl, ?_⟩
    rw [eqv_nil]
    have hT1 : TableAt CT (upd H e1 (.lst [])) p ls rs := hT.of s1
    have hg1 := s1 _ _ hg
    generalize upd H e1 (.lst []) = H1 at *
    have dt := hT1
    obtain ⟨dx, lt, sd, kt, kvs, hp, hlt, hsd, hkt, hrs⟩ := dt
    match zs, hz, hz3, k, zcan, hg1 with
    | [], hz, hz3, k, zcan, hg1 =>
      rw [show decide (([] : List Str).map PyData.str = []) = true by simp]
      exact iteT ⟨_, rfl, p, dx, _, rfl, hp, pf3_no _ _ _ only_ne.1 only_ne.2.1 only_ne.2.2, only_call [] hT1 ok (by simp) (by simp) fun H' x s h0 t => k H' x (s1.trans s) (s1.free h0) t⟩
    | [a], hz, hz3, k, zcan, hg1 =>
      rw [show decide (([a] : List Str).map PyData.str = []) = false by simp]
      refine iteF ⟨_, rfl, g, _, rfl, .inl (SqL.of hg1), rfl, _, rfl, iteT ?_⟩
      exact ⟨_, rfl, p, dx, _, rfl, hp, pf3_no _ _ _ only_ne.1 only_ne.2.1 only_ne.2.2, _, rfl, g, _, 0, .str a, rfl, rfl, SqL.of hg1, rfl, only_call [a] hT1 ok hz (by simp) fun H' x s h0 t => k H' x (s1.trans s) (s1.free h0) t⟩
    | [a, b], hz, hz3, k, zcan, hg1 =>
      rw [show decide (([a, b] : List Str).map PyData.str = []) = false by simp]
      refine iteF ⟨_, rfl, g, _, rfl, .inl (SqL.of hg1), rfl, _, rfl, iteF ?_⟩
      refine ⟨_, rfl, g, _, rfl, .inl (SqL.of hg1), rfl, _, rfl, iteT ?_⟩
      exact ⟨_, rfl, p, dx, _, rfl, hp, pf3_no _ _ _ only_ne.1 only_ne.2.1 only_ne.2.2, _, rfl, g, _, 0, .str a, rfl, rfl, SqL.of hg1, rfl, _, rfl, g, _, 1, .str b, rfl, rfl, SqL.of hg1, rfl, only_call [a, b] hT1 ok hz (by simp) fun H' x s h0 t => k H' x (s1.trans s) (s1.free h0) t⟩
    | [a, b, c], hz, hz3, k, zcan, hg1 =>
      rw [show decide (([a, b, c] : List Str).map PyData.str = []) = false by simp]
      refine iteF ⟨_, rfl, g, _, rfl, .inl (SqL.of hg1), rfl, _, rfl, iteF ?_⟩
      refine ⟨_, rfl, g, _, rfl, .inl (SqL.of hg1), rfl, _, rfl, iteF ?_⟩
      exact ⟨_, rfl, p, dx, _, rfl, hp, pf3_no _ _ _ only_ne.1 only_ne.2.1 only_ne.2.2, _, rfl, g, _, 0, .str a, rfl, rfl, SqL.of hg1, rfl, _, rfl, g, _, 1, .str b, rfl, rfl, SqL.of hg1, rfl, _, rfl, g, _, 2, .str c, rfl, rfl, SqL.of hg1, rfl, only_call [a, b, c] hT1 ok hz (by simp) fun H' x s h0 t => k H' x (s1.trans s) (s1.free h0) t⟩
    | a :: b :: c :: d :: r, hz, hz3, _, _, _ => exact absurd hz3 (by simp)
end
end Dl

namespace Dl
open PySem PySem.Spec PyProof.Rows L2
def LN : Str := "longername12"
theorem ln_valid : validN LN = true := by decide +kernel
theorem initRows_append {ls : List Str} : ∀ {xs ys : List (V × List V)} {acc acc' : List (Str × List Str)}, initRows ls xs acc = .ok acc' → initRows ls (xs ++ ys) acc = initRows ls ys acc'
  | [], ys, acc, acc', h => by cases h; rfl
  | (k, sh) :: r, ys, acc, acc', h => by
    rw [List.cons_append]
    unfold initRows at h
    cases e1 : chkNew k (acc.map (·.1)) with
    | some e => rw [e1] at h; cases h
    | none =>
      rw [e1] at h
      simp only at h
      cases e2 : chkShown sh ls [] with
      | some e => rw [e2] at h; cases h
      | none =>
        rw [e2] at h
        have q := initRows_append (ys := ys) h
        rw [← q]
        rw [initRows, e1, e2]
theorem init_snoc {ls : List Str} {rs : List (Str × List Str)} (ok : TabOk ls rs) {k : Str} {ys : List Str} (kv : validN k = true) (kn : k ∉ rs.map fun x : Str × List Str => x.1) (few : rs.length ≤ 23) (ynd : ys.Nodup) (yl : ∀ y ∈ ys, y ∈ ls) :
    initT (ls.map V.str) (rs.map rdat ++ [(V.str k, ys.map V.str)]) = .ok (ls, rs ++ [(k, chosen ls ys)]) := by
  unfold initT
  rw [if_neg (by rw [List.length_append, List.length_map, List.length_map]; have := ok.lfew; simp; omega), names_ok ok.lnd ok.lval]
  have e : initRows ls (rs.map rdat) [] = .ok rs := by
    have q := rows_ok' ok.lnd (xs := rs) (acc := []) ok.knd fun x hx => ⟨ok.kval x hx, ok.sub x hx, by simp⟩
    rw [List.nil_append] at q
    exact q
  have e2 : initRows ls [(V.str k, ys.map V.str)] rs = .ok (rs ++ [(k, chosen ls ys)]) := by
    have c1 : chkNew (.str k) (rs.map (·.1)) = none := by simp only [chkNew, kv, if_true]; rw [if_neg kn]
    have c2 : chkShown (ys.map V.str) ls [] = none := shown_ok' ynd fun z hz => ⟨yl z hz, by simp⟩
    rw [initRows, c1, c2]
    show initRows ls [] (rs ++ [(k, chosen ls ((ys.map V.str).map strOf))]) = _
    rw [strs_back, initRows]
  simp only [initRows_append e, e2]
theorem chosen_swap (ls : List Str) (a b : Str) : chosen ls [b, a] = chosen ls [a, b] := by
  unfold chosen
  apply List.filter_congr
  intro z _
  simp only [List.mem_cons, List.not_mem_nil, or_false]
  exact decide_eq_decide.mpr Or.comm
section
variable {P : Program} {w : World} {K : PySem.W.Frag} {mg : Str → Option Value} {base : Heap} {C : Cs} {CT : Addr}
theorem with_call {H : Hp} {p : Addr} {ls : List Str} {rs : List (Str × List Str)} {Q : VK} {E : XK} (ys : List Str) (hT : TableAt CT H p ls rs) (ok : TabOk ls rs) (kn : LN ∉ rs.map fun x : Str × List Str => x.1) (few : rs.length ≤ 23) (ynd : ys.Nodup) (yl : ∀ y ∈ ys, y ∈ ls) (yf : ys.length ≤ 24)
    (k : ∀ H' x, Same H H' → H x = none → TableAt CT H' x ls (rs ++ [(LN, chosen ls ys)]) → Q (.ref x) H') : starSp 2 (spWithLook K CT C) (.ref p :: (V.str LN :: ys.map V.str) ++ []) H Q E := by
  refine ⟨[.ref p, .str LN], ys.map V.str, by simp, rfl, ?_, fun q hq => ?_⟩
  · rw [List.length_map]
    exact Nat.le_of_lt (small1000 (by omega))
  · have s := Same.upd_new hq (o := .tup (ys.map V.str))
    have ini := init_snoc ok ln_valid kn few ynd yl
    refine ⟨p, q, ls, rs, .str LN, ys.map V.str, rfl, hT.of s, ok, validN_nm ln_valid, upd_same, strs_nm fun z hm => ok.lval z (yl z hm), by rw [List.length_map]; omega, fun ls' rs' e H' x s' hx t => ?_, fun e he => ?_⟩
    · rw [ini] at e
      cases e
      exact k H' x (s.trans s') (s.free hx) t
    · rw [ini] at he
      cases he
def spWithL (CT : Addr) : Sp := fun vs H Q _ => ∃ (p g : Addr) (ls : List Str) (rs : List (Str × List Str)) (zs : List Str), vs = [.ref p, .ref g] ∧ TableAt CT H p ls rs ∧ TabOk ls rs ∧ H g = some (.lst (zs.map V.str)) ∧ zs.Sublist ls ∧ zs.length ≤ 2 ∧ (LN ∉ rs.map fun x : Str × List Str => x.1) ∧ rs.length ≤ 23 ∧
  ∀ H' x, Same H H' → H x = none → TableAt CT H' x ls (rs ++ [(LN, zs)]) → Q (.ref x) H'
def spSome : Sp := fun vs H Q _ => ∃ (b a : Addr) (m : Int) (zs : List Str), vs = [.ref b, .ref a, .int m] ∧ BagIn H b ∧ a ≠ b ∧ H a = some (.lst (zs.map V.str)) ∧ (∀ z ∈ zs, canS z) ∧ zs.length ≤ 24 ∧ 0 ≤ m ∧ m ≤ 5 ∧
  ∀ (H' : Hp) (u : Addr) (ys : List Str), SameB b H H' → BagIn H' b → u ≠ b → H' u = some (.lst (ys.map V.str)) → (∀ y ∈ ys, y ∈ zs) → (ys.length : Int) ≤ m → Q (.ref u) H'
theorem scWith : FnScope ["_law_table", "_law_shown"] ["_law_table", "_law_shown"] (defScope sLawWith) := ⟨rfl, rfl, rfl, by decide +kernel, rfl, by decide +kernel, by decide +kernel⟩
theorem ok_withl {f : Addr} {fd : FuncData} (F : Fun K "_law_with" "_law_with" sLawWith f fd) (T : TxtI mg) (cl : Cls K CT) (gM : ∃ fM, Meth K CT "with_look" fM ∧ FnR P w K mg base (L2.CX P w) 10 fM (starSp 2 (spWithLook K CT C))) : FnOk P w K mg base CX0 11 f fd ["_law_table", "_law_shown"] (spWithL CT) := by
  obtain ⟨fM, mM, GM⟩ := gM
  refine F.ok scWith (fun vs H Q E h => ?_) (fun cdv A outer s H vs Q E hr h => ?_)
  · obtain ⟨p, g, ls, rs, zs, rfl, _⟩ := h
    rfl
  · obtain ⟨p, g, ls, rs, zs, rfl, hT, ok, hg, hz, hz3, kn, few, k⟩ := h
    have hr10 : Room 10 _ := hr
    have zcan : ∀ z ∈ zs, canS z := fun z hm => valid_can (ok.lval z (hz.subset hm))
    have znd := hz.nodup ok.lnd
    have zch := chosen_sub hz ok.lnd
    have zl : ∀ z ∈ zs, z ∈ ls := fun z hm => hz.subset hm
    refine ⟨_, (pss_cons (ps_if (pt_cmpR (op_eqD hr.units) (pv 1) (pe_lst pa_nil) (nomark _)) (pss_one (ps_ret (pe_methR (pv 0) cl mM GM hr10 passL (pa_cons pe_str pa_nil)))) pss_nil)
        (pss_cons (ps_if (pt_cmpR op_eq (pe_callB call_len_seq (by rfl) T.len PySem.boot_len (pa_cons (pv 1) pa_nil)) pe_int (nomark _)) (pss_one (ps_ret (pe_methR (pv 0) cl mM GM hr10 passL (pa_cons pe_str (pa_cons (pe_ix ix_list (pv 1) pe_int (fun _ _ => rfl)) pa_nil))))) pss_nil)
        (pss_one (ps_ret (pe_methR (pv 0) cl mM GM hr10 passL (pa_cons pe_str (pa_cons (pe_ix ix_list (pv 1) pe_int (fun _ _ => rfl)) (pa_cons (pe_ix ix_list (pv 1) pe_int (fun _ _ => rfl)) pa_nil)))))))), ?_⟩
    refine ⟨_, rfl, Nat.zero_le _, fun e1 he1 => ?_⟩
    have s1 : Same H (upd H e1 (.lst [])) := Same.upd_new he1
    refine ⟨.list (zs.map PyData.str), .list [], .lst (SqL.of (s1 _ _ hg)) (dpAll_strs zs), .lst (SqL.of upd_same) .nil, shaped_strs zcan, shaped_list (by simp [PyData.canLayAll0]) (by simp [PyData.depthAll]), _, rfl, ?_⟩
    rw [eqv_nil]
    have hT1 : TableAt CT (upd H e1 (.lst [])) p ls rs := hT.of s1
    have hg1 := s1 _ _ hg
    generalize upd H e1 (.lst []) = H1 at *
    have dt := hT1
    obtain ⟨dx, lt, sd, kt, kvs, hp, hlt, hsd, hkt, hrs⟩ := dt
    match zs, hz3, k, znd, zch, zl, hg1 with
    | [], hz3, k, znd, zch, zl, hg1 =>
      rw [show decide (([] : List Str).map PyData.str = []) = true by simp]
      exact iteT ⟨_, rfl, p, dx, _, rfl, hp, pf3_no _ _ _ with_ne.1 with_ne.2.1 with_ne.2.2, with_call [] hT1 ok kn few znd zl (by simp) fun H' x s h0 t => k H' x (s1.trans s) (s1.free h0) (by rw [zch] at t; exact t)⟩
    | [a], hz3, k, znd, zch, zl, hg1 =>
      rw [show decide (([a] : List Str).map PyData.str = []) = false by simp]
      refine iteF ⟨_, rfl, g, _, rfl, .inl (SqL.of hg1), rfl, _, rfl, iteT ?_⟩
      exact ⟨_, rfl, p, dx, _, rfl, hp, pf3_no _ _ _ with_ne.1 with_ne.2.1 with_ne.2.2, _, rfl, g, _, 0, .str a, rfl, rfl, SqL.of hg1, rfl, with_call [a] hT1 ok kn few znd zl (by simp) fun H' x s h0 t => k H' x (s1.trans s) (s1.free h0) (by rw [zch] at t; exact t)⟩
    | [a, b], hz3, k, znd, zch, zl, hg1 =>
      rw [show decide (([a, b] : List Str).map PyData.str = []) = false by simp]
      refine iteF ⟨_, rfl, g, _, rfl, .inl (SqL.of hg1), rfl, _, rfl, iteF ?_⟩
      have nd2 : [b, a].Nodup := by
        simp only [List.nodup_cons, List.mem_cons, List.not_mem_nil, or_false, not_false_eq_true, List.nodup_nil, and_true] at znd ⊢
        exact fun e => znd e.symm
      have zl2 : ∀ z ∈ [b, a], z ∈ ls := fun z hm => zl z (by simp only [List.mem_cons, List.not_mem_nil, or_false] at hm ⊢; exact hm.symm)
      exact ⟨_, rfl, p, dx, _, rfl, hp, pf3_no _ _ _ with_ne.1 with_ne.2.1 with_ne.2.2, _, rfl, g, _, 1, .str b, rfl, rfl, SqL.of hg1, rfl, _, rfl, g, _, 0, .str a, rfl, rfl, SqL.of hg1, rfl, with_call [b, a] hT1 ok kn few nd2 zl2 (by simp) fun H' x s h0 t => k H' x (s1.trans s) (s1.free h0) (by rw [chosen_swap, zch] at t; exact t)⟩
    | a :: b :: c :: r, hz3, _, _, _, _, _ => exact absurd hz3 (by simp)
theorem scSome : FnScope ["_law_bag_here", "_law_names_here", "_law_most", "_law_found", "_law_k"] ["_law_bag_here", "_law_names_here", "_law_most"] (defScope sLawSome) := ⟨rfl, rfl, rfl, by decide +kernel, rfl, by decide +kernel, by decide +kernel⟩
theorem ok_some {f : Addr} {fd : FuncData} (F : Fun K "_law_some" "_law_some" sLawSome f fd) (T : TxtI mg) (gT : Dfn P w K mg base CX0 1 "_law_take" ["_law_bag_here", "_law_size"] spTake) : FnOk P w K mg base CX0 2 f fd ["_law_bag_here", "_law_names_here", "_law_most"] spSome := by
  obtain ⟨fT, dT, mT, kT, bT, GT⟩ := gT
  refine F.ok scSome (fun vs H Q E h => ?_) (fun cdv A outer s H vs Q E hr h => ?_)
  · obtain ⟨p, g, m, zs, rfl, _⟩ := h
    rfl
  · obtain ⟨b, a, m, zs, rfl, hb, hab, ha, hcan, hlen, hm0, hm5, k⟩ := h
    have hr1 : Room 1 _ := hr
    refine ⟨_, (pss_cons (ps_set (i := 3) scSome.nd rfl (Or.inl rfl) (pe_lst pa_nil))
        (pss_cons (ps_if (pt_cmpR (op_neD hr.units) (pv 1) (pe_lst pa_nil) (nomark _)) (pss_one (ps_for PassesOwn.never rfl (pi_range1 (by rfl) T.range (pa_cons (pe_call GT hr1 (by rfl) mT kT bT .nil pass0 (pa_cons (pv 0) (pa_cons (pe_op op_add (pv 2) pe_int) pa_nil))) pa_nil)) (pg_name (i := 4) scSome.nd rfl (Or.inl rfl)) (pss_one (ps_expr (pe_bm PySem.F.plainAttrs_list PySem.F.slot_list_append PySem.F.type_list_append mt_append (pv 3) (pa_cons (pe_ix ix_list (pv 1) (pe_call GT hr1 (by rfl) mT kT bT .nil pass0 (pa_cons (pv 0) (pa_cons (pe_callB call_len_seq (by rfl) T.len PySem.boot_len (pa_cons (pv 1) pa_nil)) pa_nil))) (fun _ _ => rfl)) pa_nil)))))) pss_nil)
        (pss_one (ps_ret (pv 3))))), ?_⟩
    refine ⟨Nat.zero_le _, fun u hu => ?_⟩
    obtain ⟨xb, hxb⟩ := hb.lst
    have nub : u ≠ b := fun e => by rw [e, hxb] at hu; cases hu
    have s0 : Same H (upd H u (.lst [])) := Same.upd_new hu
    have hu1 : upd H u (.lst []) u = some (.lst (([] : List Str).map V.str)) := upd_same
    have hb1 := hb.of s0
    have ha1 := s0 _ _ ha
    generalize upd H u (.lst []) = H1 at *
    refine ⟨_, rfl, Nat.zero_le _, fun e1 he1 => ?_⟩
    have s1 : Same H1 (upd H1 e1 (.lst [])) := Same.upd_new he1
    refine ⟨.list (zs.map PyData.str), .list [], .lst (SqL.of (s1 _ _ ha1)) (dpAll_strs zs), .lst (SqL.of upd_same) .nil, shaped_strs hcan, shaped_list (by simp [PyData.canLayAll0]) (by simp [PyData.depthAll]), _, rfl, ?_⟩
    rw [eqv_nil]
    have hb2 := hb1.of s1
    have hu2 := s1 _ _ hu1
    have ha2 := s1 _ _ ha1
    have s01 := s0.trans s1
    generalize upd H1 e1 (.lst []) = H2 at *
    refine ite2 (fun c => ?_) (fun c => ?_)
    · have hz0 : zs ≠ [] := by simpa using c
      have hzl : 1 ≤ zs.length := by cases zs with | nil => exact absurd rfl hz0 | cons _ _ => simp
      obtain ⟨L, hL, okL⟩ := hb2
      refine ⟨_, rfl, _, rfl, _, _, rfl, rfl, b, L, _, rfl, hL, okL, by omega, by omega, fun L2 n ok2 n0 n1 => ⟨n, rfl, by omega, by omega, for_range (n := n.toNat) (lo := 0) (fun i σ H' => ∃ (ys : List Str) (x : Option V), σ = [some (.ref b), some (.ref a), some (.int m), some (.ref u), x] ∧ SameB b H H' ∧ BagIn H' b ∧ H' u = some (.lst (ys.map V.str)) ∧ (∀ y ∈ ys, y ∈ zs) ∧ ys.length = i)
        ⟨[], none, rfl, (SameB.of s01).trans draw_same, BagIn.upd ok2, by rw [upd_ne nub]; exact hu2, fun y hy => absurd hy (by simp), rfl⟩ ?_ ?_⟩⟩
      · rintro i σ H3 hi ⟨ys, x, rfl, s3, ⟨L3, hb3, ok3⟩, hu3, hys, hl⟩
        refine ⟨_, rfl, .inl ⟨rfl, _, SqL.of hu3⟩, _, rfl, _, rfl, _, rfl, a, _, rfl, .inl (SqL.of (s3 _ _ hab ha)), b, L3, _, rfl, hb3, ok3, by rw [List.length_map]; omega, by rw [List.length_map]; omega, fun L4 q ok4 q0 q1 => ?_⟩
        obtain ⟨q, rfl⟩ := Int.eq_ofNat_of_zero_le q0
        rw [List.length_map] at q1
        have hq : q < zs.length := by omega
        have s34 : SameB b H3 (upd H3 b (.lst (L4.map V.int))) := draw_same
        refine ⟨a, _, (q : Int), .str zs[q], rfl, rfl, SqL.of (s34 _ _ hab (s3 _ _ hab ha)), atI_nat (by rw [List.getElem?_map, List.getElem?_eq_getElem hq]; rfl), ?_⟩
        refine ⟨u, _, _, rfl, rfl, by rw [upd_ne nub]; exact hu3, by rw [List.length_map]; exact small1000 (by omega), ys ++ [zs[q]], _, rfl, fun d o nd h => ?_, ⟨L4, by rw [upd_ne nub.symm, upd_same], ok4⟩, by rw [upd_same, List.map_append]; rfl, fun y hy => ?_, by rw [List.length_append, hl]; rfl⟩
        · rw [upd_ne (ne_of_none h hu)]
          exact s34 _ _ nd (s3 _ _ nd h)
        · rcases List.mem_append.mp hy with h | h
          · exact hys y h
          · obtain rfl := List.mem_singleton.mp h
            exact List.getElem_mem hq
      · rintro σ H3 ⟨ys, x, rfl, s3, hb3, hu3, hys, hl⟩
        exact ⟨_, rfl, k H3 u ys s3 hb3 nub hu3 hys (by omega)⟩
    · exact ⟨_, rfl, k H2 u [] (SameB.of s01) hb2 nub hu2 (fun y hy => absurd hy (by simp)) (by simpa using hm0)⟩
end
end Dl

namespace Dl
open PySem PySem.Spec PyProof.Rows L2
theorem rows_rs' {b : Addr} {ls : List Str} {H : Hp} : ∀ {rows : List RowIn} {ks : List Str}, (∀ r ∈ rows, RowD b ls H r) → rows.map (·.look) = ks.map V.str → ∃ rs : List (Str × List Str), rows.map RowIn.dat = rs.map rdat ∧ (rs.map fun x : Str × List Str => x.1) = ks ∧ ∀ x ∈ rs, x.2.Sublist ls
  | [], ks, _, e => by
    cases ks with
    | nil => exact ⟨[], rfl, rfl, fun x h => absurd h (by simp)⟩
    | cons _ _ => cases e
  | r :: q, ks, h, e => by
    cases ks with
    | nil => cases e
    | cons k ks =>
      rw [List.map_cons, List.map_cons] at e
      injection e with e1 e2
      obtain ⟨rs, q1, q2, q3⟩ := rows_rs' (rows := q) (ks := ks) (fun x hx => h x (List.mem_cons_of_mem _ hx)) e2
      obtain ⟨sh, s1, s2⟩ := (h r (List.mem_cons_self ..)).sub
      refine ⟨(k, sh) :: rs, ?_, ?_, fun x hx => ?_⟩
      · rw [List.map_cons, List.map_cons, q1]
        have : RowIn.dat r = rdat (k, sh) := by unfold RowIn.dat rdat; rw [e1, s1]
        rw [this]
      · rw [List.map_cons, q2]
      · rcases List.mem_cons.mp hx with h | h
        · rw [h]; exact s2
        · exact q3 x h
theorem NamesOk.bag {zs : List Str} (ok : NamesOk zs) : ∀ z ∈ zs, canS z := fun z h => valid_can (ok.valid h)
theorem tabok_of {ls ks : List Str} {rs : List (Str × List Str)} (okl : NamesOk ls) (okk : NamesOk ks) (e : (rs.map fun x : Str × List Str => x.1) = ks) (sub : ∀ x ∈ rs, x.2.Sublist ls) : TabOk ls rs :=
  ⟨okl.nd, fun z h => okl.valid h, okl.few, by rw [e]; exact okk.nd, fun x h => okk.valid (by rw [← e]; exact List.mem_map_of_mem h), by rw [← List.length_map (f := fun x : Str × List Str => x.1), e]; exact okk.few, sub⟩
theorem ln_len : LN.length = 12 := by decide +kernel
theorem ln_no {ks : List Str} (ok : NamesOk ks) : LN ∉ ks := fun h => by
  obtain ⟨i, hi, e⟩ := List.getElem_of_mem h
  have q := ((ok.at_ i LN (by rw [List.getElem?_eq_getElem hi, e])).sg (by have := ok.few; omega)).2.2
  rw [ln_len] at q
  omega
theorem less_eq {xs ls zs : List Str} (h : xs.Sublist ls) : chosen xs (goneOf ls zs) = goneOf xs zs := by
  unfold chosen goneOf
  apply List.filter_congr
  intro z hz
  have : z ∈ ls := h.subset hz
  simp [List.mem_filter, this]
theorem gone_step {ls zs : List Str} {i : Nat} {l : Str} (h : ls[i]? = some l) : goneOf (ls.take (i + 1)) zs = goneOf (ls.take i) zs ++ (if (!decide (l ∈ zs)) = true then [l] else []) := by
  unfold goneOf
  rw [take_at h, List.filter_append]
  by_cases q : (!decide (l ∈ zs)) = true
  · rw [if_pos q]; simp only [List.filter_cons, List.filter_nil, q, if_true]
  · rw [if_neg q]; simp only [List.filter_cons, List.filter_nil, q, if_false]; rfl
theorem chosen_step {ls zs : List Str} {i : Nat} {l : Str} (h : ls[i]? = some l) : chosen (ls.take (i + 1)) zs = chosen (ls.take i) zs ++ (if decide (l ∈ zs) = true then [l] else []) := by
  unfold chosen
  rw [take_at h, List.filter_append]
  by_cases q : decide (l ∈ zs) = true
  · rw [if_pos q]; simp only [List.filter_cons, List.filter_nil, q, if_true]
  · rw [if_neg q]; simp only [List.filter_cons, List.filter_nil, q, if_false]; rfl
theorem gone_len {ls zs : List Str} {i : Nat} (h : ls.length ≤ 24) : (goneOf (ls.take i) zs).length ≤ 24 := Nat.le_trans (List.length_filter_le _ _) (by rw [List.length_take]; omega)
theorem chosen_len {ls zs : List Str} {i : Nat} (h : ls.length ≤ 24) : (chosen (ls.take i) zs).length ≤ 24 := Nat.le_trans (List.length_filter_le _ _) (by rw [List.length_take]; omega)
theorem TabOk.snoc {ls : List Str} {rs : List (Str × List Str)} (ok : TabOk ls rs) {zs : List Str} (kn : LN ∉ rs.map fun x : Str × List Str => x.1) (few : rs.length ≤ 23) (hz : zs.Sublist ls) : TabOk ls (rs ++ [(LN, zs)]) := by
  refine ⟨ok.lnd, ok.lval, ok.lfew, ?_, fun x hx => ?_, ?_, fun x hx => ?_⟩
  · rw [List.map_append, List.nodup_append]
    refine ⟨ok.knd, by simp, fun a ha c hc => ?_⟩
    obtain rfl := List.mem_singleton.mp hc
    exact fun e => kn (by rw [show a = LN from e] at ha; exact ha)
  · rcases List.mem_append.mp hx with h | h
    · exact ok.kval x h
    · obtain rfl := List.mem_singleton.mp h
      exact ln_valid
  · rw [List.length_append]
    simp
    omega
  · rcases List.mem_append.mp hx with h | h
    · exact ok.sub x h
    · obtain rfl := List.mem_singleton.mp h
      exact hz
def spLaw6 (K : PySem.W.Frag) : Sp := fun vs H Q _ => ∃ (a : Addr) (ns : List Int), vs = [.ref a] ∧ SqL K H a (ns.map V.int) ∧ ns.length ≤ 63 ∧ ∀ H', Q (.bl true) H'
section
variable {P : Program} {w : World} {K : PySem.W.Frag} {mg : Str → Option Value} {base : Heap} {C : Cs} {CT : Addr}
theorem scLaw6 : FnScope ["_law_script", "_law_bag_here", "_law_lamps", "_law_rows_here", "_law_table", "_law_gone", "_law_stay", "_law_drawn", "_law_shown", "_law_less", "_law_row", "_law_left", "_law_lamp"] ["_law_script"] (defScope sLaw) := ⟨rfl, rfl, rfl, by decide +kernel, rfl, by decide +kernel, by decide +kernel⟩
theorem ok_law6 {f : Addr} {fd : FuncData} (F : Fun K "law" "law" sLaw f fd) (T : TxtI mg) (gTab : mg "Table" = some (.ref CT)) (init : ∃ fT fdT, Mk K CT fT ∧ Binds K fdT ["self", "lamps", "looks"] [] ∧ FnOk P w K mg base (L2.CX P w) 8 fT fdT ["self", "lamps", "looks"] (spTabInit2 K CT C))
    (gB : Dfn P w K mg base CX0 1 "_law_bag" ["_law_script"] (spBag K)) (gT : Dfn P w K mg base CX0 1 "_law_take" ["_law_bag_here", "_law_size"] spTake)
    (gN : Dfn P w K mg base CX0 3 "_law_names" ["_law_bag_here", "_law_count"] spNames) (gR : Dfn P w K mg base CX0 3 "_law_rows" ["_law_bag_here", "_law_lamps", "_law_looks"] spRows3c)
    (gG : Dfn P w K mg base CX0 1 "_law_given" ["_law_rows_here", "_law_way"] spGiven) (gS : Dfn P w K mg base CX0 2 "_law_some" ["_law_bag_here", "_law_names_here", "_law_most"] spSome)
    (gI : Dfn P w K mg base CX0 2 "_law_is_table" ["_law_table", "_law_lamps", "_law_rows_here"] (spIsTable CT))
    (gK : Dfn P w K mg base CX0 11 "_law_taken_out" ["_law_table", "_law_gone"] (spTaken CT)) (gO : Dfn P w K mg base CX0 11 "_law_only" ["_law_table", "_law_stay"] (spOnlyL CT)) (gW : Dfn P w K mg base CX0 11 "_law_with" ["_law_table", "_law_shown"] (spWithL CT)) :
    FnOk P w K mg base CX0 12 f fd ["_law_script"] (spLaw6 K) := by
  obtain ⟨fM, fdM, M, bM, GM⟩ := init
  obtain ⟨fB, dB, mBag, kBag, bBag, GBag⟩ := gB
  obtain ⟨fT, dT, mTake, kTake, bTake, GTake⟩ := gT
  obtain ⟨fN, dN, mNames, kNames, bNames, GNames⟩ := gN
  obtain ⟨fR, dR, mRows, kRows, bRows, GRows⟩ := gR
  obtain ⟨fG, dG, mGiven, kGiven, bGiven, GGiven⟩ := gG
  obtain ⟨fS, dS, mSome, kSome, bSome, GSome⟩ := gS
  obtain ⟨fI, dI, mIs, kIs, bIs, GIs⟩ := gI
  obtain ⟨fK, dK, mTk, kTk, bTk, GTk⟩ := gK
  obtain ⟨fO, dO, mOn, kOn, bOn, GOn⟩ := gO
  obtain ⟨fW, dW, mWi, kWi, bWi, GWi⟩ := gW
  refine F.ok scLaw6 (fun vs H Q E h => ?_) (fun cdv A outer s H vs Q E hr h => ?_)
  · obtain ⟨a, ns, rfl, _⟩ := h
    rfl
  · obtain ⟨a0, ns, rfl, hS, hlen, k⟩ := h
    have hr11 : Room 11 _ := hr
    have hr9 : Room 9 _ := hr.mono (by decide)
    have hr3 : Room 3 _ := hr.mono (by decide)
    have hr2 : Room 2 _ := hr.mono (by decide)
    have hr1 : Room 1 _ := hr.mono (by decide)
    refine ⟨_, (pss_cons (ps_set (i := 1) scLaw6.nd rfl (Or.inl rfl) (pe_call GBag hr1 (by rfl) mBag kBag bBag .nil pass0 (pa_cons (pv 0) pa_nil)))
        (pss_cons (ps_set (i := 2) scLaw6.nd rfl (Or.inl rfl) (pe_call GNames hr3 (by rfl) mNames kNames bNames .nil pass0 (pa_cons (pv 1) (pa_cons (pe_call GTake hr1 (by rfl) mTake kTake bTake .nil pass0 (pa_cons (pv 1) (pa_cons pe_int pa_nil))) pa_nil))))
        (pss_cons (ps_set (i := 3) scLaw6.nd rfl (Or.inl rfl) (pe_call GRows hr3 (by rfl) mRows kRows bRows .nil pass0 (pa_cons (pv 1) (pa_cons (pv 2) (pa_cons (pe_call GNames hr3 (by rfl) mNames kNames bNames .nil pass0 (pa_cons (pv 1) (pa_cons (pe_call GTake hr1 (by rfl) mTake kTake bTake .nil pass0 (pa_cons (pv 1) (pa_cons pe_int pa_nil))) pa_nil))) pa_nil)))))
        (pss_cons (ps_set (i := 4) scLaw6.nd rfl (Or.inl rfl) (pe_make M GM hr9 (by rfl) gTab bM .nil passL (pa_cons (pe_callTy call_list_of (by rfl) T.list (by decide +kernel) (pa_cons (pv 2) pa_nil)) (pa_cons (pe_call GGiven hr1 (by rfl) mGiven kGiven bGiven .nil pass0 (pa_cons (pv 3) (pa_cons pe_int pa_nil))) pa_nil))))
        (pss_cons (ps_set (i := 5) scLaw6.nd rfl (Or.inr rfl) (pe_call GSome hr2 (by rfl) mSome kSome bSome .nil pass0 (pa_cons (pv 1) (pa_cons (pv 2) (pa_cons pe_int pa_nil)))))
        (pss_cons (ps_set (i := 6) scLaw6.nd rfl (Or.inr rfl) (pe_call GSome hr2 (by rfl) mSome kSome bSome .nil pass0 (pa_cons (pv 1) (pa_cons (pe_lc (own := [("_law_row", 10)]) (g := gName 10) (tt := tYes) rfl scLaw6.nd (pi_list (pv 3)) (blkOk_by (N := ["_law_script", "_law_bag_here", "_law_lamps", "_law_rows_here", "_law_table", "_law_gone", "_law_stay", "_law_drawn", "_law_shown", "_law_less", "_law_row", "_law_left", "_law_lamp"]) (sc := defScope sLaw) (by decide +kernel)) (fun _ _ _ _ _ => (pg_name (i := 10) scLaw6.nd rfl (Or.inl rfl))) (fun _ _ _ _ _ => pts_nil) (fun _ _ _ _ _ => (pe_ix (by exact ix_tup : IxR _ (rIxT K)) (pv 10) pe_int (fun _ _ => rfl)))) (pa_cons pe_int pa_nil)))))
        (pss_cons (ps_set (i := 7) scLaw6.nd rfl (Or.inr rfl) (pe_call GSome hr2 (by rfl) mSome kSome bSome .nil pass0 (pa_cons (pv 1) (pa_cons (pv 2) (pa_cons pe_int pa_nil)))))
        (pss_cons (ps_set (i := 8) scLaw6.nd rfl (Or.inl rfl) (pe_slice sl_list (pe_lc (own := [("_law_lamp", 12)]) (g := gName 12) rfl scLaw6.nd (pi_list (pv 2)) (blkOk_by (N := ["_law_script", "_law_bag_here", "_law_lamps", "_law_rows_here", "_law_table", "_law_gone", "_law_stay", "_law_drawn", "_law_shown", "_law_less", "_law_row", "_law_left", "_law_lamp"]) (sc := defScope sLaw) (by decide +kernel)) (fun _ _ _ _ _ => (pg_name (i := 12) scLaw6.nd rfl (Or.inl rfl))) (fun _ _ _ _ _ => (pts_one (pt_cmpR (by exact op_in_seq : OpR _ _ (rIn K false)) (pv 12) (pv 7) (by rfl)))) (fun _ _ _ _ _ => (pv 12))) po_none (po_some pe_int)))
        (pss_cons (ps_set (i := 9) scLaw6.nd rfl (Or.inl rfl) (pe_lst pa_nil))
        (pss_cons (ps_for PassesOwn.never rfl (pi_list (pv 3)) (pg_name (i := 10) scLaw6.nd rfl (Or.inl rfl)) (pss_one (ps_expr (pe_bm PySem.F.plainAttrs_list PySem.F.slot_list_append PySem.F.type_list_append mt_append (pv 9) (pa_cons (pe_tup (pa_cons (pe_ix ix_tup (pv 10) pe_int (fun _ _ => rfl)) (pa_cons (pe_lc (own := [("_law_lamp", 12)]) (g := gName 12) rfl scLaw6.nd (pi_list (pe_ix ix_tup (pv 10) pe_int (fun _ _ => rfl))) (blkOk_by (N := ["_law_script", "_law_bag_here", "_law_lamps", "_law_rows_here", "_law_table", "_law_gone", "_law_stay", "_law_drawn", "_law_shown", "_law_less", "_law_row", "_law_left", "_law_lamp"]) (sc := defScope sLaw) (by decide +kernel)) (fun _ _ _ _ _ => (pg_name (i := 12) scLaw6.nd rfl (Or.inl rfl))) (fun _ _ _ _ _ => (pts_one (pt_cmpR (by exact op_notIn_seq : OpR _ _ (rIn K true)) (pv 12) (pv 5) (by rfl)))) (fun _ _ _ _ _ => (pv 12))) pa_nil))) pa_nil)))))
        (pss_cons (ps_setLc (i := 11) (own := [("_law_lamp", 12)]) (g := gName 12) rfl scLaw6.nd rfl rfl (sw_true rfl rfl rfl (by decide +kernel)) (pi_list (pv 2)) (blkOk_by (N := ["_law_script", "_law_bag_here", "_law_lamps", "_law_rows_here", "_law_table", "_law_gone", "_law_stay", "_law_drawn", "_law_shown", "_law_less", "_law_row", "_law_left", "_law_lamp"]) (sc := defScope sLaw) (by decide +kernel)) (fun _ _ _ _ _ => (pg_name (i := 12) scLaw6.nd rfl (Or.inl rfl))) (fun _ _ _ _ _ => (pts_one (pt_cmpR (by exact op_notIn_seq : OpR _ _ (rIn K true)) (pv 12) (pv 5) (by rfl)))) (fun _ _ _ _ _ => (pv 12)))
        (pss_cons (ps_if (pt_not (pt_val (pe_call GIs hr2 (by rfl) mIs kIs bIs .nil pass0 (pa_cons (pe_call GTk hr11 (by rfl) mTk kTk bTk .nil pass0 (pa_cons (pv 4) (pa_cons (pv 5) pa_nil))) (pa_cons (pv 11) (pa_cons (pv 9) pa_nil)))))) (pss_one (ps_ret pe_bl)) pss_nil)
        (pss_cons (ps_if (pt_not (pt_val (pe_call GIs hr2 (by rfl) mIs kIs bIs .nil pass0 (pa_cons (pe_call GOn hr11 (by rfl) mOn kOn bOn .nil pass0 (pa_cons (pv 4) (pa_cons (pv 6) pa_nil))) (pa_cons (pv 2) (pa_cons (pe_lc (own := [("_law_row", 10)]) (g := gName 10) rfl scLaw6.nd (pi_list (pv 3)) (blkOk_by (N := ["_law_script", "_law_bag_here", "_law_lamps", "_law_rows_here", "_law_table", "_law_gone", "_law_stay", "_law_drawn", "_law_shown", "_law_less", "_law_row", "_law_left", "_law_lamp"]) (sc := defScope sLaw) (by decide +kernel)) (fun _ _ _ _ _ => (pg_name (i := 10) scLaw6.nd rfl (Or.inl rfl))) (fun _ _ _ _ _ => (pts_one (pt_cmpR (by exact op_in_seq : OpR _ _ (rIn K false)) (pe_ix (by exact ix_tup : IxR _ (rIxT K)) (pv 10) pe_int (fun _ _ => rfl)) (pv 6) (by rfl)))) (fun _ _ _ _ _ => (pv 10))) pa_nil)))))) (pss_one (ps_ret pe_bl)) pss_nil)
        (pss_cons (ps_if (pt_not (pt_val (pe_call GIs hr2 (by rfl) mIs kIs bIs .nil pass0 (pa_cons (pe_call GWi hr11 (by rfl) mWi kWi bWi .nil pass0 (pa_cons (pv 4) (pa_cons (pv 8) pa_nil))) (pa_cons (pv 2) (pa_cons (pe_op op_cat (pv 3) (pe_lst (pa_cons (pe_tup (pa_cons pe_str (pa_cons (pv 8) pa_nil))) pa_nil))) pa_nil)))))) (pss_one (ps_ret pe_bl)) pss_nil)
        (pss_one (ps_ret (pe_call GIs hr2 (by rfl) mIs kIs bIs .nil pass0 (pa_cons (pv 4) (pa_cons (pv 2) (pa_cons (pv 3) pa_nil)))))))))))))))))))), ?_⟩
    refine ⟨_, rfl, a0, ns, rfl, hS, hlen, fun H1 b L s1 hb0 hL hok => ?_⟩
    refine ⟨_, rfl, _, rfl, b, L, 7, rfl, hL, hok, by decide, by decide, fun L1 n ok1 n0 n1 => ⟨b, L1, n, rfl, upd_same, ok1, n0, by omega, fun H2 a L2 ls s2 han ha hb2 ok2 okl hl => ?_⟩⟩
    have nab : a ≠ b := fun e => by rw [e, upd_same] at han; cases han
    refine ⟨_, rfl, _, rfl, _, rfl, _, rfl, b, L2, 7, rfl, hb2, ok2, by decide, by decide, fun L3 m ok3 m0 m1 => ⟨b, L3, m, rfl, upd_same, ok3, m0, by omega, fun H4 c L4 ks s4 hcn hc hb4 ok4 okk hk => ?_⟩⟩
    have ncb : c ≠ b := fun e => by rw [e, upd_same] at hcn; cases hcn
    have ha4 := s4 _ _ nab (draw_same _ _ nab ha)
    have lcan := okl.bag
    have kcan := okk.bag
    have hll : ls.length ≤ 24 := okl.few
    have hkl : ks.length ≤ 24 := okk.few
    refine ⟨b, a, c, ls, ks, rfl, ⟨L4, hb4, ok4⟩, nab, ncb, ha4, hc, lcan, kcan, hll, hkl, fun H5 R rows s5 hb5 hR5 => ?_⟩
    have ha5 := s5 _ _ nab ha4
    obtain ⟨rs, hdat, hks, hsub⟩ := rows_rs' hR5.all hR5.looks
    subst hks
    have ok := tabok_of okl okk rfl hsub
    have hrl : rows.length = rs.length := by
      have e := congrArg List.length hdat
      rw [List.length_map, List.length_map] at e
      exact e
    have hkf := ok.kfew
    -- the table
    refine ⟨_, rfl, a, _, rfl, .inl (SqL.of ha5), fun l hl5 => ?_⟩
    have s6 : Same H5 (upd H5 l (.lst (ls.map V.str))) := Same.upd_new hl5
    refine ⟨_, rfl, R, 0, rows, rfl, .inl rfl, s6 _ _ hR5.lst, fun r hr => ((hR5.all r hr).g).of s6, by omega, fun H7 R' rows' s7 hR'0 hR' hrw' hdat' => ?_⟩
    have hl7 := s7 _ _ (upd_same (H := H5) (a := l) (o := .lst (ls.map V.str)))
    have s57 := s6.trans s7
    generalize upd H5 l (.lst (ls.map V.str)) = H6 at *
    have hd' : rows'.map RowIn.dat = rs.map rdat := by
      rw [hdat', ← hdat]
      rfl
    have hrl' : rows'.length = rs.length := by
      have e := congrArg List.length hd'
      rw [List.length_map, List.length_map] at e
      exact e
    refine fun x dx nx ndx nex => ?_
    have sm : Same H7 (upd (upd H7 dx (.own x)) x (.ins CT dx [])) := fun c o e => by
      rw [upd_ne (ne_of_none e nx), upd_ne (ne_of_none e ndx)]; exact e
    refine ⟨H7, x, dx, l, R', ls.map V.str, rows', rfl, sm, nx, upd_same, .inl (SqL.of hl7), ok.lampsNm, by rw [List.length_map]; omega, .inl (SqL.of hR'), fun r hr => ?_, by omega, fun ls' rs' e H8 s8 hT8 => ⟨rfl, ?_⟩, fun e he => ?_⟩
    · obtain ⟨i, hi, ei⟩ := List.getElem_of_mem hr
      have hir : i < rs.length := by omega
      have ed : r.dat = rdat rs[i] := by
        have e := congrArg (fun l => l[i]?) hd'
        simp only [List.getElem?_map, List.getElem?_eq_getElem hi, List.getElem?_eq_getElem hir, Option.map_some, ei] at e
        exact Option.some.inj e
      have e1 : r.look = .str rs[i].1 := congrArg Prod.fst ed
      have e2 : r.xs = rs[i].2.map V.str := congrArg Prod.snd ed
      have G := (hrw' r hr).1
      have hm : rs[i] ∈ rs := List.getElem_mem hir
      refine ⟨SqT.of G.pair, by rw [e1]; exact validN_nm (ok.kval _ hm), .inl (SqL.of G.lst), by rw [e2]; exact strs_nm fun z hz => ok.lval z ((ok.sub _ hm).subset hz), ?_⟩
      rw [e2, List.length_map]
      have := (ok.sub _ hm).length_le
      omega
    · rw [hd', init_ok ok] at e
      cases e
      have s58 := s57.trans s8
      have hb8 := hb5.of s58
      have ha8 := s58 _ _ ha5
      have hR8 := hR5.of hb5.lst (SameB.of s58)
      have hT8' := hT8
      clear hb5 ha5 hR5 s8 hT8 hrw' hdat' hd' hrl' hR' hR'0 hl7 sm hcn hc hb4 ha4
      have lenR : (refsOf rows).length = rs.length := by unfold refsOf; rw [List.length_map, hrl]
      have hrow : ∀ {i : Nat} {v : V}, (refsOf rows)[i]? = some v → ∃ r, ∃ h : i < rs.length, r ∈ rows ∧ v = .ref r.t ∧ r.look = .str rs[i].1 ∧ r.xs = rs[i].2.map V.str ∧ rs[i]? = some rs[i] := fun {i v} hv => by
        obtain ⟨r, hr, rfl⟩ := map_at (show (rows.map fun r => V.ref r.t)[i]? = some v from hv)
        have hi : i < rows.length := (List.getElem?_eq_some_iff.mp hr).1
        have hir : i < rs.length := by omega
        have ed : r.dat = rdat rs[i] := by
          have e := congrArg (fun l => l[i]?) hdat
          simp only [List.getElem?_map, hr, List.getElem?_eq_getElem hir, Option.map_some] at e
          exact Option.some.inj e
        exact ⟨r, hir, List.mem_of_getElem? hr, rfl, congrArg Prod.fst ed, congrArg Prod.snd ed, List.getElem?_eq_getElem hir⟩
      -- gone
      refine ⟨_, rfl, _, rfl, b, a, 3, ls, rfl, hb8, nab, ha8, lcan, hll, by decide, by decide, fun H9 g gs s9 hb9 ngb hg hgs hgl => ?_⟩
      have ha9 := s9 _ _ nab ha8
      have hR9 := hR8.of hb8.lst s9
      have nbT : ∀ {Ha : Hp}, TableAt CT Ha x ls rs → ∀ {H' : Hp}, (∃ xs, Ha b = some (.lst xs)) → SameB b Ha H' → TableAt CT H' x ls rs := fun {Ha} h {H'} hb s => by
        obtain ⟨dx, lt, sd, kt, kvs, q1, q2, q3, q4, q5⟩ := h
        obtain ⟨xs, hxs⟩ := hb
        have nb : ∀ {c : Addr} {o : HO}, Ha c = some o → (∀ ys, o ≠ .lst ys) → H' c = some o := fun {c o} h n => s c o (fun e => by rw [e, hxs] at h; cases h; exact n _ rfl) h
        exact ⟨dx, lt, sd, kt, kvs, nb q1 (fun _ e => by cases e), nb q2 (fun _ e => by cases e), nb q3 (fun _ e => by cases e), nb q4 (fun _ e => by cases e), q5.of fun b ys e => nb e (fun _ e => by cases e)⟩
      have hT9 := nbT hT8' hb8.lst s9
      clear hb8 ha8 hR8 s9 hT8'
      -- stay
      refine ⟨_, rfl, _, rfl, R, rfl, ⟨_, SqL.of hR9.lst⟩, fun D hD => lc_it (walk_list (K := K) (a := R) (xs := refsOf rows)) (fun i H' => H' = upd H9 D (.lst (((rs.map fun x : Str × List Str => x.1).take i).map V.str))) rfl (fun i H' _ e => by rw [e]; exact SqL.of ((Same.upd_new hD) _ _ hR9.lst)) ?_ ?_⟩
      · rintro i v H6 H7 hi rfl ⟨rfl, hv⟩
        obtain ⟨r, hir, hr, rfl, gl, gx, hri⟩ := hrow hv
        have pg := (((hR9.all r hr).g).of (Same.upd_new hD (o := .lst (((rs.map fun x : Str × List Str => x.1).take i).map V.str)))).pair
        rw [gl] at pg
        refine ⟨rfl, _, rfl, r.t, _, 0, _, rfl, rfl, SqT.of pg, rfl, _, upd_same, ?_, ?_⟩
        · rw [List.length_map, List.length_take]
          exact small1000 (by omega)
        · rw [upd_upd, take_at (show (rs.map fun x : Str × List Str => x.1)[i]? = some rs[i].1 by rw [List.getElem?_map, hri]; rfl), List.map_append]
          rfl
      rintro H10 rfl
      rw [show (rs.map fun x : Str × List Str => x.1).take (refsOf rows).length = rs.map fun x : Str × List Str => x.1 by rw [lenR, ← List.length_map (f := fun x : Str × List Str => x.1), List.take_length]]
      have s10 : Same H9 (upd H9 D (.lst ((rs.map fun x : Str × List Str => x.1).map V.str))) := Same.upd_new hD
      have hD10 : upd H9 D (.lst ((rs.map fun x : Str × List Str => x.1).map V.str)) D = some (.lst ((rs.map fun x : Str × List Str => x.1).map V.str)) := upd_same
      have nDb : D ≠ b := fun e => by obtain ⟨y, hy⟩ := hb9.lst; rw [e, hy] at hD; cases hD
      have hT10 := hT9.of s10
      have hb10 := hb9.of s10
      have ha10 := s10 _ _ ha9
      have hR10 := hR9.of hb9.lst (SameB.of s10)
      have hg10 := s10 _ _ hg
      generalize upd H9 D (.lst ((rs.map fun x : Str × List Str => x.1).map V.str)) = H10 at *
      clear hT9 hb9 ha9 hR9 hg hD s10
      refine ⟨b, D, 3, (rs.map fun x : Str × List Str => x.1), rfl, hb10, nDb, hD10, kcan, hkl, by decide, by decide, fun H11 st sts s11 hb11 nstb hst hsts hstl => ?_⟩
      have ha11 := s11 _ _ nab ha10
      have hR11 := hR10.of hb10.lst s11
      have hg11 := s11 _ _ ngb hg10
      have hT11 := nbT hT10 hb10.lst s11
      clear hT10 hb10 ha10 hR10 hg10 hD10 s11
      -- drawn
      refine ⟨_, rfl, _, rfl, b, a, 5, ls, rfl, hb11, nab, ha11, lcan, hll, by decide, by decide, fun H12 d ds s12 hb12 ndb hd hds hdl => ?_⟩
      have ha12 := s12 _ _ nab ha11
      have hR12 := hR11.of hb11.lst s12
      have hg12 := s12 _ _ ngb hg11
      have hst12 := s12 _ _ nstb hst
      have hT12 := nbT hT11 hb11.lst s12
      clear hT11 hb11 ha11 hR11 hg11 hst s12
      -- shown
      refine ⟨_, rfl, a, rfl, ⟨_, SqL.of ha12⟩, fun D2 hD2 => lc_it (walk_list (K := K) (a := a) (xs := ls.map V.str)) (fun i H' => H' = upd H12 D2 (.lst ((chosen (ls.take i) ds).map V.str))) (by show _ = _; simp [chosen]) (fun i H' _ e => by rw [e]; exact SqL.of (Same.upd_new hD2 _ _ ha12)) ?_ ?_⟩
      · rintro i v H6 H7 hi rfl ⟨rfl, hv⟩
        obtain ⟨z, hz, rfl⟩ := map_at hv
        have s6 : Same H12 (upd H12 D2 (.lst ((chosen (ls.take i) ds).map V.str))) := Same.upd_new hD2
        refine ⟨rfl, _, rfl, _, rfl, d, _, rfl, .inl (SqL.of (s6 _ _ hd)), rfl, flat_strs ds, _, rfl, ?_⟩
        rw [inV_str]
        by_cases q : z ∈ ds
        · rw [decide_eq_true q]
          refine iteT ⟨_, rfl, _, upd_same, by rw [List.length_map]; exact small1000 (by have := chosen_len (zs := ds) (i := i) hll; omega), ?_⟩
          rw [upd_upd, chosen_step hz, if_pos (decide_eq_true q), List.map_append]
          rfl
        · rw [decide_eq_false q]
          refine iteF ?_
          rw [chosen_step hz, if_neg (by simpa using q), List.append_nil]
      rintro H13 rfl
      rw [List.length_map, List.take_length]
      have ec : cutV ((chosen ls ds).map V.str) none (some 2) = ((chosen ls ds).take 2).map V.str := by rw [show (2 : Int) = ((2 : Nat) : Int) from rfl, cut_take, List.map_take]
      refine ⟨_, rfl, D2, _, rfl, SqL.of upd_same, fun sh hsh => ?_⟩
      rw [ec]
      have shsub : ((chosen ls ds).take 2).Sublist ls := (List.take_sublist _ _).trans (chosen_is_sub ls ds)
      have shlen : ((chosen ls ds).take 2).length ≤ 2 := by rw [List.length_take]; omega
      generalize (chosen ls ds).take 2 = shs at *
      have s13 : Same H12 (upd (upd H12 D2 (.lst ((chosen ls ds).map V.str))) sh (.lst (shs.map V.str))) := (Same.upd_new hD2).trans (Same.upd_new hsh)
      have hsh13 : (upd (upd H12 D2 (.lst ((chosen ls ds).map V.str))) sh (.lst (shs.map V.str))) sh = some (.lst (shs.map V.str)) := upd_same
      have hT13 := hT12.of s13
      have hb13 := hb12.of s13
      have ha13 := s13 _ _ ha12
      have hR13 := hR12.of hb12.lst (SameB.of s13)
      have hg13 := s13 _ _ hg12
      have hst13 := s13 _ _ hst12
      have hd13 := s13 _ _ hd
      generalize upd (upd H12 D2 (.lst ((chosen ls ds).map V.str))) sh (.lst (shs.map V.str)) = H13 at *
      clear hT12 hb12 ha12 hR12 hg12 hst12 hd s13 hsh hD2
      -- less
      refine ⟨Nat.zero_le _, fun LS hLS => ?_⟩
      have s14 : Same H13 (upd H13 LS (.lst [])) := Same.upd_new hLS
      refine ⟨_, rfl, R, rfl, ⟨_, SqL.of (s14 _ _ hR13.lst)⟩, for_it (walk_list (K := K) (a := R) (xs := refsOf rows)) (fun i σ H' => ∃ (x10 : Option V) (rl : List RowIn), σ = [some (.ref a0), some (.ref b), some (.ref a), some (.ref R), some (.ref x), some (.ref g), some (.ref st), some (.ref d), some (.ref sh), some (.ref LS), x10, none, none] ∧ Same H13 H' ∧ H' LS = some (.lst (refsOf rl)) ∧
          (∀ r ∈ rl, RowG H' r ∧ r.s ≠ LS) ∧ rl.map RowIn.dat = ((rs.take i).map fun x : Str × List Str => (x.1, goneOf x.2 gs)).map rdat ∧ rl.length = i) ⟨none, [], rfl, s14, upd_same, fun r hr => absurd hr (by simp), rfl, rfl⟩ (fun i σ H' _ ⟨_, _, _, s, _⟩ => SqL.of (s _ _ hR13.lst)) ?_ ?_⟩
      · rintro i v σ H2' H3 hi ⟨x10, rl, rfl, s2, hLS2, hrl2, hdat2, hlen2⟩ ⟨rfl, hv⟩
        obtain ⟨r, hir, hr, rfl, gl, gx, hri⟩ := hrow hv
        have G := ((hR13.all r hr).g).of s2
        have pg := G.pair
        have qg := G.lst
        rw [gl] at pg
        rw [gx] at qg
        have hxl : rs[i].2.length ≤ 24 := Nat.le_trans (ok.sub _ (List.getElem_mem hir)).length_le hll
        refine ⟨_, rfl, .inl ⟨rfl, _, SqL.of hLS2⟩, _, rfl, r.t, _, 0, _, rfl, rfl, SqT.of pg, rfl, _, rfl, r.t, _, 1, _, rfl, rfl, SqT.of pg, rfl, r.s, rfl, ⟨_, SqL.of qg⟩, fun D hD => lc_it (walk_list (K := K) (a := r.s) (xs := rs[i].2.map V.str)) (fun j H' => H' = upd H3 D (.lst ((goneOf (rs[i].2.take j) gs).map V.str))) (by show _ = _; simp [goneOf]) (fun j H' _ e => by rw [e]; exact SqL.of (Same.upd_new hD _ _ qg)) ?_ ?_⟩
        · rintro j v H6 H7 hj rfl ⟨rfl, hv⟩
          obtain ⟨z, hz, rfl⟩ := map_at hv
          have s6 : Same H3 (upd H3 D (.lst ((goneOf (rs[i].2.take j) gs).map V.str))) := Same.upd_new hD
          refine ⟨rfl, _, rfl, _, rfl, g, _, rfl, .inl (SqL.of (s6 _ _ (s2 _ _ hg13))), rfl, flat_strs gs, _, rfl, ?_⟩
          rw [inV_str]
          by_cases q : z ∈ gs
          · rw [decide_eq_true q]
            refine iteF ?_
            rw [gone_step hz, if_neg (by simpa using q), List.append_nil]
          · rw [decide_eq_false q]
            refine iteT ⟨_, rfl, _, upd_same, by rw [List.length_map]; exact small1000 (by have := gone_len (zs := gs) (i := j) hxl; omega), ?_⟩
            rw [upd_upd, gone_step hz, if_pos (by simpa using q), List.map_append]
            rfl
        rintro H4' rfl
        rw [List.length_map, List.take_length]
        have nLD : LS ≠ D := ne_of_none hLS2 hD
        refine ⟨by show 2 ≤ sizeLine; decide, fun t ht => ?_⟩
        have ht0 : H3 t = none := (upd_none ht).1
        have ntL : LS ≠ t := ne_of_none hLS2 ht0
        have ntD : D ≠ t := (upd_none ht).2.symm
        refine ⟨LS, _, _, rfl, rfl, by rw [upd_ne ntL, upd_ne nLD]; exact hLS2, ?_, ?_⟩
        · unfold refsOf
          rw [List.length_map]
          exact small1000 (by omega)
        · have keep : ∀ {c : Addr} {o : HO}, c ≠ LS → H3 c = some o → upd (upd (upd H3 D (.lst ((goneOf rs[i].2 gs).map V.str))) t (.tup [.str rs[i].1, .ref D])) LS (.lst (refsOf rl ++ [.ref t])) c = some o := fun n h => by
            rw [upd_ne n, upd_ne (ne_of_none h ht0), upd_ne (ne_of_none h hD)]; exact h
          refine ⟨_, rl ++ [⟨t, .str rs[i].1, D, (goneOf rs[i].2 gs).map V.str⟩], rfl, fun c o h => keep (ne_of_none h hLS) (s2 _ _ h), by rw [upd_same]; unfold refsOf; rw [List.map_append]; rfl, fun y hy => ?_, ?_, ?_⟩
          · rcases List.mem_append.mp hy with h | h
            · obtain ⟨G2, n2⟩ := hrl2 y h
              exact ⟨⟨keep (ne_tup_lst G2.pair hLS2) G2.pair, keep n2 G2.lst⟩, n2⟩
            · obtain rfl := List.mem_singleton.mp h
              exact ⟨⟨by rw [upd_ne ntL.symm, upd_same], by rw [upd_ne nLD.symm, upd_ne ntD]; exact upd_same⟩, nLD.symm⟩
          · rw [List.map_append, hdat2, take_at hri, List.map_append, List.map_append]
            rfl
          · rw [List.length_append, hlen2]
            rfl
      rintro σ H15 ⟨x10, rl, rfl, s15, hLS15, hrl15, hdat15, _⟩
      rw [lenR, List.take_length] at hdat15
      have hrg15 : ∀ r ∈ rl, RowG H15 r := fun r hr => (hrl15 r hr).1
      have edat : rl.map RowIn.dat = (lessOf rs (goneOf ls gs)).map rdat := by
        rw [hdat15]
        congr 1
        unfold lessOf
        apply List.map_congr_left
        intro y hy
        rw [less_eq (ok.sub y hy)]
      have hT15 := hT13.of s15
      have ha15 := s15 _ _ ha13
      have hR15 := hR13.of hb13.lst (SameB.of s15)
      have hb15 := hb13.of s15
      have hg15 := s15 _ _ hg13
      have hst15 := s15 _ _ hst13
      have hsh15 := s15 _ _ hsh13
      clear hT13 ha13 hR13 hb13 hg13 hst13 hsh13 hd13 s15 hrl15 hdat15 s14 hLS
      -- left
      refine ⟨_, rfl, a, rfl, ⟨_, SqL.of ha15⟩, fun D hD => lc_it (walk_list (K := K) (a := a) (xs := ls.map V.str)) (fun j H' => H' = upd H15 D (.lst ((goneOf (ls.take j) gs).map V.str))) (by show _ = _; simp [goneOf]) (fun j H' _ e => by rw [e]; exact SqL.of (Same.upd_new hD _ _ ha15)) ?_ ?_⟩
      · rintro j v H6 H7 hj rfl ⟨rfl, hv⟩
        obtain ⟨z, hz, rfl⟩ := map_at hv
        have s6 : Same H15 (upd H15 D (.lst ((goneOf (ls.take j) gs).map V.str))) := Same.upd_new hD
        refine ⟨rfl, _, rfl, _, rfl, g, _, rfl, .inl (SqL.of (s6 _ _ hg15)), rfl, flat_strs gs, _, rfl, ?_⟩
        rw [inV_str]
        by_cases q : z ∈ gs
        · rw [decide_eq_true q]
          refine iteF ?_
          rw [gone_step hz, if_neg (by simpa using q), List.append_nil]
        · rw [decide_eq_false q]
          refine iteT ⟨_, rfl, _, upd_same, by rw [List.length_map]; exact small1000 (by have := gone_len (zs := gs) (i := j) hll; omega), ?_⟩
          rw [upd_upd, gone_step hz, if_pos (by simpa using q), List.map_append]
          rfl
      rintro H16 rfl
      rw [List.length_map, List.take_length]
      have s16 : Same H15 (upd H15 D (.lst ((goneOf ls gs).map V.str))) := Same.upd_new hD
      have hD16 : upd H15 D (.lst ((goneOf ls gs).map V.str)) D = some (.lst ((goneOf ls gs).map V.str)) := upd_same
      have hT16 := hT15.of s16
      have ha16 := s16 _ _ ha15
      have hR16 := hR15.of hb15.lst (SameB.of s16)
      have hb16 := hb15.of s16
      have hg16 := s16 _ _ hg15
      have hst16 := s16 _ _ hst15
      have hsh16 := s16 _ _ hsh15
      have hLS16 := s16 _ _ hLS15
      have hrg16 : ∀ r ∈ rl, RowG _ r := fun r hr => (hrg15 r hr).of s16
      generalize upd H15 D (.lst ((goneOf ls gs).map V.str)) = H16 at *
      clear hT15 ha15 hR15 hb15 hg15 hst15 hsh15 hLS15 hrg15 s16 hD
      -- taken out
      refine ⟨_, rfl, _, rfl, x, g, ls, rs, gs, rfl, hT16, ok, hg16, hgs, by omega, fun H17 y1 s17 _ t17 => ?_⟩
      refine ⟨_, rfl, _, rfl, y1, D, LS, _, _, rl, rfl, t17, ok.less gs, s17 _ _ hD16, s17 _ _ hLS16, fun r hr => (hrg16 r hr).of s17, edat, fun H18 s18 => ?_⟩
      have s168 := s17.trans s18
      refine ⟨true, rfl, iteF ?_⟩
      have hT18 := hT16.of s168
      have ha18 := s168 _ _ ha16
      have hR18 := hR16.of hb16.lst (SameB.of s168)
      have hb18 := hb16.of s168
      have hst18 := s168 _ _ hst16
      have hsh18 := s168 _ _ hsh16
      clear hT16 ha16 hR16 hb16 hg16 hst16 hsh16 hLS16 hrg16 s17 s18 s168 t17 edat
      -- only
      refine ⟨_, rfl, _, rfl, x, st, ls, rs, sts, rfl, hT18, ok, hst18, hsts, by omega, fun H19 y2 s19 _ t19 => ?_⟩
      have hR19 := hR18.of hb18.lst (SameB.of s19)
      have hst19 := s19 _ _ hst18
      have ha19 := s19 _ _ ha18
      refine ⟨_, rfl, _, rfl, R, rfl, ⟨_, SqL.of hR19.lst⟩, fun D2 hD2 => lc_it (walk_list (K := K) (a := R) (xs := refsOf rows)) (fun i H' => ∃ rl : List RowIn, H' = upd H19 D2 (.lst (refsOf rl)) ∧ (∀ r ∈ rl, r ∈ rows) ∧ rl.map RowIn.dat = (onlyOf (rs.take i) sts).map rdat) ⟨[], rfl, fun r h => absurd h (by simp), rfl⟩ (fun i H' _ ⟨rl, e, _⟩ => by rw [e]; exact SqL.of (Same.upd_new hD2 _ _ hR19.lst)) ?_ ?_⟩
      · rintro i v H6 H7 hi ⟨rl, rfl, hin, hdat2⟩ ⟨rfl, hv⟩
        obtain ⟨r, hir, hr, rfl, gl, gx, hri⟩ := hrow hv
        have s6 : Same H19 (upd H19 D2 (.lst (refsOf rl))) := Same.upd_new hD2
        have pg := (((hR19.all r hr).g).of s6).pair
        rw [gl] at pg
        have step := only_step (ys := sts) hir
        have hrl3 : rl.length ≤ 24 := by
          have e := congrArg List.length hdat2
          rw [List.length_map, List.length_map] at e
          have : (onlyOf (rs.take i) sts).length ≤ i := Nat.le_trans (List.length_filter_le _ _) (by rw [List.length_take]; omega)
          omega
        refine ⟨rfl, _, rfl, r.t, _, 0, _, rfl, rfl, SqT.of pg, rfl, _, rfl, st, _, rfl, .inl (SqL.of (s6 _ _ hst19)), rfl, flat_strs sts, _, rfl, ?_⟩
        rw [inV_str]
        by_cases q : rs[i].1 ∈ sts
        · rw [decide_eq_true q]
          refine iteT ⟨_, rfl, _, upd_same, by unfold refsOf; rw [List.length_map]; exact small1000 (by omega), rl ++ [r], by rw [upd_upd]; unfold refsOf; rw [List.map_append]; rfl, fun y hy => ?_, ?_⟩
          · rcases List.mem_append.mp hy with h | h
            · exact hin y h
            · obtain rfl := List.mem_singleton.mp h
              exact hr
          · have ed : RowIn.dat r = rdat rs[i] := by unfold RowIn.dat rdat; rw [gl, gx]
            rw [List.map_append, hdat2, step, decide_eq_true q, if_pos rfl, List.map_append, List.map_cons, List.map_cons, ed]
            rfl
        · rw [decide_eq_false q]
          refine iteF ⟨rl, rfl, hin, ?_⟩
          rw [hdat2, step, decide_eq_false q, if_neg (by decide), List.append_nil]
      rintro H20 ⟨rl2, rfl, hin, hdat2⟩
      rw [lenR, List.take_length] at hdat2
      have s20 : Same H19 (upd H19 D2 (.lst (refsOf rl2))) := Same.upd_new hD2
      refine ⟨y2, a, D2, ls, onlyOf rs sts, rl2, rfl, t19.of s20, ok.only sts, s20 _ _ ha19, upd_same, fun r hr => ((hR19.all r (hin r hr)).g).of s20, hdat2, fun H21 s21 => ?_⟩
      have s1821 := s19.trans (s20.trans s21)
      refine ⟨true, rfl, iteF ?_⟩
      have hT21 := hT18.of s1821
      have ha21 := s1821 _ _ ha18
      have hR21 := hR18.of hb18.lst (SameB.of s1821)
      have hb21 := hb18.of s1821
      have hsh21 := s1821 _ _ hsh18
      clear hT18 ha18 hR18 hb18 hst18 hsh18 hR19 hst19 ha19 t19 s19 s20 s21 s1821
      -- with
      have few : rs.length ≤ 23 := by
        rw [List.length_map] at hk
        omega
      refine ⟨_, rfl, _, rfl, x, sh, ls, rs, shs, rfl, hT21, ok, hsh21, shsub, shlen, ln_no okk, few, fun H22 y3 s22 _ t22 => ?_⟩
      have hR22 := hR21.of hb21.lst (SameB.of s22)
      refine ⟨_, rfl, _, rfl, _, rfl, by show 2 ≤ sizeLine; decide, fun t ht => ⟨by show 1 ≤ sizeLine; decide, fun l2 hl2 => ?_⟩⟩
      have u1 : Same H22 (upd H22 t (.tup [.str LN, .ref sh])) := Same.upd_new ht
      have u2 := Same.upd_new hl2 (o := .lst [.ref t])
      refine ⟨R, l2, _, _, rfl, rfl, u2 _ _ (u1 _ _ hR22.lst), upd_same, Nat.le_of_lt (small1000 (by rw [lenR]; simp; omega)), fun l3 hl3 => ?_⟩
      have u3 := Same.upd_new hl3 (o := .lst (refsOf rows ++ [.ref t]))
      have u23 := u1.trans (u2.trans u3)
      refine ⟨y3, a, l3, ls, rs ++ [(LN, shs)], rows ++ [⟨t, .str LN, sh, shs.map V.str⟩], rfl, t22.of u23, ok.snoc (ln_no okk) few shsub, u23 _ _ (s22 _ _ ha21), by rw [upd_same]; unfold refsOf; rw [List.map_append]; rfl, fun r hr => ?_, ?_, fun H23 s23 => ?_⟩
      · rcases List.mem_append.mp hr with h | h
        · exact ((hR22.all r h).g).of u23
        · obtain rfl := List.mem_singleton.mp h
          exact ⟨u3 _ _ (u2 _ _ upd_same), u23 _ _ (s22 _ _ hsh21)⟩
      · rw [List.map_append, hdat, List.map_append]
        rfl
      have s2123 := s22.trans (u23.trans s23)
      refine ⟨true, rfl, iteF ?_⟩
      have hR23 := hR21.of hb21.lst (SameB.of s2123)
      exact ⟨_, rfl, _, rfl, _, rfl, x, a, R, ls, rs, rows, rfl, hT21.of s2123, ok, s2123 _ _ ha21, hR23.lst, fun r hr => (hR23.all r hr).g, hdat, fun H24 _ => k H24⟩
    · rw [hd', init_ok ok] at he
      cases he
end
end Dl

namespace Dl
open PySem PySem.Spec PyProof.Rows L2
theorem all_mk {l : PySem.W.OpenLaw} {w : World} {K : PySem.W.Frag} {h : Heap} {mg : Str → Option Value} {fa f_is_name f_check_name f_check_new f_check_known f_check_all_known f_distinct_names f_check_shown f_chosen_of f_law_bag f_law_take f_law_name f_law_names f_law_free_rows f_law_planted_rows f_law_flipped f_law_rows f_law_given f_law_word_tuple f_law_is_table f_law_taken_out f_law_only f_law_with f_law_some f_law C_InvalidName f_InvalidName C_DuplicateName f_DuplicateName C_UnknownName f_UnknownName C_TooMany f_TooMany C_Table f_Table_init f_Table_rows f_Table_with_look f_Table_only f_Table_without : Addr} (X : K.In h) (G : h.Ns mainGlobals mg) (hfa : mg "law" = some (.ref fa))
    {od_is_name an_is_name od_check_name an_check_name od_check_new an_check_new od_check_known an_check_known od_check_all_known an_check_all_known od_distinct_names an_distinct_names od_check_shown an_check_shown od_chosen_of an_chosen_of od_law_bag an_law_bag od_law_take an_law_take od_law_name an_law_name od_law_names an_law_names od_law_free_rows an_law_free_rows od_law_planted_rows an_law_planted_rows od_law_flipped an_law_flipped od_law_rows an_law_rows od_law_given an_law_given od_law_word_tuple an_law_word_tuple od_law_is_table an_law_is_table od_law_taken_out an_law_taken_out od_law_only an_law_only od_law_with an_law_with od_law_some an_law_some od_law an_law od_InvalidName an_InvalidName od_DuplicateName an_DuplicateName od_UnknownName an_UnknownName od_TooMany an_TooMany od_Table_init an_Table_init od_Table_rows an_Table_rows od_Table_with_look an_Table_with_look od_Table_only an_Table_only od_Table_without an_Table_without : Option Addr} {sl_is_name sl_check_name sl_check_new sl_check_known sl_check_all_known sl_distinct_names sl_check_shown sl_chosen_of sl_law_bag sl_law_take sl_law_name sl_law_names sl_law_free_rows sl_law_planted_rows sl_law_flipped sl_law_rows sl_law_given sl_law_word_tuple sl_law_is_table sl_law_taken_out sl_law_only sl_law_with sl_law_some sl_law sl_InvalidName sl_DuplicateName sl_UnknownName sl_TooMany sl_Table_init sl_Table_rows sl_Table_with_look sl_Table_only sl_Table_without : Array (Option Value)} {oc_is_name kV_is_name dc_is_name pm_is_name cd_is_name ct_is_name oc_check_name kV_check_name dc_check_name pm_check_name cd_check_name ct_check_name oc_check_new kV_check_new dc_check_new pm_check_new cd_check_new ct_check_new oc_check_known kV_check_known dc_check_known pm_check_known cd_check_known ct_check_known oc_check_all_known kV_check_all_known dc_check_all_known pm_check_all_known cd_check_all_known ct_check_all_known oc_distinct_names kV_distinct_names dc_distinct_names pm_distinct_names cd_distinct_names ct_distinct_names oc_check_shown kV_check_shown dc_check_shown pm_check_shown cd_check_shown ct_check_shown oc_chosen_of kV_chosen_of dc_chosen_of pm_chosen_of cd_chosen_of ct_chosen_of oc_law_bag kV_law_bag dc_law_bag pm_law_bag cd_law_bag ct_law_bag oc_law_take kV_law_take dc_law_take pm_law_take cd_law_take ct_law_take oc_law_name kV_law_name dc_law_name pm_law_name cd_law_name ct_law_name oc_law_names kV_law_names dc_law_names pm_law_names cd_law_names ct_law_names oc_law_free_rows kV_law_free_rows dc_law_free_rows pm_law_free_rows cd_law_free_rows ct_law_free_rows oc_law_planted_rows kV_law_planted_rows dc_law_planted_rows pm_law_planted_rows cd_law_planted_rows ct_law_planted_rows oc_law_flipped kV_law_flipped dc_law_flipped pm_law_flipped cd_law_flipped ct_law_flipped oc_law_rows kV_law_rows dc_law_rows pm_law_rows cd_law_rows ct_law_rows oc_law_given kV_law_given dc_law_given pm_law_given cd_law_given ct_law_given oc_law_word_tuple kV_law_word_tuple dc_law_word_tuple pm_law_word_tuple cd_law_word_tuple ct_law_word_tuple oc_law_is_table kV_law_is_table dc_law_is_table pm_law_is_table cd_law_is_table ct_law_is_table oc_law_taken_out kV_law_taken_out dc_law_taken_out pm_law_taken_out cd_law_taken_out ct_law_taken_out oc_law_only kV_law_only dc_law_only pm_law_only cd_law_only ct_law_only oc_law_with kV_law_with dc_law_with pm_law_with cd_law_with ct_law_with oc_law_some kV_law_some dc_law_some pm_law_some cd_law_some ct_law_some oc_law kV_law dc_law pm_law cd_law ct_law oc_InvalidName kV_InvalidName dc_InvalidName pm_InvalidName cd_InvalidName ct_InvalidName oc_DuplicateName kV_DuplicateName dc_DuplicateName pm_DuplicateName cd_DuplicateName ct_DuplicateName oc_UnknownName kV_UnknownName dc_UnknownName pm_UnknownName cd_UnknownName ct_UnknownName oc_TooMany kV_TooMany dc_TooMany pm_TooMany cd_TooMany ct_TooMany oc_Table_init kV_Table_init dc_Table_init pm_Table_init cd_Table_init ct_Table_init oc_Table_rows kV_Table_rows dc_Table_rows pm_Table_rows cd_Table_rows ct_Table_rows oc_Table_with_look kV_Table_with_look dc_Table_with_look pm_Table_with_look cd_Table_with_look ct_Table_with_look oc_Table_only kV_Table_only dc_Table_only pm_Table_only cd_Table_only ct_Table_only oc_Table_without kV_Table_without dc_Table_without pm_Table_without cd_Table_without ct_Table_without : Value} {t_LONGEST t_SIGNS t_LIMIT : Tok}
    {nm_InvalidName q_InvalidName : Str} {N_InvalidName : Addr} {bs_InvalidName bm_InvalidName : List Value} {sn_InvalidName : List Str} {sub_InvalidName : List Value} {ab_InvalidName : Bool} {col_InvalidName : Option Bool} {dd_InvalidName : Option Addr} {m0_InvalidName m1_InvalidName m2_InvalidName m3_InvalidName m5_InvalidName : Option Value}
    {nm_DuplicateName q_DuplicateName : Str} {N_DuplicateName : Addr} {bs_DuplicateName bm_DuplicateName : List Value} {sn_DuplicateName : List Str} {sub_DuplicateName : List Value} {ab_DuplicateName : Bool} {col_DuplicateName : Option Bool} {dd_DuplicateName : Option Addr} {m0_DuplicateName m1_DuplicateName m2_DuplicateName m3_DuplicateName m5_DuplicateName : Option Value}
    {nm_UnknownName q_UnknownName : Str} {N_UnknownName : Addr} {bs_UnknownName bm_UnknownName : List Value} {sn_UnknownName : List Str} {sub_UnknownName : List Value} {ab_UnknownName : Bool} {col_UnknownName : Option Bool} {dd_UnknownName : Option Addr} {m0_UnknownName m1_UnknownName m2_UnknownName m3_UnknownName m5_UnknownName : Option Value}
    {nm_TooMany q_TooMany : Str} {N_TooMany : Addr} {bs_TooMany bm_TooMany : List Value} {sn_TooMany : List Str} {sub_TooMany : List Value} {ab_TooMany : Bool} {col_TooMany : Option Bool} {dd_TooMany : Option Addr} {m0_TooMany m1_TooMany m2_TooMany m3_TooMany m5_TooMany : Option Value}
    (a_is_name : PySem.W.nsIn K mainGlobals "is_name" = some (some (.ref f_is_name)))
    (l_is_name : K.lookup f_is_name = some ⟨oc_is_name, od_is_name, .func (PySem.W.fnOf "is_name" "is_name" (defArgs sIsName) (defBody sIsName) (defScope sIsName) .none kV_is_name dc_is_name pm_is_name an_is_name cd_is_name ct_is_name), sl_is_name⟩)
    (c_is_name : PySem.W.codeIn K cd_is_name "is_name" = true)
    (k_is_name : PySem.W.keepIn K (.ref f_is_name) = true)
    (a_check_name : PySem.W.nsIn K mainGlobals "check_name" = some (some (.ref f_check_name)))
    (l_check_name : K.lookup f_check_name = some ⟨oc_check_name, od_check_name, .func (PySem.W.fnOf "check_name" "check_name" (defArgs sCheckName) (defBody sCheckName) (defScope sCheckName) .none kV_check_name dc_check_name pm_check_name an_check_name cd_check_name ct_check_name), sl_check_name⟩)
    (c_check_name : PySem.W.codeIn K cd_check_name "check_name" = true)
    (k_check_name : PySem.W.keepIn K (.ref f_check_name) = true)
    (a_check_new : PySem.W.nsIn K mainGlobals "check_new" = some (some (.ref f_check_new)))
    (l_check_new : K.lookup f_check_new = some ⟨oc_check_new, od_check_new, .func (PySem.W.fnOf "check_new" "check_new" (defArgs sCheckNew) (defBody sCheckNew) (defScope sCheckNew) .none kV_check_new dc_check_new pm_check_new an_check_new cd_check_new ct_check_new), sl_check_new⟩)
    (c_check_new : PySem.W.codeIn K cd_check_new "check_new" = true)
    (k_check_new : PySem.W.keepIn K (.ref f_check_new) = true)
    (a_check_known : PySem.W.nsIn K mainGlobals "check_known" = some (some (.ref f_check_known)))
    (l_check_known : K.lookup f_check_known = some ⟨oc_check_known, od_check_known, .func (PySem.W.fnOf "check_known" "check_known" (defArgs sCheckKnown) (defBody sCheckKnown) (defScope sCheckKnown) .none kV_check_known dc_check_known pm_check_known an_check_known cd_check_known ct_check_known), sl_check_known⟩)
    (c_check_known : PySem.W.codeIn K cd_check_known "check_known" = true)
    (k_check_known : PySem.W.keepIn K (.ref f_check_known) = true)
    (a_check_all_known : PySem.W.nsIn K mainGlobals "check_all_known" = some (some (.ref f_check_all_known)))
    (l_check_all_known : K.lookup f_check_all_known = some ⟨oc_check_all_known, od_check_all_known, .func (PySem.W.fnOf "check_all_known" "check_all_known" (defArgs sCheckAll) (defBody sCheckAll) (defScope sCheckAll) .none kV_check_all_known dc_check_all_known pm_check_all_known an_check_all_known cd_check_all_known ct_check_all_known), sl_check_all_known⟩)
    (c_check_all_known : PySem.W.codeIn K cd_check_all_known "check_all_known" = true)
    (k_check_all_known : PySem.W.keepIn K (.ref f_check_all_known) = true)
    (a_distinct_names : PySem.W.nsIn K mainGlobals "distinct_names" = some (some (.ref f_distinct_names)))
    (l_distinct_names : K.lookup f_distinct_names = some ⟨oc_distinct_names, od_distinct_names, .func (PySem.W.fnOf "distinct_names" "distinct_names" (defArgs sDistinct) (defBody sDistinct) (defScope sDistinct) .none kV_distinct_names dc_distinct_names pm_distinct_names an_distinct_names cd_distinct_names ct_distinct_names), sl_distinct_names⟩)
    (c_distinct_names : PySem.W.codeIn K cd_distinct_names "distinct_names" = true)
    (k_distinct_names : PySem.W.keepIn K (.ref f_distinct_names) = true)
    (a_check_shown : PySem.W.nsIn K mainGlobals "_check_shown" = some (some (.ref f_check_shown)))
    (l_check_shown : K.lookup f_check_shown = some ⟨oc_check_shown, od_check_shown, .func (PySem.W.fnOf "_check_shown" "_check_shown" (defArgs sCheckShown) (defBody sCheckShown) (defScope sCheckShown) .none kV_check_shown dc_check_shown pm_check_shown an_check_shown cd_check_shown ct_check_shown), sl_check_shown⟩)
    (c_check_shown : PySem.W.codeIn K cd_check_shown "_check_shown" = true)
    (k_check_shown : PySem.W.keepIn K (.ref f_check_shown) = true)
    (a_chosen_of : PySem.W.nsIn K mainGlobals "_chosen_of" = some (some (.ref f_chosen_of)))
    (l_chosen_of : K.lookup f_chosen_of = some ⟨oc_chosen_of, od_chosen_of, .func (PySem.W.fnOf "_chosen_of" "_chosen_of" (defArgs sChosen) (defBody sChosen) (defScope sChosen) .none kV_chosen_of dc_chosen_of pm_chosen_of an_chosen_of cd_chosen_of ct_chosen_of), sl_chosen_of⟩)
    (c_chosen_of : PySem.W.codeIn K cd_chosen_of "_chosen_of" = true)
    (k_chosen_of : PySem.W.keepIn K (.ref f_chosen_of) = true)
    (a_law_bag : PySem.W.nsIn K mainGlobals "_law_bag" = some (some (.ref f_law_bag)))
    (l_law_bag : K.lookup f_law_bag = some ⟨oc_law_bag, od_law_bag, .func (PySem.W.fnOf "_law_bag" "_law_bag" (defArgs sBag) (defBody sBag) (defScope sBag) .none kV_law_bag dc_law_bag pm_law_bag an_law_bag cd_law_bag ct_law_bag), sl_law_bag⟩)
    (c_law_bag : PySem.W.codeIn K cd_law_bag "_law_bag" = true)
    (k_law_bag : PySem.W.keepIn K (.ref f_law_bag) = true)
    (a_law_take : PySem.W.nsIn K mainGlobals "_law_take" = some (some (.ref f_law_take)))
    (l_law_take : K.lookup f_law_take = some ⟨oc_law_take, od_law_take, .func (PySem.W.fnOf "_law_take" "_law_take" (defArgs sTake) (defBody sTake) (defScope sTake) .none kV_law_take dc_law_take pm_law_take an_law_take cd_law_take ct_law_take), sl_law_take⟩)
    (c_law_take : PySem.W.codeIn K cd_law_take "_law_take" = true)
    (k_law_take : PySem.W.keepIn K (.ref f_law_take) = true)
    (a_law_name : PySem.W.nsIn K mainGlobals "_law_name" = some (some (.ref f_law_name)))
    (l_law_name : K.lookup f_law_name = some ⟨oc_law_name, od_law_name, .func (PySem.W.fnOf "_law_name" "_law_name" (defArgs sLawName) (defBody sLawName) (defScope sLawName) .none kV_law_name dc_law_name pm_law_name an_law_name cd_law_name ct_law_name), sl_law_name⟩)
    (c_law_name : PySem.W.codeIn K cd_law_name "_law_name" = true)
    (k_law_name : PySem.W.keepIn K (.ref f_law_name) = true)
    (a_law_names : PySem.W.nsIn K mainGlobals "_law_names" = some (some (.ref f_law_names)))
    (l_law_names : K.lookup f_law_names = some ⟨oc_law_names, od_law_names, .func (PySem.W.fnOf "_law_names" "_law_names" (defArgs sLawNames) (defBody sLawNames) (defScope sLawNames) .none kV_law_names dc_law_names pm_law_names an_law_names cd_law_names ct_law_names), sl_law_names⟩)
    (c_law_names : PySem.W.codeIn K cd_law_names "_law_names" = true)
    (k_law_names : PySem.W.keepIn K (.ref f_law_names) = true)
    (a_law_free_rows : PySem.W.nsIn K mainGlobals "_law_free_rows" = some (some (.ref f_law_free_rows)))
    (l_law_free_rows : K.lookup f_law_free_rows = some ⟨oc_law_free_rows, od_law_free_rows, .func (PySem.W.fnOf "_law_free_rows" "_law_free_rows" (defArgs sLawFreeRows) (defBody sLawFreeRows) (defScope sLawFreeRows) .none kV_law_free_rows dc_law_free_rows pm_law_free_rows an_law_free_rows cd_law_free_rows ct_law_free_rows), sl_law_free_rows⟩)
    (c_law_free_rows : PySem.W.codeIn K cd_law_free_rows "_law_free_rows" = true)
    (k_law_free_rows : PySem.W.keepIn K (.ref f_law_free_rows) = true)
    (a_law_planted_rows : PySem.W.nsIn K mainGlobals "_law_planted_rows" = some (some (.ref f_law_planted_rows)))
    (l_law_planted_rows : K.lookup f_law_planted_rows = some ⟨oc_law_planted_rows, od_law_planted_rows, .func (PySem.W.fnOf "_law_planted_rows" "_law_planted_rows" (defArgs sLawPlantedRows) (defBody sLawPlantedRows) (defScope sLawPlantedRows) .none kV_law_planted_rows dc_law_planted_rows pm_law_planted_rows an_law_planted_rows cd_law_planted_rows ct_law_planted_rows), sl_law_planted_rows⟩)
    (c_law_planted_rows : PySem.W.codeIn K cd_law_planted_rows "_law_planted_rows" = true)
    (k_law_planted_rows : PySem.W.keepIn K (.ref f_law_planted_rows) = true)
    (a_law_flipped : PySem.W.nsIn K mainGlobals "_law_flipped" = some (some (.ref f_law_flipped)))
    (l_law_flipped : K.lookup f_law_flipped = some ⟨oc_law_flipped, od_law_flipped, .func (PySem.W.fnOf "_law_flipped" "_law_flipped" (defArgs sLawFlipped) (defBody sLawFlipped) (defScope sLawFlipped) .none kV_law_flipped dc_law_flipped pm_law_flipped an_law_flipped cd_law_flipped ct_law_flipped), sl_law_flipped⟩)
    (c_law_flipped : PySem.W.codeIn K cd_law_flipped "_law_flipped" = true)
    (k_law_flipped : PySem.W.keepIn K (.ref f_law_flipped) = true)
    (a_law_rows : PySem.W.nsIn K mainGlobals "_law_rows" = some (some (.ref f_law_rows)))
    (l_law_rows : K.lookup f_law_rows = some ⟨oc_law_rows, od_law_rows, .func (PySem.W.fnOf "_law_rows" "_law_rows" (defArgs sLawRows) (defBody sLawRows) (defScope sLawRows) .none kV_law_rows dc_law_rows pm_law_rows an_law_rows cd_law_rows ct_law_rows), sl_law_rows⟩)
    (c_law_rows : PySem.W.codeIn K cd_law_rows "_law_rows" = true)
    (k_law_rows : PySem.W.keepIn K (.ref f_law_rows) = true)
    (a_law_given : PySem.W.nsIn K mainGlobals "_law_given" = some (some (.ref f_law_given)))
    (l_law_given : K.lookup f_law_given = some ⟨oc_law_given, od_law_given, .func (PySem.W.fnOf "_law_given" "_law_given" (defArgs sLawGiven) (defBody sLawGiven) (defScope sLawGiven) .none kV_law_given dc_law_given pm_law_given an_law_given cd_law_given ct_law_given), sl_law_given⟩)
    (c_law_given : PySem.W.codeIn K cd_law_given "_law_given" = true)
    (k_law_given : PySem.W.keepIn K (.ref f_law_given) = true)
    (a_law_word_tuple : PySem.W.nsIn K mainGlobals "_law_word_tuple" = some (some (.ref f_law_word_tuple)))
    (l_law_word_tuple : K.lookup f_law_word_tuple = some ⟨oc_law_word_tuple, od_law_word_tuple, .func (PySem.W.fnOf "_law_word_tuple" "_law_word_tuple" (defArgs sLawWordTuple) (defBody sLawWordTuple) (defScope sLawWordTuple) .none kV_law_word_tuple dc_law_word_tuple pm_law_word_tuple an_law_word_tuple cd_law_word_tuple ct_law_word_tuple), sl_law_word_tuple⟩)
    (c_law_word_tuple : PySem.W.codeIn K cd_law_word_tuple "_law_word_tuple" = true)
    (k_law_word_tuple : PySem.W.keepIn K (.ref f_law_word_tuple) = true)
    (a_law_is_table : PySem.W.nsIn K mainGlobals "_law_is_table" = some (some (.ref f_law_is_table)))
    (l_law_is_table : K.lookup f_law_is_table = some ⟨oc_law_is_table, od_law_is_table, .func (PySem.W.fnOf "_law_is_table" "_law_is_table" (defArgs sLawIsTable) (defBody sLawIsTable) (defScope sLawIsTable) .none kV_law_is_table dc_law_is_table pm_law_is_table an_law_is_table cd_law_is_table ct_law_is_table), sl_law_is_table⟩)
    (c_law_is_table : PySem.W.codeIn K cd_law_is_table "_law_is_table" = true)
    (k_law_is_table : PySem.W.keepIn K (.ref f_law_is_table) = true)
    (a_law_taken_out : PySem.W.nsIn K mainGlobals "_law_taken_out" = some (some (.ref f_law_taken_out)))
    (l_law_taken_out : K.lookup f_law_taken_out = some ⟨oc_law_taken_out, od_law_taken_out, .func (PySem.W.fnOf "_law_taken_out" "_law_taken_out" (defArgs sLawTakenOut) (defBody sLawTakenOut) (defScope sLawTakenOut) .none kV_law_taken_out dc_law_taken_out pm_law_taken_out an_law_taken_out cd_law_taken_out ct_law_taken_out), sl_law_taken_out⟩)
    (c_law_taken_out : PySem.W.codeIn K cd_law_taken_out "_law_taken_out" = true)
    (k_law_taken_out : PySem.W.keepIn K (.ref f_law_taken_out) = true)
    (a_law_only : PySem.W.nsIn K mainGlobals "_law_only" = some (some (.ref f_law_only)))
    (l_law_only : K.lookup f_law_only = some ⟨oc_law_only, od_law_only, .func (PySem.W.fnOf "_law_only" "_law_only" (defArgs sLawOnly) (defBody sLawOnly) (defScope sLawOnly) .none kV_law_only dc_law_only pm_law_only an_law_only cd_law_only ct_law_only), sl_law_only⟩)
    (c_law_only : PySem.W.codeIn K cd_law_only "_law_only" = true)
    (k_law_only : PySem.W.keepIn K (.ref f_law_only) = true)
    (a_law_with : PySem.W.nsIn K mainGlobals "_law_with" = some (some (.ref f_law_with)))
    (l_law_with : K.lookup f_law_with = some ⟨oc_law_with, od_law_with, .func (PySem.W.fnOf "_law_with" "_law_with" (defArgs sLawWith) (defBody sLawWith) (defScope sLawWith) .none kV_law_with dc_law_with pm_law_with an_law_with cd_law_with ct_law_with), sl_law_with⟩)
    (c_law_with : PySem.W.codeIn K cd_law_with "_law_with" = true)
    (k_law_with : PySem.W.keepIn K (.ref f_law_with) = true)
    (a_law_some : PySem.W.nsIn K mainGlobals "_law_some" = some (some (.ref f_law_some)))
    (l_law_some : K.lookup f_law_some = some ⟨oc_law_some, od_law_some, .func (PySem.W.fnOf "_law_some" "_law_some" (defArgs sLawSome) (defBody sLawSome) (defScope sLawSome) .none kV_law_some dc_law_some pm_law_some an_law_some cd_law_some ct_law_some), sl_law_some⟩)
    (c_law_some : PySem.W.codeIn K cd_law_some "_law_some" = true)
    (k_law_some : PySem.W.keepIn K (.ref f_law_some) = true)
    (a_law : PySem.W.nsIn K mainGlobals "law" = some (some (.ref f_law)))
    (l_law : K.lookup f_law = some ⟨oc_law, od_law, .func (PySem.W.fnOf "law" "law" (defArgs sLaw) (defBody sLaw) (defScope sLaw) .none kV_law dc_law pm_law an_law cd_law ct_law), sl_law⟩)
    (c_law : PySem.W.codeIn K cd_law "law" = true)
    (k_law : PySem.W.keepIn K (.ref f_law) = true)
    (a_InvalidName : PySem.W.nsIn K mainGlobals "InvalidName" = some (some (.ref C_InvalidName)))
    (x_InvalidName : K.lookup C_InvalidName = some (excClassObj nm_InvalidName q_InvalidName C_InvalidName N_InvalidName bs_InvalidName bm_InvalidName true sn_InvalidName sub_InvalidName ab_InvalidName col_InvalidName dd_InvalidName m0_InvalidName m1_InvalidName m2_InvalidName m3_InvalidName m5_InvalidName "ValueError.__new__"))
    (hb_InvalidName : PySem.HandSPX.refsVE bm_InvalidName = true)
    (sa_InvalidName : PySem.W.findIn K (.ref C_InvalidName) "__setattr__" = some (some (.builtin "object.__setattr__")))
    (e_InvalidName : PySem.W.subIn K (.ref C_InvalidName) (.type "BaseException") = some true)
    (tc_InvalidName : PySem.W.typeIn K (.ref C_InvalidName) = some (.type "type"))
    (kc_InvalidName : PySem.W.keepIn K (.ref C_InvalidName) = true)
    (no_InvalidName : PySem.W.findIn K (.ref C_InvalidName) "name" = some none)
    (i_InvalidName : PySem.W.findIn K (.ref C_InvalidName) "__init__" = some (some (.ref f_InvalidName)))
    (ti_InvalidName : PySem.W.typeIn K (.ref f_InvalidName) = some (.type "function"))
    (l_InvalidName : K.lookup f_InvalidName = some ⟨oc_InvalidName, od_InvalidName, .func (PySem.W.fnOf "__init__" "InvalidName.__init__" (defArgs sInv) (defBody sInv) (defScope sInv) .none kV_InvalidName dc_InvalidName pm_InvalidName an_InvalidName cd_InvalidName ct_InvalidName), sl_InvalidName⟩)
    (c_InvalidName : PySem.W.codeIn K cd_InvalidName "InvalidName.__init__" = true)
    (k_InvalidName : PySem.W.keepIn K (.ref f_InvalidName) = true)
    (a_DuplicateName : PySem.W.nsIn K mainGlobals "DuplicateName" = some (some (.ref C_DuplicateName)))
    (x_DuplicateName : K.lookup C_DuplicateName = some (excClassObj nm_DuplicateName q_DuplicateName C_DuplicateName N_DuplicateName bs_DuplicateName bm_DuplicateName true sn_DuplicateName sub_DuplicateName ab_DuplicateName col_DuplicateName dd_DuplicateName m0_DuplicateName m1_DuplicateName m2_DuplicateName m3_DuplicateName m5_DuplicateName "ValueError.__new__"))
    (hb_DuplicateName : PySem.HandSPX.refsVE bm_DuplicateName = true)
    (sa_DuplicateName : PySem.W.findIn K (.ref C_DuplicateName) "__setattr__" = some (some (.builtin "object.__setattr__")))
    (e_DuplicateName : PySem.W.subIn K (.ref C_DuplicateName) (.type "BaseException") = some true)
    (tc_DuplicateName : PySem.W.typeIn K (.ref C_DuplicateName) = some (.type "type"))
    (kc_DuplicateName : PySem.W.keepIn K (.ref C_DuplicateName) = true)
    (no_DuplicateName : PySem.W.findIn K (.ref C_DuplicateName) "name" = some none)
    (i_DuplicateName : PySem.W.findIn K (.ref C_DuplicateName) "__init__" = some (some (.ref f_DuplicateName)))
    (ti_DuplicateName : PySem.W.typeIn K (.ref f_DuplicateName) = some (.type "function"))
    (l_DuplicateName : K.lookup f_DuplicateName = some ⟨oc_DuplicateName, od_DuplicateName, .func (PySem.W.fnOf "__init__" "DuplicateName.__init__" (defArgs sDup) (defBody sDup) (defScope sDup) .none kV_DuplicateName dc_DuplicateName pm_DuplicateName an_DuplicateName cd_DuplicateName ct_DuplicateName), sl_DuplicateName⟩)
    (c_DuplicateName : PySem.W.codeIn K cd_DuplicateName "DuplicateName.__init__" = true)
    (k_DuplicateName : PySem.W.keepIn K (.ref f_DuplicateName) = true)
    (a_UnknownName : PySem.W.nsIn K mainGlobals "UnknownName" = some (some (.ref C_UnknownName)))
    (x_UnknownName : K.lookup C_UnknownName = some (excClassObj nm_UnknownName q_UnknownName C_UnknownName N_UnknownName bs_UnknownName bm_UnknownName true sn_UnknownName sub_UnknownName ab_UnknownName col_UnknownName dd_UnknownName m0_UnknownName m1_UnknownName m2_UnknownName m3_UnknownName m5_UnknownName "ValueError.__new__"))
    (hb_UnknownName : PySem.HandSPX.refsVE bm_UnknownName = true)
    (sa_UnknownName : PySem.W.findIn K (.ref C_UnknownName) "__setattr__" = some (some (.builtin "object.__setattr__")))
    (e_UnknownName : PySem.W.subIn K (.ref C_UnknownName) (.type "BaseException") = some true)
    (tc_UnknownName : PySem.W.typeIn K (.ref C_UnknownName) = some (.type "type"))
    (kc_UnknownName : PySem.W.keepIn K (.ref C_UnknownName) = true)
    (no_UnknownName : PySem.W.findIn K (.ref C_UnknownName) "name" = some none)
    (i_UnknownName : PySem.W.findIn K (.ref C_UnknownName) "__init__" = some (some (.ref f_UnknownName)))
    (ti_UnknownName : PySem.W.typeIn K (.ref f_UnknownName) = some (.type "function"))
    (l_UnknownName : K.lookup f_UnknownName = some ⟨oc_UnknownName, od_UnknownName, .func (PySem.W.fnOf "__init__" "UnknownName.__init__" (defArgs sUnk) (defBody sUnk) (defScope sUnk) .none kV_UnknownName dc_UnknownName pm_UnknownName an_UnknownName cd_UnknownName ct_UnknownName), sl_UnknownName⟩)
    (c_UnknownName : PySem.W.codeIn K cd_UnknownName "UnknownName.__init__" = true)
    (k_UnknownName : PySem.W.keepIn K (.ref f_UnknownName) = true)
    (a_TooMany : PySem.W.nsIn K mainGlobals "TooMany" = some (some (.ref C_TooMany)))
    (x_TooMany : K.lookup C_TooMany = some (excClassObj nm_TooMany q_TooMany C_TooMany N_TooMany bs_TooMany bm_TooMany true sn_TooMany sub_TooMany ab_TooMany col_TooMany dd_TooMany m0_TooMany m1_TooMany m2_TooMany m3_TooMany m5_TooMany "ValueError.__new__"))
    (hb_TooMany : PySem.HandSPX.refsVE bm_TooMany = true)
    (sa_TooMany : PySem.W.findIn K (.ref C_TooMany) "__setattr__" = some (some (.builtin "object.__setattr__")))
    (e_TooMany : PySem.W.subIn K (.ref C_TooMany) (.type "BaseException") = some true)
    (tc_TooMany : PySem.W.typeIn K (.ref C_TooMany) = some (.type "type"))
    (kc_TooMany : PySem.W.keepIn K (.ref C_TooMany) = true)
    (no_TooMany : PySem.W.findIn K (.ref C_TooMany) "limit" = some none)
    (i_TooMany : PySem.W.findIn K (.ref C_TooMany) "__init__" = some (some (.ref f_TooMany)))
    (ti_TooMany : PySem.W.typeIn K (.ref f_TooMany) = some (.type "function"))
    (l_TooMany : K.lookup f_TooMany = some ⟨oc_TooMany, od_TooMany, .func (PySem.W.fnOf "__init__" "TooMany.__init__" (defArgs sMany) (defBody sMany) (defScope sMany) .none kV_TooMany dc_TooMany pm_TooMany an_TooMany cd_TooMany ct_TooMany), sl_TooMany⟩)
    (c_TooMany : PySem.W.codeIn K cd_TooMany "TooMany.__init__" = true)
    (k_TooMany : PySem.W.keepIn K (.ref f_TooMany) = true)
    (a_Table : PySem.W.nsIn K mainGlobals "Table" = some (some (.ref C_Table)))
    (pg_Table : PySem.W.plainGet K C_Table Str.empty = true)
    (hd_Table : PySem.W.hasDictIn K C_Table = true)
    (po_Table : PySem.W.plainOver K C_Table = true)
    (sa_Table : PySem.W.findIn K (.ref C_Table) "__setattr__" = some (some (.builtin "object.__setattr__")))
    (mk_Table : PySem.W.makesIn K C_Table = true)
    (kc_Table : PySem.W.keepIn K (.ref C_Table) = true)
    (n_Table_lamps : PySem.W.findIn K (.ref C_Table) "lamps" = some none)
    (n_Table_looks : PySem.W.findIn K (.ref C_Table) "looks" = some none)
    (n_Table__shown : PySem.W.findIn K (.ref C_Table) "_shown" = some none)
    (i_Table_init : PySem.W.findIn K (.ref C_Table) "__init__" = some (some (.ref f_Table_init)))
    (fn_Table_init : PySem.W.isFn K (.ref f_Table_init) = true)
    (l_Table_init : K.lookup f_Table_init = some ⟨oc_Table_init, od_Table_init, .func (PySem.W.fnOf "__init__" "Table.__init__" (defArgs sTabInit) (defBody sTabInit) (defScope sTabInit) .none kV_Table_init dc_Table_init pm_Table_init an_Table_init cd_Table_init ct_Table_init), sl_Table_init⟩)
    (c_Table_init : PySem.W.codeIn K cd_Table_init "Table.__init__" = true)
    (k_Table_init : PySem.W.keepIn K (.ref f_Table_init) = true)
    (i_Table_rows : PySem.W.findIn K (.ref C_Table) "rows" = some (some (.ref f_Table_rows)))
    (fn_Table_rows : PySem.W.isFn K (.ref f_Table_rows) = true)
    (l_Table_rows : K.lookup f_Table_rows = some ⟨oc_Table_rows, od_Table_rows, .func (PySem.W.fnOf "rows" "Table.rows" (defArgs sTableRows) (defBody sTableRows) (defScope sTableRows) .none kV_Table_rows dc_Table_rows pm_Table_rows an_Table_rows cd_Table_rows ct_Table_rows), sl_Table_rows⟩)
    (c_Table_rows : PySem.W.codeIn K cd_Table_rows "Table.rows" = true)
    (k_Table_rows : PySem.W.keepIn K (.ref f_Table_rows) = true)
    (i_Table_with_look : PySem.W.findIn K (.ref C_Table) "with_look" = some (some (.ref f_Table_with_look)))
    (fn_Table_with_look : PySem.W.isFn K (.ref f_Table_with_look) = true)
    (l_Table_with_look : K.lookup f_Table_with_look = some ⟨oc_Table_with_look, od_Table_with_look, .func (PySem.W.fnOf "with_look" "Table.with_look" (defArgs sTableWithLook) (defBody sTableWithLook) (defScope sTableWithLook) .none kV_Table_with_look dc_Table_with_look pm_Table_with_look an_Table_with_look cd_Table_with_look ct_Table_with_look), sl_Table_with_look⟩)
    (c_Table_with_look : PySem.W.codeIn K cd_Table_with_look "Table.with_look" = true)
    (k_Table_with_look : PySem.W.keepIn K (.ref f_Table_with_look) = true)
    (i_Table_only : PySem.W.findIn K (.ref C_Table) "only" = some (some (.ref f_Table_only)))
    (fn_Table_only : PySem.W.isFn K (.ref f_Table_only) = true)
    (l_Table_only : K.lookup f_Table_only = some ⟨oc_Table_only, od_Table_only, .func (PySem.W.fnOf "only" "Table.only" (defArgs sTableOnly) (defBody sTableOnly) (defScope sTableOnly) .none kV_Table_only dc_Table_only pm_Table_only an_Table_only cd_Table_only ct_Table_only), sl_Table_only⟩)
    (c_Table_only : PySem.W.codeIn K cd_Table_only "Table.only" = true)
    (k_Table_only : PySem.W.keepIn K (.ref f_Table_only) = true)
    (i_Table_without : PySem.W.findIn K (.ref C_Table) "without" = some (some (.ref f_Table_without)))
    (fn_Table_without : PySem.W.isFn K (.ref f_Table_without) = true)
    (l_Table_without : K.lookup f_Table_without = some ⟨oc_Table_without, od_Table_without, .func (PySem.W.fnOf "without" "Table.without" (defArgs sTableWithout) (defBody sTableWithout) (defScope sTableWithout) .none kV_Table_without dc_Table_without pm_Table_without an_Table_without cd_Table_without ct_Table_without), sl_Table_without⟩)
    (c_Table_without : PySem.W.codeIn K cd_Table_without "Table.without" = true)
    (k_Table_without : PySem.W.keepIn K (.ref f_Table_without) = true)
    (z_len : PySem.W.nsIn K mainGlobals "len" = some none)
    (z_int : PySem.W.nsIn K mainGlobals "int" = some none)
    (z_tuple : PySem.W.nsIn K mainGlobals "tuple" = some none)
    (z_abs : PySem.W.nsIn K mainGlobals "abs" = some none)
    (z_isinstance : PySem.W.nsIn K mainGlobals "isinstance" = some none)
    (z_str : PySem.W.nsIn K mainGlobals "str" = some none)
    (z_all : PySem.W.nsIn K mainGlobals "all" = some none)
    (z_list : PySem.W.nsIn K mainGlobals "list" = some none)
    (z_range : PySem.W.nsIn K mainGlobals "range" = some none)
    (z_enumerate : PySem.W.nsIn K mainGlobals "enumerate" = some none)
    (v_LONGEST : PySem.W.nsIn K mainGlobals "LONGEST" = some (some (.int 12 t_LONGEST)))
    (v_SIGNS : PySem.W.nsIn K mainGlobals "SIGNS" = some (some (.str SG t_SIGNS)))
    (v_LIMIT : PySem.W.nsIn K mainGlobals "LIMIT" = some (some (.int 24 t_LIMIT))) :
    ∃ fd : FuncData, (∀ (s : Shared) (v : Value), BindsTo s fd ⟨[v], []⟩ [("_law_script", v)]) ∧ ∀ base : Heap, K.In base → base.Ns mainGlobals mg → FnOk l.prog w K mg base CX0 12 fa fd ["_law_script"] (spLaw6 K) := by
  have e := hfa.symm.trans (PySem.W.mg_of X G a_law)
  cases e
  have n_len := PySem.W.mg_none_of X G z_len
  have n_int := PySem.W.mg_none_of X G z_int
  have n_tuple := PySem.W.mg_none_of X G z_tuple
  have n_abs := PySem.W.mg_none_of X G z_abs
  have n_isinstance := PySem.W.mg_none_of X G z_isinstance
  have n_str := PySem.W.mg_none_of X G z_str
  have n_all := PySem.W.mg_none_of X G z_all
  have n_list := PySem.W.mg_none_of X G z_list
  have n_range := PySem.W.mg_none_of X G z_range
  have n_enumerate := PySem.W.mg_none_of X G z_enumerate
  have TB : TxtB mg := ⟨n_len, n_int, n_abs⟩
  have TN : TxtN mg := ⟨n_isinstance, n_str, n_len, n_all, ⟨_, PySem.W.mg_of X G v_LONGEST⟩, ⟨_, PySem.W.mg_of X G v_SIGNS⟩⟩
  have TM : TxtM mg := ⟨n_range, n_len, n_str⟩
  have TR : TxtR mg := ⟨n_range, n_len, n_list⟩
  have TI : TxtI mg := ⟨n_isinstance, n_str, n_tuple, n_list, n_len, n_range⟩
  have cl : Cls K C_Table := ⟨pg_Table, hd_Table, po_Table, sa_Table⟩
  have TT : TxtT K mg C_Table := ⟨cl, n_Table_lamps, n_Table_looks, n_Table__shown, n_len, n_tuple, ⟨_, PySem.W.mg_of X G v_LIMIT⟩⟩
  have E_InvalidName : ErrC K mg "InvalidName" "name" C_InvalidName f_InvalidName := ⟨⟨⟨_, _, _, _, _, _, _, _, _, _, _, _, _, _, _, x_InvalidName, hb_InvalidName⟩, sa_InvalidName, e_InvalidName, tc_InvalidName, kc_InvalidName⟩, PySem.W.mg_of X G a_InvalidName, i_InvalidName, ti_InvalidName, no_InvalidName⟩
  have E_DuplicateName : ErrC K mg "DuplicateName" "name" C_DuplicateName f_DuplicateName := ⟨⟨⟨_, _, _, _, _, _, _, _, _, _, _, _, _, _, _, x_DuplicateName, hb_DuplicateName⟩, sa_DuplicateName, e_DuplicateName, tc_DuplicateName, kc_DuplicateName⟩, PySem.W.mg_of X G a_DuplicateName, i_DuplicateName, ti_DuplicateName, no_DuplicateName⟩
  have E_UnknownName : ErrC K mg "UnknownName" "name" C_UnknownName f_UnknownName := ⟨⟨⟨_, _, _, _, _, _, _, _, _, _, _, _, _, _, _, x_UnknownName, hb_UnknownName⟩, sa_UnknownName, e_UnknownName, tc_UnknownName, kc_UnknownName⟩, PySem.W.mg_of X G a_UnknownName, i_UnknownName, ti_UnknownName, no_UnknownName⟩
  have E_TooMany : ErrC K mg "TooMany" "limit" C_TooMany f_TooMany := ⟨⟨⟨_, _, _, _, _, _, _, _, _, _, _, _, _, _, _, x_TooMany, hb_TooMany⟩, sa_TooMany, e_TooMany, tc_TooMany, kc_TooMany⟩, PySem.W.mg_of X G a_TooMany, i_TooMany, ti_TooMany, no_TooMany⟩
  let cs : Cs := ⟨C_InvalidName, C_DuplicateName, C_UnknownName, C_TooMany⟩
  have F_InvalidName := fun_mk (st := sInv) l_InvalidName c_InvalidName k_InvalidName
  have b_InvalidName := F_InvalidName.binds (ps := ["self", "name"]) fun _ _ _ _ _ _ us hl => match us, hl with | [_, _], _ => rfl
  have F_DuplicateName := fun_mk (st := sDup) l_DuplicateName c_DuplicateName k_DuplicateName
  have b_DuplicateName := F_DuplicateName.binds (ps := ["self", "name"]) fun _ _ _ _ _ _ us hl => match us, hl with | [_, _], _ => rfl
  have F_UnknownName := fun_mk (st := sUnk) l_UnknownName c_UnknownName k_UnknownName
  have b_UnknownName := F_UnknownName.binds (ps := ["self", "name"]) fun _ _ _ _ _ _ us hl => match us, hl with | [_, _], _ => rfl
  have F_TooMany := fun_mk (st := sMany) l_TooMany c_TooMany k_TooMany
  have b_TooMany := F_TooMany.binds (ps := ["self", "limit"]) fun _ _ _ _ _ _ us hl => match us, hl with | [_, _], _ => rfl
  have F_is_name := fun_mk (st := sIsName) l_is_name c_is_name k_is_name
  have b_is_name := F_is_name.binds (ps := ["value"]) fun _ _ _ _ _ _ us hl => match us, hl with | [_], _ => rfl
  have F_check_name := fun_mk (st := sCheckName) l_check_name c_check_name k_check_name
  have b_check_name := F_check_name.binds (ps := ["name"]) fun _ _ _ _ _ _ us hl => match us, hl with | [_], _ => rfl
  have F_check_new := fun_mk (st := sCheckNew) l_check_new c_check_new k_check_new
  have b_check_new := F_check_new.binds (ps := ["name", "earlier"]) fun _ _ _ _ _ _ us hl => match us, hl with | [_, _], _ => rfl
  have F_check_known := fun_mk (st := sCheckKnown) l_check_known c_check_known k_check_known
  have b_check_known := F_check_known.binds (ps := ["name", "names"]) fun _ _ _ _ _ _ us hl => match us, hl with | [_, _], _ => rfl
  have F_check_all_known := fun_mk (st := sCheckAll) l_check_all_known c_check_all_known k_check_all_known
  have b_check_all_known := F_check_all_known.binds (ps := ["chosen", "names"]) fun _ _ _ _ _ _ us hl => match us, hl with | [_, _], _ => rfl
  have F_distinct_names := fun_mk (st := sDistinct) l_distinct_names c_distinct_names k_distinct_names
  have b_distinct_names := F_distinct_names.binds (ps := ["names"]) fun _ _ _ _ _ _ us hl => match us, hl with | [_], _ => rfl
  have F_check_shown := fun_mk (st := sCheckShown) l_check_shown c_check_shown k_check_shown
  have b_check_shown := F_check_shown.binds (ps := ["shown", "lamps"]) fun _ _ _ _ _ _ us hl => match us, hl with | [_, _], _ => rfl
  have F_chosen_of := fun_mk (st := sChosen) l_chosen_of c_chosen_of k_chosen_of
  have b_chosen_of := F_chosen_of.binds (ps := ["names", "chosen"]) fun _ _ _ _ _ _ us hl => match us, hl with | [_, _], _ => rfl
  have F_law_bag := fun_mk (st := sBag) l_law_bag c_law_bag k_law_bag
  have b_law_bag := F_law_bag.binds (ps := ["_law_script"]) fun _ _ _ _ _ _ us hl => match us, hl with | [_], _ => rfl
  have F_law_take := fun_mk (st := sTake) l_law_take c_law_take k_law_take
  have b_law_take := F_law_take.binds (ps := ["_law_bag_here", "_law_size"]) fun _ _ _ _ _ _ us hl => match us, hl with | [_, _], _ => rfl
  have F_law_name := fun_mk (st := sLawName) l_law_name c_law_name k_law_name
  have b_law_name := F_law_name.binds (ps := ["_law_bag_here", "_law_used"]) fun _ _ _ _ _ _ us hl => match us, hl with | [_, _], _ => rfl
  have F_law_names := fun_mk (st := sLawNames) l_law_names c_law_names k_law_names
  have b_law_names := F_law_names.binds (ps := ["_law_bag_here", "_law_count"]) fun _ _ _ _ _ _ us hl => match us, hl with | [_, _], _ => rfl
  have F_law_free_rows := fun_mk (st := sLawFreeRows) l_law_free_rows c_law_free_rows k_law_free_rows
  have b_law_free_rows := F_law_free_rows.binds (ps := ["_law_bag_here", "_law_lamps", "_law_looks"]) fun _ _ _ _ _ _ us hl => match us, hl with | [_, _, _], _ => rfl
  have F_law_planted_rows := fun_mk (st := sLawPlantedRows) l_law_planted_rows c_law_planted_rows k_law_planted_rows
  have b_law_planted_rows := F_law_planted_rows.binds (ps := ["_law_bag_here", "_law_lamps", "_law_looks"]) fun _ _ _ _ _ _ us hl => match us, hl with | [_, _, _], _ => rfl
  have F_law_flipped := fun_mk (st := sLawFlipped) l_law_flipped c_law_flipped k_law_flipped
  have b_law_flipped := F_law_flipped.binds (ps := ["_law_bag_here", "_law_lamps", "_law_rows_here"]) fun _ _ _ _ _ _ us hl => match us, hl with | [_, _, _], _ => rfl
  have F_law_rows := fun_mk (st := sLawRows) l_law_rows c_law_rows k_law_rows
  have b_law_rows := F_law_rows.binds (ps := ["_law_bag_here", "_law_lamps", "_law_looks"]) fun _ _ _ _ _ _ us hl => match us, hl with | [_, _, _], _ => rfl
  have F_law_given := fun_mk (st := sLawGiven) l_law_given c_law_given k_law_given
  have b_law_given := F_law_given.binds (ps := ["_law_rows_here", "_law_way"]) fun _ _ _ _ _ _ us hl => match us, hl with | [_, _], _ => rfl
  have F_law_word_tuple := fun_mk (st := sLawWordTuple) l_law_word_tuple c_law_word_tuple k_law_word_tuple
  have b_law_word_tuple := F_law_word_tuple.binds (ps := ["_law_value", "_law_count"]) fun _ _ _ _ _ _ us hl => match us, hl with | [_, _], _ => rfl
  have F_law_is_table := fun_mk (st := sLawIsTable) l_law_is_table c_law_is_table k_law_is_table
  have b_law_is_table := F_law_is_table.binds (ps := ["_law_table", "_law_lamps", "_law_rows_here"]) fun _ _ _ _ _ _ us hl => match us, hl with | [_, _, _], _ => rfl
  have F_law_taken_out := fun_mk (st := sLawTakenOut) l_law_taken_out c_law_taken_out k_law_taken_out
  have b_law_taken_out := F_law_taken_out.binds (ps := ["_law_table", "_law_gone"]) fun _ _ _ _ _ _ us hl => match us, hl with | [_, _], _ => rfl
  have F_law_only := fun_mk (st := sLawOnly) l_law_only c_law_only k_law_only
  have b_law_only := F_law_only.binds (ps := ["_law_table", "_law_stay"]) fun _ _ _ _ _ _ us hl => match us, hl with | [_, _], _ => rfl
  have F_law_with := fun_mk (st := sLawWith) l_law_with c_law_with k_law_with
  have b_law_with := F_law_with.binds (ps := ["_law_table", "_law_shown"]) fun _ _ _ _ _ _ us hl => match us, hl with | [_, _], _ => rfl
  have F_law_some := fun_mk (st := sLawSome) l_law_some c_law_some k_law_some
  have b_law_some := F_law_some.binds (ps := ["_law_bag_here", "_law_names_here", "_law_most"]) fun _ _ _ _ _ _ us hl => match us, hl with | [_, _, _], _ => rfl
  have F_Table_init := fun_mk (st := sTabInit) l_Table_init c_Table_init k_Table_init
  have b_Table_init := F_Table_init.binds (ps := ["self", "lamps", "looks"]) fun _ _ _ _ _ _ us hl => match us, hl with | [_, _, _], _ => rfl
  have F_Table_rows := fun_mk (st := sTableRows) l_Table_rows c_Table_rows k_Table_rows
  have b_Table_rows := F_Table_rows.binds (ps := ["self"]) fun _ _ _ _ _ _ us hl => match us, hl with | [_], _ => rfl
  have F_Table_with_look := fun_mk (st := sTableWithLook) l_Table_with_look c_Table_with_look k_Table_with_look
  have F_Table_only := fun_mk (st := sTableOnly) l_Table_only c_Table_only k_Table_only
  have F_Table_without := fun_mk (st := sTableWithout) l_Table_without c_Table_without k_Table_without
  have mT := PySem.W.mg_of X G a_Table
  refine ⟨_, fun s v => .of_eq rfl, fun base _ _ => ok_law6 (C := cs) (CT := C_Table) (fun_mk (st := sLaw) l_law c_law k_law) TI mT ?_ ?_ ?_ ?_ ?_ ?_ ?_ ?_ ?_ ?_ ?_⟩
  · have xI : Ex l.prog w K mg base "InvalidName" "name" cs.inv := ⟨_, _, E_InvalidName, b_InvalidName, ok_einv F_InvalidName E_InvalidName⟩
    have xD : Ex l.prog w K mg base "DuplicateName" "name" cs.dup := ⟨_, _, E_DuplicateName, b_DuplicateName, ok_edup F_DuplicateName E_DuplicateName⟩
    have xU : Ex l.prog w K mg base "UnknownName" "name" cs.unk := ⟨_, _, E_UnknownName, b_UnknownName, ok_eunk F_UnknownName E_UnknownName⟩
    have xM : Ex l.prog w K mg base "TooMany" "limit" cs.many := ⟨_, _, E_TooMany, b_TooMany, ok_emany F_TooMany E_TooMany⟩
    have gN : Dfn l.prog w K mg base CX0 1 "is_name" ["value"] (spIsName K) := ⟨_, _, PySem.W.mg_of X G a_is_name, F_is_name.kp, b_is_name, ok_isname F_is_name TN⟩
    have gCN : Dfn l.prog w K mg base (L2.CX l.prog w) 3 "check_name" ["name"] (spCheckName cs) := ⟨_, _, PySem.W.mg_of X G a_check_name, F_check_name.kp, b_check_name, ok_checkname F_check_name gN xI⟩
    have gNL : Dfn l.prog w K mg base (L2.CX l.prog w) 4 "check_new" ["name", "earlier"] (spNewL K cs) := ⟨_, _, PySem.W.mg_of X G a_check_new, F_check_new.kp, b_check_new, ok_newL F_check_new gCN xD⟩
    have gND : Dfn l.prog w K mg base (L2.CX l.prog w) 4 "check_new" ["name", "earlier"] (spNewD K cs) := ⟨_, _, PySem.W.mg_of X G a_check_new, F_check_new.kp, b_check_new, ok_newD F_check_new gCN xD⟩
    have gK : Dfn l.prog w K mg base (L2.CX l.prog w) 4 "check_known" ["name", "names"] (spKnown K cs) := ⟨_, _, PySem.W.mg_of X G a_check_known, F_check_known.kp, b_check_known, ok_known F_check_known TN xU⟩
    have gA : Dfn l.prog w K mg base (L2.CX l.prog w) 5 "check_all_known" ["chosen", "names"] (spAllKnown K cs) := ⟨_, _, PySem.W.mg_of X G a_check_all_known, F_check_all_known.kp, b_check_all_known, ok_checkall F_check_all_known gK⟩
    have gD : Dfn l.prog w K mg base (L2.CX l.prog w) 6 "distinct_names" ["names"] (spDistinct K cs) := ⟨_, _, PySem.W.mg_of X G a_distinct_names, F_distinct_names.kp, b_distinct_names, ok_distinct F_distinct_names n_tuple gNL⟩
    have gS : Dfn l.prog w K mg base (L2.CX l.prog w) 6 "_check_shown" ["shown", "lamps"] (spShown2 K cs) := ⟨_, _, PySem.W.mg_of X G a_check_shown, F_check_shown.kp, b_check_shown, ok_shown2 F_check_shown n_enumerate gK xD⟩
    have gC : Dfn l.prog w K mg base CX0 1 "_chosen_of" ["names", "chosen"] (spChosen K) := ⟨_, _, PySem.W.mg_of X G a_chosen_of, F_chosen_of.kp, b_chosen_of, ok_chosen F_chosen_of n_tuple⟩
    have ini : ∃ fT fdT, Mk K C_Table fT ∧ Binds K fdT ["self", "lamps", "looks"] [] ∧ FnOk l.prog w K mg base (L2.CX l.prog w) 8 fT fdT ["self", "lamps", "looks"] (spTabInit2 K C_Table cs) := ⟨_, _, ⟨mk_Table, i_Table_init, fn_Table_init, kc_Table⟩, b_Table_init, ok_tabinit2 F_Table_init TT xM gD gND gS gC⟩
    have rw_ : ∃ fR fdR, Meth K C_Table "rows" fR ∧ Binds K fdR ["self"] [] ∧ FnOk l.prog w K mg base CX0 1 fR fdR ["self"] (spTRows K C_Table) := ⟨_, _, ⟨i_Table_rows, fn_Table_rows, F_Table_rows.kp⟩, b_Table_rows, ok_trows F_Table_rows cl n_Table_looks n_Table__shown⟩
    have TAB : TabM l.prog w K mg base C_Table cs := ⟨cl, n_Table_lamps, n_Table_looks, n_Table__shown, mT, ini, rw_⟩
    exact ini
  · exact ⟨_, _, PySem.W.mg_of X G a_law_bag, F_law_bag.kp, b_law_bag, ok_bag F_law_bag TB⟩
  · exact ⟨_, _, PySem.W.mg_of X G a_law_take, F_law_take.kp, b_law_take, ok_take F_law_take TB⟩
  · have gT : Dfn l.prog w K mg base CX0 1 "_law_take" ["_law_bag_here", "_law_size"] spTake := ⟨_, _, PySem.W.mg_of X G a_law_take, F_law_take.kp, b_law_take, ok_take F_law_take TB⟩
    have g1 : Dfn l.prog w K mg base CX0 2 "_law_name" ["_law_bag_here", "_law_used"] spName := ⟨_, _, PySem.W.mg_of X G a_law_name, F_law_name.kp, b_law_name, ok_name F_law_name TM gT⟩
    exact ⟨_, _, PySem.W.mg_of X G a_law_names, F_law_names.kp, b_law_names, ok_names F_law_names TM g1⟩
  · have gT : Dfn l.prog w K mg base CX0 1 "_law_take" ["_law_bag_here", "_law_size"] spTake := ⟨_, _, PySem.W.mg_of X G a_law_take, F_law_take.kp, b_law_take, ok_take F_law_take TB⟩
    exact ⟨_, _, PySem.W.mg_of X G a_law_rows, F_law_rows.kp, b_law_rows, ok_rows F_law_rows gT ⟨_, _, PySem.W.mg_of X G a_law_free_rows, F_law_free_rows.kp, b_law_free_rows, ok_free F_law_free_rows gT⟩ ⟨_, _, PySem.W.mg_of X G a_law_planted_rows, F_law_planted_rows.kp, b_law_planted_rows, ok_planted F_law_planted_rows TR gT⟩ ⟨_, _, PySem.W.mg_of X G a_law_flipped, F_law_flipped.kp, b_law_flipped, ok_flip F_law_flipped TR gT⟩⟩
  · exact ⟨_, _, PySem.W.mg_of X G a_law_given, F_law_given.kp, b_law_given, ok_given F_law_given TR⟩
  · have gT : Dfn l.prog w K mg base CX0 1 "_law_take" ["_law_bag_here", "_law_size"] spTake := ⟨_, _, PySem.W.mg_of X G a_law_take, F_law_take.kp, b_law_take, ok_take F_law_take TB⟩
    exact ⟨_, _, PySem.W.mg_of X G a_law_some, F_law_some.kp, b_law_some, ok_some F_law_some TI gT⟩
  · have xI : Ex l.prog w K mg base "InvalidName" "name" cs.inv := ⟨_, _, E_InvalidName, b_InvalidName, ok_einv F_InvalidName E_InvalidName⟩
    have xD : Ex l.prog w K mg base "DuplicateName" "name" cs.dup := ⟨_, _, E_DuplicateName, b_DuplicateName, ok_edup F_DuplicateName E_DuplicateName⟩
    have xU : Ex l.prog w K mg base "UnknownName" "name" cs.unk := ⟨_, _, E_UnknownName, b_UnknownName, ok_eunk F_UnknownName E_UnknownName⟩
    have xM : Ex l.prog w K mg base "TooMany" "limit" cs.many := ⟨_, _, E_TooMany, b_TooMany, ok_emany F_TooMany E_TooMany⟩
    have gN : Dfn l.prog w K mg base CX0 1 "is_name" ["value"] (spIsName K) := ⟨_, _, PySem.W.mg_of X G a_is_name, F_is_name.kp, b_is_name, ok_isname F_is_name TN⟩
    have gCN : Dfn l.prog w K mg base (L2.CX l.prog w) 3 "check_name" ["name"] (spCheckName cs) := ⟨_, _, PySem.W.mg_of X G a_check_name, F_check_name.kp, b_check_name, ok_checkname F_check_name gN xI⟩
    have gNL : Dfn l.prog w K mg base (L2.CX l.prog w) 4 "check_new" ["name", "earlier"] (spNewL K cs) := ⟨_, _, PySem.W.mg_of X G a_check_new, F_check_new.kp, b_check_new, ok_newL F_check_new gCN xD⟩
    have gND : Dfn l.prog w K mg base (L2.CX l.prog w) 4 "check_new" ["name", "earlier"] (spNewD K cs) := ⟨_, _, PySem.W.mg_of X G a_check_new, F_check_new.kp, b_check_new, ok_newD F_check_new gCN xD⟩
    have gK : Dfn l.prog w K mg base (L2.CX l.prog w) 4 "check_known" ["name", "names"] (spKnown K cs) := ⟨_, _, PySem.W.mg_of X G a_check_known, F_check_known.kp, b_check_known, ok_known F_check_known TN xU⟩
    have gA : Dfn l.prog w K mg base (L2.CX l.prog w) 5 "check_all_known" ["chosen", "names"] (spAllKnown K cs) := ⟨_, _, PySem.W.mg_of X G a_check_all_known, F_check_all_known.kp, b_check_all_known, ok_checkall F_check_all_known gK⟩
    have gD : Dfn l.prog w K mg base (L2.CX l.prog w) 6 "distinct_names" ["names"] (spDistinct K cs) := ⟨_, _, PySem.W.mg_of X G a_distinct_names, F_distinct_names.kp, b_distinct_names, ok_distinct F_distinct_names n_tuple gNL⟩
    have gS : Dfn l.prog w K mg base (L2.CX l.prog w) 6 "_check_shown" ["shown", "lamps"] (spShown2 K cs) := ⟨_, _, PySem.W.mg_of X G a_check_shown, F_check_shown.kp, b_check_shown, ok_shown2 F_check_shown n_enumerate gK xD⟩
    have gC : Dfn l.prog w K mg base CX0 1 "_chosen_of" ["names", "chosen"] (spChosen K) := ⟨_, _, PySem.W.mg_of X G a_chosen_of, F_chosen_of.kp, b_chosen_of, ok_chosen F_chosen_of n_tuple⟩
    have ini : ∃ fT fdT, Mk K C_Table fT ∧ Binds K fdT ["self", "lamps", "looks"] [] ∧ FnOk l.prog w K mg base (L2.CX l.prog w) 8 fT fdT ["self", "lamps", "looks"] (spTabInit2 K C_Table cs) := ⟨_, _, ⟨mk_Table, i_Table_init, fn_Table_init, kc_Table⟩, b_Table_init, ok_tabinit2 F_Table_init TT xM gD gND gS gC⟩
    have rw_ : ∃ fR fdR, Meth K C_Table "rows" fR ∧ Binds K fdR ["self"] [] ∧ FnOk l.prog w K mg base CX0 1 fR fdR ["self"] (spTRows K C_Table) := ⟨_, _, ⟨i_Table_rows, fn_Table_rows, F_Table_rows.kp⟩, b_Table_rows, ok_trows F_Table_rows cl n_Table_looks n_Table__shown⟩
    have TAB : TabM l.prog w K mg base C_Table cs := ⟨cl, n_Table_lamps, n_Table_looks, n_Table__shown, mT, ini, rw_⟩
    exact ⟨_, _, PySem.W.mg_of X G a_law_is_table, F_law_is_table.kp, b_law_is_table, ok_istab F_law_is_table TI cl n_Table_lamps n_Table_looks rw_ ⟨_, _, PySem.W.mg_of X G a_law_word_tuple, F_law_word_tuple.kp, b_law_word_tuple, ok_word F_law_word_tuple TI⟩⟩
  · have xI : Ex l.prog w K mg base "InvalidName" "name" cs.inv := ⟨_, _, E_InvalidName, b_InvalidName, ok_einv F_InvalidName E_InvalidName⟩
    have xD : Ex l.prog w K mg base "DuplicateName" "name" cs.dup := ⟨_, _, E_DuplicateName, b_DuplicateName, ok_edup F_DuplicateName E_DuplicateName⟩
    have xU : Ex l.prog w K mg base "UnknownName" "name" cs.unk := ⟨_, _, E_UnknownName, b_UnknownName, ok_eunk F_UnknownName E_UnknownName⟩
    have xM : Ex l.prog w K mg base "TooMany" "limit" cs.many := ⟨_, _, E_TooMany, b_TooMany, ok_emany F_TooMany E_TooMany⟩
    have gN : Dfn l.prog w K mg base CX0 1 "is_name" ["value"] (spIsName K) := ⟨_, _, PySem.W.mg_of X G a_is_name, F_is_name.kp, b_is_name, ok_isname F_is_name TN⟩
    have gCN : Dfn l.prog w K mg base (L2.CX l.prog w) 3 "check_name" ["name"] (spCheckName cs) := ⟨_, _, PySem.W.mg_of X G a_check_name, F_check_name.kp, b_check_name, ok_checkname F_check_name gN xI⟩
    have gNL : Dfn l.prog w K mg base (L2.CX l.prog w) 4 "check_new" ["name", "earlier"] (spNewL K cs) := ⟨_, _, PySem.W.mg_of X G a_check_new, F_check_new.kp, b_check_new, ok_newL F_check_new gCN xD⟩
    have gND : Dfn l.prog w K mg base (L2.CX l.prog w) 4 "check_new" ["name", "earlier"] (spNewD K cs) := ⟨_, _, PySem.W.mg_of X G a_check_new, F_check_new.kp, b_check_new, ok_newD F_check_new gCN xD⟩
    have gK : Dfn l.prog w K mg base (L2.CX l.prog w) 4 "check_known" ["name", "names"] (spKnown K cs) := ⟨_, _, PySem.W.mg_of X G a_check_known, F_check_known.kp, b_check_known, ok_known F_check_known TN xU⟩
    have gA : Dfn l.prog w K mg base (L2.CX l.prog w) 5 "check_all_known" ["chosen", "names"] (spAllKnown K cs) := ⟨_, _, PySem.W.mg_of X G a_check_all_known, F_check_all_known.kp, b_check_all_known, ok_checkall F_check_all_known gK⟩
    have gD : Dfn l.prog w K mg base (L2.CX l.prog w) 6 "distinct_names" ["names"] (spDistinct K cs) := ⟨_, _, PySem.W.mg_of X G a_distinct_names, F_distinct_names.kp, b_distinct_names, ok_distinct F_distinct_names n_tuple gNL⟩
    have gS : Dfn l.prog w K mg base (L2.CX l.prog w) 6 "_check_shown" ["shown", "lamps"] (spShown2 K cs) := ⟨_, _, PySem.W.mg_of X G a_check_shown, F_check_shown.kp, b_check_shown, ok_shown2 F_check_shown n_enumerate gK xD⟩
    have gC : Dfn l.prog w K mg base CX0 1 "_chosen_of" ["names", "chosen"] (spChosen K) := ⟨_, _, PySem.W.mg_of X G a_chosen_of, F_chosen_of.kp, b_chosen_of, ok_chosen F_chosen_of n_tuple⟩
    have ini : ∃ fT fdT, Mk K C_Table fT ∧ Binds K fdT ["self", "lamps", "looks"] [] ∧ FnOk l.prog w K mg base (L2.CX l.prog w) 8 fT fdT ["self", "lamps", "looks"] (spTabInit2 K C_Table cs) := ⟨_, _, ⟨mk_Table, i_Table_init, fn_Table_init, kc_Table⟩, b_Table_init, ok_tabinit2 F_Table_init TT xM gD gND gS gC⟩
    have rw_ : ∃ fR fdR, Meth K C_Table "rows" fR ∧ Binds K fdR ["self"] [] ∧ FnOk l.prog w K mg base CX0 1 fR fdR ["self"] (spTRows K C_Table) := ⟨_, _, ⟨i_Table_rows, fn_Table_rows, F_Table_rows.kp⟩, b_Table_rows, ok_trows F_Table_rows cl n_Table_looks n_Table__shown⟩
    have TAB : TabM l.prog w K mg base C_Table cs := ⟨cl, n_Table_lamps, n_Table_looks, n_Table__shown, mT, ini, rw_⟩
    exact ⟨_, _, PySem.W.mg_of X G a_law_taken_out, F_law_taken_out.kp, b_law_taken_out, ok_taken (C := cs) F_law_taken_out TI cl ⟨_, ⟨i_Table_without, fn_Table_without, F_Table_without.kp⟩, ok_without F_Table_without TAB gA gC⟩⟩
  · have xI : Ex l.prog w K mg base "InvalidName" "name" cs.inv := ⟨_, _, E_InvalidName, b_InvalidName, ok_einv F_InvalidName E_InvalidName⟩
    have xD : Ex l.prog w K mg base "DuplicateName" "name" cs.dup := ⟨_, _, E_DuplicateName, b_DuplicateName, ok_edup F_DuplicateName E_DuplicateName⟩
    have xU : Ex l.prog w K mg base "UnknownName" "name" cs.unk := ⟨_, _, E_UnknownName, b_UnknownName, ok_eunk F_UnknownName E_UnknownName⟩
    have xM : Ex l.prog w K mg base "TooMany" "limit" cs.many := ⟨_, _, E_TooMany, b_TooMany, ok_emany F_TooMany E_TooMany⟩
    have gN : Dfn l.prog w K mg base CX0 1 "is_name" ["value"] (spIsName K) := ⟨_, _, PySem.W.mg_of X G a_is_name, F_is_name.kp, b_is_name, ok_isname F_is_name TN⟩
    have gCN : Dfn l.prog w K mg base (L2.CX l.prog w) 3 "check_name" ["name"] (spCheckName cs) := ⟨_, _, PySem.W.mg_of X G a_check_name, F_check_name.kp, b_check_name, ok_checkname F_check_name gN xI⟩
    have gNL : Dfn l.prog w K mg base (L2.CX l.prog w) 4 "check_new" ["name", "earlier"] (spNewL K cs) := ⟨_, _, PySem.W.mg_of X G a_check_new, F_check_new.kp, b_check_new, ok_newL F_check_new gCN xD⟩
    have gND : Dfn l.prog w K mg base (L2.CX l.prog w) 4 "check_new" ["name", "earlier"] (spNewD K cs) := ⟨_, _, PySem.W.mg_of X G a_check_new, F_check_new.kp, b_check_new, ok_newD F_check_new gCN xD⟩
    have gK : Dfn l.prog w K mg base (L2.CX l.prog w) 4 "check_known" ["name", "names"] (spKnown K cs) := ⟨_, _, PySem.W.mg_of X G a_check_known, F_check_known.kp, b_check_known, ok_known F_check_known TN xU⟩
    have gA : Dfn l.prog w K mg base (L2.CX l.prog w) 5 "check_all_known" ["chosen", "names"] (spAllKnown K cs) := ⟨_, _, PySem.W.mg_of X G a_check_all_known, F_check_all_known.kp, b_check_all_known, ok_checkall F_check_all_known gK⟩
    have gD : Dfn l.prog w K mg base (L2.CX l.prog w) 6 "distinct_names" ["names"] (spDistinct K cs) := ⟨_, _, PySem.W.mg_of X G a_distinct_names, F_distinct_names.kp, b_distinct_names, ok_distinct F_distinct_names n_tuple gNL⟩
    have gS : Dfn l.prog w K mg base (L2.CX l.prog w) 6 "_check_shown" ["shown", "lamps"] (spShown2 K cs) := ⟨_, _, PySem.W.mg_of X G a_check_shown, F_check_shown.kp, b_check_shown, ok_shown2 F_check_shown n_enumerate gK xD⟩
    have gC : Dfn l.prog w K mg base CX0 1 "_chosen_of" ["names", "chosen"] (spChosen K) := ⟨_, _, PySem.W.mg_of X G a_chosen_of, F_chosen_of.kp, b_chosen_of, ok_chosen F_chosen_of n_tuple⟩
    have ini : ∃ fT fdT, Mk K C_Table fT ∧ Binds K fdT ["self", "lamps", "looks"] [] ∧ FnOk l.prog w K mg base (L2.CX l.prog w) 8 fT fdT ["self", "lamps", "looks"] (spTabInit2 K C_Table cs) := ⟨_, _, ⟨mk_Table, i_Table_init, fn_Table_init, kc_Table⟩, b_Table_init, ok_tabinit2 F_Table_init TT xM gD gND gS gC⟩
    have rw_ : ∃ fR fdR, Meth K C_Table "rows" fR ∧ Binds K fdR ["self"] [] ∧ FnOk l.prog w K mg base CX0 1 fR fdR ["self"] (spTRows K C_Table) := ⟨_, _, ⟨i_Table_rows, fn_Table_rows, F_Table_rows.kp⟩, b_Table_rows, ok_trows F_Table_rows cl n_Table_looks n_Table__shown⟩
    have TAB : TabM l.prog w K mg base C_Table cs := ⟨cl, n_Table_lamps, n_Table_looks, n_Table__shown, mT, ini, rw_⟩
    exact ⟨_, _, PySem.W.mg_of X G a_law_only, F_law_only.kp, b_law_only, ok_onlyl (C := cs) F_law_only TI cl ⟨_, ⟨i_Table_only, fn_Table_only, F_Table_only.kp⟩, ok_only F_Table_only TAB gA⟩⟩
  · have xI : Ex l.prog w K mg base "InvalidName" "name" cs.inv := ⟨_, _, E_InvalidName, b_InvalidName, ok_einv F_InvalidName E_InvalidName⟩
    have xD : Ex l.prog w K mg base "DuplicateName" "name" cs.dup := ⟨_, _, E_DuplicateName, b_DuplicateName, ok_edup F_DuplicateName E_DuplicateName⟩
    have xU : Ex l.prog w K mg base "UnknownName" "name" cs.unk := ⟨_, _, E_UnknownName, b_UnknownName, ok_eunk F_UnknownName E_UnknownName⟩
    have xM : Ex l.prog w K mg base "TooMany" "limit" cs.many := ⟨_, _, E_TooMany, b_TooMany, ok_emany F_TooMany E_TooMany⟩
    have gN : Dfn l.prog w K mg base CX0 1 "is_name" ["value"] (spIsName K) := ⟨_, _, PySem.W.mg_of X G a_is_name, F_is_name.kp, b_is_name, ok_isname F_is_name TN⟩
    have gCN : Dfn l.prog w K mg base (L2.CX l.prog w) 3 "check_name" ["name"] (spCheckName cs) := ⟨_, _, PySem.W.mg_of X G a_check_name, F_check_name.kp, b_check_name, ok_checkname F_check_name gN xI⟩
    have gNL : Dfn l.prog w K mg base (L2.CX l.prog w) 4 "check_new" ["name", "earlier"] (spNewL K cs) := ⟨_, _, PySem.W.mg_of X G a_check_new, F_check_new.kp, b_check_new, ok_newL F_check_new gCN xD⟩
    have gND : Dfn l.prog w K mg base (L2.CX l.prog w) 4 "check_new" ["name", "earlier"] (spNewD K cs) := ⟨_, _, PySem.W.mg_of X G a_check_new, F_check_new.kp, b_check_new, ok_newD F_check_new gCN xD⟩
    have gK : Dfn l.prog w K mg base (L2.CX l.prog w) 4 "check_known" ["name", "names"] (spKnown K cs) := ⟨_, _, PySem.W.mg_of X G a_check_known, F_check_known.kp, b_check_known, ok_known F_check_known TN xU⟩
    have gA : Dfn l.prog w K mg base (L2.CX l.prog w) 5 "check_all_known" ["chosen", "names"] (spAllKnown K cs) := ⟨_, _, PySem.W.mg_of X G a_check_all_known, F_check_all_known.kp, b_check_all_known, ok_checkall F_check_all_known gK⟩
    have gD : Dfn l.prog w K mg base (L2.CX l.prog w) 6 "distinct_names" ["names"] (spDistinct K cs) := ⟨_, _, PySem.W.mg_of X G a_distinct_names, F_distinct_names.kp, b_distinct_names, ok_distinct F_distinct_names n_tuple gNL⟩
    have gS : Dfn l.prog w K mg base (L2.CX l.prog w) 6 "_check_shown" ["shown", "lamps"] (spShown2 K cs) := ⟨_, _, PySem.W.mg_of X G a_check_shown, F_check_shown.kp, b_check_shown, ok_shown2 F_check_shown n_enumerate gK xD⟩
    have gC : Dfn l.prog w K mg base CX0 1 "_chosen_of" ["names", "chosen"] (spChosen K) := ⟨_, _, PySem.W.mg_of X G a_chosen_of, F_chosen_of.kp, b_chosen_of, ok_chosen F_chosen_of n_tuple⟩
    have ini : ∃ fT fdT, Mk K C_Table fT ∧ Binds K fdT ["self", "lamps", "looks"] [] ∧ FnOk l.prog w K mg base (L2.CX l.prog w) 8 fT fdT ["self", "lamps", "looks"] (spTabInit2 K C_Table cs) := ⟨_, _, ⟨mk_Table, i_Table_init, fn_Table_init, kc_Table⟩, b_Table_init, ok_tabinit2 F_Table_init TT xM gD gND gS gC⟩
    have rw_ : ∃ fR fdR, Meth K C_Table "rows" fR ∧ Binds K fdR ["self"] [] ∧ FnOk l.prog w K mg base CX0 1 fR fdR ["self"] (spTRows K C_Table) := ⟨_, _, ⟨i_Table_rows, fn_Table_rows, F_Table_rows.kp⟩, b_Table_rows, ok_trows F_Table_rows cl n_Table_looks n_Table__shown⟩
    have TAB : TabM l.prog w K mg base C_Table cs := ⟨cl, n_Table_lamps, n_Table_looks, n_Table__shown, mT, ini, rw_⟩
    exact ⟨_, _, PySem.W.mg_of X G a_law_with, F_law_with.kp, b_law_with, ok_withl (C := cs) F_law_with TI cl ⟨_, ⟨i_Table_with_look, fn_Table_with_look, F_Table_with_look.kp⟩, ok_withlook F_Table_with_look TAB⟩⟩
theorem walk {l : PySem.W.OpenLaw} {q : Program} {loose : List Str} {XP : (Str → Option Value) → Heap → Prop} {YP : World → Heap → Prop} {d : DefRec} {K : Params → PySem.W.Frag} (hn : l.most = some 63) (hdf : d.params.defaults = [])
    (hY : ∀ (w : World) (h : Heap), YP w h → (K w.params).In h)
    (F : ∀ (w : World) (mg : Str → Option Value) (fa : Addr) (h : Heap), (K w.params).In h → h.Ns mainGlobals mg → mg d.name = some (.ref fa) →
      ∃ fd : FuncData, (∀ (s : Shared) (u : Value), BindsTo s fd ⟨[u], []⟩ [("_law_script", u)]) ∧ ∀ base : Heap, (K w.params).In base → base.Ns mainGlobals mg → FnOk l.prog w (K w.params) mg base CX0 12 fa fd ["_law_script"] (spLaw6 (K w.params))) :
    PySem.W.WalkO q loose XP YP l.row.toRowW d [] (fun f vs => PySem.call f vs) :=
  walk_of (n := 63) (k := 12) (x := "_law_script") (CX := fun _ => CX0) (sp := fun w => spLaw6 (K w.params)) hn (by decide) hdf ⟨rfl, by decide, by decide⟩ hY F
    (fun _ _ a ns hl _ hS => ⟨a, ns, rfl, hS, hl, fun _ => rfl⟩) fun _ _ _ _ _ z => z
end Dl

open PySem PySem.W PyProof.Rows in
set_option maxRecDepth 100000 in
set_option maxHeartbeats 0 in
theorem PySem.Challenge.cw_dimmerlog_k06_parts_of_tables_holds : PySem.Challenge.rw_dimmerlog_k06_parts_of_tables.Holds := by
  w_on; o_law; k_head; (case hw => w_witness2)
  k_fill
  refine Dl.walk (l := PySem.Challenge.rw_dimmerlog_k06_parts_of_tables) rfl rfl (fun w h Y => PySem.W.kIn_of Y) ?F
  case F =>
    intro w mg fa h KX G hmg
    refine' Dl.all_mk KX G hmg ?a_is_name ?l_is_name ?c_is_name ?k_is_name ?a_check_name ?l_check_name ?c_check_name ?k_check_name ?a_check_new ?l_check_new ?c_check_new ?k_check_new ?a_check_known ?l_check_known ?c_check_known ?k_check_known ?a_check_all_known ?l_check_all_known ?c_check_all_known ?k_check_all_known ?a_distinct_names ?l_distinct_names ?c_distinct_names ?k_distinct_names ?a_check_shown ?l_check_shown ?c_check_shown ?k_check_shown ?a_chosen_of ?l_chosen_of ?c_chosen_of ?k_chosen_of ?a_law_bag ?l_law_bag ?c_law_bag ?k_law_bag ?a_law_take ?l_law_take ?c_law_take ?k_law_take ?a_law_name ?l_law_name ?c_law_name ?k_law_name ?a_law_names ?l_law_names ?c_law_names ?k_law_names ?a_law_free_rows ?l_law_free_rows ?c_law_free_rows ?k_law_free_rows ?a_law_planted_rows ?l_law_planted_rows ?c_law_planted_rows ?k_law_planted_rows ?a_law_flipped ?l_law_flipped ?c_law_flipped ?k_law_flipped ?a_law_rows ?l_law_rows ?c_law_rows ?k_law_rows ?a_law_given ?l_law_given ?c_law_given ?k_law_given ?a_law_word_tuple ?l_law_word_tuple ?c_law_word_tuple ?k_law_word_tuple ?a_law_is_table ?l_law_is_table ?c_law_is_table ?k_law_is_table ?a_law_taken_out ?l_law_taken_out ?c_law_taken_out ?k_law_taken_out ?a_law_only ?l_law_only ?c_law_only ?k_law_only ?a_law_with ?l_law_with ?c_law_with ?k_law_with ?a_law_some ?l_law_some ?c_law_some ?k_law_some ?a_law ?l_law ?c_law ?k_law ?a_InvalidName ?x_InvalidName ?hb_InvalidName ?sa_InvalidName ?e_InvalidName ?tc_InvalidName ?kc_InvalidName ?no_InvalidName ?i_InvalidName ?ti_InvalidName ?l_InvalidName ?c_InvalidName ?k_InvalidName ?a_DuplicateName ?x_DuplicateName ?hb_DuplicateName ?sa_DuplicateName ?e_DuplicateName ?tc_DuplicateName ?kc_DuplicateName ?no_DuplicateName ?i_DuplicateName ?ti_DuplicateName ?l_DuplicateName ?c_DuplicateName ?k_DuplicateName ?a_UnknownName ?x_UnknownName ?hb_UnknownName ?sa_UnknownName ?e_UnknownName ?tc_UnknownName ?kc_UnknownName ?no_UnknownName ?i_UnknownName ?ti_UnknownName ?l_UnknownName ?c_UnknownName ?k_UnknownName ?a_TooMany ?x_TooMany ?hb_TooMany ?sa_TooMany ?e_TooMany ?tc_TooMany ?kc_TooMany ?no_TooMany ?i_TooMany ?ti_TooMany ?l_TooMany ?c_TooMany ?k_TooMany ?a_Table ?pg_Table ?hd_Table ?po_Table ?sa_Table ?mk_Table ?kc_Table ?n_Table_lamps ?n_Table_looks ?n_Table__shown ?i_Table_init ?fn_Table_init ?l_Table_init ?c_Table_init ?k_Table_init ?i_Table_rows ?fn_Table_rows ?l_Table_rows ?c_Table_rows ?k_Table_rows ?i_Table_with_look ?fn_Table_with_look ?l_Table_with_look ?c_Table_with_look ?k_Table_with_look ?i_Table_only ?fn_Table_only ?l_Table_only ?c_Table_only ?k_Table_only ?i_Table_without ?fn_Table_without ?l_Table_without ?c_Table_without ?k_Table_without ?z_len ?z_int ?z_tuple ?z_abs ?z_isinstance ?z_str ?z_all ?z_list ?z_range ?z_enumerate ?v_LONGEST ?v_SIGNS ?v_LIMIT
    (case a_is_name => k_is)
    (case l_is_name => k_is)
    (case c_is_name => k_is)
    (case k_is_name => k_is)
    (case a_check_name => k_is)
    (case l_check_name => k_is)
    (case c_check_name => k_is)
    (case k_check_name => k_is)
    (case a_check_new => k_is)
    (case l_check_new => k_is)
    (case c_check_new => k_is)
    (case k_check_new => k_is)
    (case a_check_known => k_is)
    (case l_check_known => k_is)
    (case c_check_known => k_is)
    (case k_check_known => k_is)
    (case a_check_all_known => k_is)
    (case l_check_all_known => k_is)
    (case c_check_all_known => k_is)
    (case k_check_all_known => k_is)
    (case a_distinct_names => k_is)
    (case l_distinct_names => k_is)
    (case c_distinct_names => k_is)
    (case k_distinct_names => k_is)
    (case a_check_shown => k_is)
    (case l_check_shown => k_is)
    (case c_check_shown => k_is)
    (case k_check_shown => k_is)
    (case a_chosen_of => k_is)
    (case l_chosen_of => k_is)
    (case c_chosen_of => k_is)
    (case k_chosen_of => k_is)
    (case a_law_bag => k_is)
    (case l_law_bag => k_is)
    (case c_law_bag => k_is)
    (case k_law_bag => k_is)
    (case a_law_take => k_is)
    (case l_law_take => k_is)
    (case c_law_take => k_is)
    (case k_law_take => k_is)
    (case a_law_name => k_is)
    (case l_law_name => k_is)
    (case c_law_name => k_is)
    (case k_law_name => k_is)
    (case a_law_names => k_is)
    (case l_law_names => k_is)
    (case c_law_names => k_is)
    (case k_law_names => k_is)
    (case a_law_free_rows => k_is)
    (case l_law_free_rows => k_is)
    (case c_law_free_rows => k_is)
    (case k_law_free_rows => k_is)
    (case a_law_planted_rows => k_is)
    (case l_law_planted_rows => k_is)
    (case c_law_planted_rows => k_is)
    (case k_law_planted_rows => k_is)
    (case a_law_flipped => k_is)
    (case l_law_flipped => k_is)
    (case c_law_flipped => k_is)
    (case k_law_flipped => k_is)
    (case a_law_rows => k_is)
    (case l_law_rows => k_is)
    (case c_law_rows => k_is)
    (case k_law_rows => k_is)
    (case a_law_given => k_is)
    (case l_law_given => k_is)
    (case c_law_given => k_is)
    (case k_law_given => k_is)
    (case a_law_word_tuple => k_is)
    (case l_law_word_tuple => k_is)
    (case c_law_word_tuple => k_is)
    (case k_law_word_tuple => k_is)
    (case a_law_is_table => k_is)
    (case l_law_is_table => k_is)
    (case c_law_is_table => k_is)
    (case k_law_is_table => k_is)
    (case a_law_taken_out => k_is)
    (case l_law_taken_out => k_is)
    (case c_law_taken_out => k_is)
    (case k_law_taken_out => k_is)
    (case a_law_only => k_is)
    (case l_law_only => k_is)
    (case c_law_only => k_is)
    (case k_law_only => k_is)
    (case a_law_with => k_is)
    (case l_law_with => k_is)
    (case c_law_with => k_is)
    (case k_law_with => k_is)
    (case a_law_some => k_is)
    (case l_law_some => k_is)
    (case c_law_some => k_is)
    (case k_law_some => k_is)
    (case a_law => k_is)
    (case l_law => k_is)
    (case c_law => k_is)
    (case k_law => k_is)
    (case a_InvalidName => k_is)
    (case x_InvalidName => k_is)
    (case hb_InvalidName => (first | rfl | decide +kernel))
    (case sa_InvalidName => k_is)
    (case e_InvalidName => k_is)
    (case tc_InvalidName => k_is)
    (case kc_InvalidName => k_is)
    (case no_InvalidName => k_is)
    (case i_InvalidName => k_is)
    (case ti_InvalidName => k_is)
    (case l_InvalidName => k_is)
    (case c_InvalidName => k_is)
    (case k_InvalidName => k_is)
    (case a_DuplicateName => k_is)
    (case x_DuplicateName => k_is)
    (case hb_DuplicateName => (first | rfl | decide +kernel))
    (case sa_DuplicateName => k_is)
    (case e_DuplicateName => k_is)
    (case tc_DuplicateName => k_is)
    (case kc_DuplicateName => k_is)
    (case no_DuplicateName => k_is)
    (case i_DuplicateName => k_is)
    (case ti_DuplicateName => k_is)
    (case l_DuplicateName => k_is)
    (case c_DuplicateName => k_is)
    (case k_DuplicateName => k_is)
    (case a_UnknownName => k_is)
    (case x_UnknownName => k_is)
    (case hb_UnknownName => (first | rfl | decide +kernel))
    (case sa_UnknownName => k_is)
    (case e_UnknownName => k_is)
    (case tc_UnknownName => k_is)
    (case kc_UnknownName => k_is)
    (case no_UnknownName => k_is)
    (case i_UnknownName => k_is)
    (case ti_UnknownName => k_is)
    (case l_UnknownName => k_is)
    (case c_UnknownName => k_is)
    (case k_UnknownName => k_is)
    (case a_TooMany => k_is)
    (case x_TooMany => k_is)
    (case hb_TooMany => (first | rfl | decide +kernel))
    (case sa_TooMany => k_is)
    (case e_TooMany => k_is)
    (case tc_TooMany => k_is)
    (case kc_TooMany => k_is)
    (case no_TooMany => k_is)
    (case i_TooMany => k_is)
    (case ti_TooMany => k_is)
    (case l_TooMany => k_is)
    (case c_TooMany => k_is)
    (case k_TooMany => k_is)
    (case a_Table => k_is)
    (case pg_Table => k_is)
    (case hd_Table => k_is)
    (case po_Table => k_is)
    (case sa_Table => k_is)
    (case mk_Table => k_is)
    (case kc_Table => k_is)
    (case n_Table_lamps => k_is)
    (case n_Table_looks => k_is)
    (case n_Table__shown => k_is)
    (case i_Table_init => k_is)
    (case fn_Table_init => k_is)
    (case l_Table_init => k_is)
    (case c_Table_init => k_is)
    (case k_Table_init => k_is)
    (case i_Table_rows => k_is)
    (case fn_Table_rows => k_is)
    (case l_Table_rows => k_is)
    (case c_Table_rows => k_is)
    (case k_Table_rows => k_is)
    (case i_Table_with_look => k_is)
    (case fn_Table_with_look => k_is)
    (case l_Table_with_look => k_is)
    (case c_Table_with_look => k_is)
    (case k_Table_with_look => k_is)
    (case i_Table_only => k_is)
    (case fn_Table_only => k_is)
    (case l_Table_only => k_is)
    (case c_Table_only => k_is)
    (case k_Table_only => k_is)
    (case i_Table_without => k_is)
    (case fn_Table_without => k_is)
    (case l_Table_without => k_is)
    (case c_Table_without => k_is)
    (case k_Table_without => k_is)
    (case z_len => k_is)
    (case z_int => k_is)
    (case z_tuple => k_is)
    (case z_abs => k_is)
    (case z_isinstance => k_is)
    (case z_str => k_is)
    (case z_all => k_is)
    (case z_list => k_is)
    (case z_range => k_is)
    (case z_enumerate => k_is)
    (case v_LONGEST => k_is)
    (case v_SIGNS => k_is)
    (case v_LIMIT => k_is)
