import PyProof.Rows.All
import Wide.All
import OpenK.AllK
import Wide.FinOn
import HandS.ForMost
import HandS.Exc
import HandS.TryOnly
import HandS.ExcOwn
import HandS.WordsExc
import HandS.ExcInit
import HandS.ExcField
import HandS.IsInst
import HandS.Walk
import HandS.Conv
import HandS.Wide
import HandS.TryMany
import HandS.CallSlots
import HandS.Flow
import HandS.Deep
import HandS.Star
import HandS.MethStar
import HandS.ExcIs
import HandS.Rev
import HandS.More
import KE.GoesEnum
import KE.GoesMore
import HandS.ListEq
import HandS.DictEq
import HandS.DeepEq
import HandS.OwnEq
import HandS.Codes
import KE.KExcIs
import HandS.Defaults
import HandS.MakeKwOnly
import HandS.FStr
import HandS.StrMore
import HandS.Text
import PySem.Challenge.RW_dimmerlog_k69_charts
set_option Elab.async false
set_option linter.all false
set_option maxRecDepth 100000
set_option maxHeartbeats 4000000
namespace Dl
open PySem L2
def top (i : Nat) : Stmt := PySem.Challenge.pw_dimmerlog_k69_charts.main.body.getD i (.Pass ⟨0, 0, 0, 0⟩)
abbrev sWall : Stmt := top 0
abbrev sInv : Stmt := inClass (top 3) 0
abbrev sDup : Stmt := inClass (top 4) 0
abbrev sUnk : Stmt := inClass (top 5) 0
abbrev sLine : Stmt := inClass (top 6) 0
abbrev sMany : Stmt := inClass (top 7) 0
abbrev sChart : Stmt := top 12
abbrev sChLine : Stmt := top 13
abbrev sIsName : Stmt := top 17
abbrev sCheckName : Stmt := top 18
abbrev sCheckNew : Stmt := top 19
abbrev sCheckKnown : Stmt := top 20
abbrev sCheckAll : Stmt := top 21
abbrev sDistinct : Stmt := top 22
abbrev sTabInit : Stmt := inClass (top 25) 0
abbrev sTableRead : Stmt := inClass (top 25) 1
abbrev sTableStr : Stmt := inClass (top 25) 2
abbrev sTableGetitem : Stmt := inClass (top 25) 3
abbrev sTableIter : Stmt := inClass (top 25) 4
abbrev sTableLen : Stmt := inClass (top 25) 5
abbrev sTableEq : Stmt := inClass (top 25) 6
abbrev sTableShown : Stmt := inClass (top 25) 7
abbrev sTableSeen : Stmt := inClass (top 25) 8
abbrev sTableRows : Stmt := inClass (top 25) 9
abbrev sTableWithout : Stmt := inClass (top 25) 10
abbrev sTableOnly : Stmt := inClass (top 25) 11
abbrev sTableWithLook : Stmt := inClass (top 25) 12
abbrev sTableExchanged : Stmt := inClass (top 25) 13
abbrev sTableAlike : Stmt := inClass (top 25) 14
abbrev sTableGroups : Stmt := inClass (top 25) 15
abbrev sCheckShown : Stmt := top 26
abbrev sChosen : Stmt := top 27
abbrev sReadLamps : Stmt := top 28
abbrev sReadLook : Stmt := top 29
abbrev sBag : Stmt := top 31
abbrev sTake : Stmt := top 32
abbrev sLawName : Stmt := top 33
abbrev sLawNames : Stmt := top 34
abbrev sLawFreeRows : Stmt := top 35
abbrev sLawPlantedRows : Stmt := top 36
abbrev sLawFlipped : Stmt := top 37
abbrev sLawRows : Stmt := top 38
abbrev sLawSeen : Stmt := top 39
abbrev sLawGiven : Stmt := top 40
abbrev sLawDrawn : Stmt := top 41
abbrev sLawRefused : Stmt := top 42
abbrev sLaw : Stmt := top 43
end Dl

/-! The bag of draws: _law_bag, _law_take. -/
namespace Dl
open PySem L2

/-! ### the mathematics of the bag -/
structure BagOk (L : List Int) : Prop where
  ex : ∃ (s d : Int) (r : List Int), L = s :: d :: r ∧ 0 ≤ s ∧ s < 2147483647 ∧ 0 ≤ d ∧ ∀ x ∈ r, 0 ≤ x
theorem BagOk.put0 {d : Int} {r : List Int} (x : Int) (hd : 0 ≤ d) (hr : ∀ x ∈ r, 0 ≤ x) : BagOk (x % 2147483647 :: d :: r) :=
  ⟨_, _, _, rfl, Int.emod_nonneg _ (by decide), Int.emod_lt_of_pos _ (by decide), hd, hr⟩

/-- the names that the two defs read -/
structure TxtB (mg : Str → Option Value) : Prop where
  len : mg "len" = none
  int : mg "int" = none
  abs : mg "abs" = none

def spTake : Sp := fun vs H Q _ => ∃ (b : Addr) (L : List Int) (n : Int), vs = [.ref b, .int n] ∧ H b = some (.lst (L.map V.int)) ∧ BagOk L ∧ 1 ≤ n ∧ n < 1000000 ∧
  ∀ (L' : List Int) (r : Int), BagOk L' → 0 ≤ r → r < n → Q (.int r) (upd H b (.lst (L'.map V.int)))
section
variable {P : Program} {w : World} {K : PySem.W.Frag} {mg : Str → Option Value} {base : Heap}
theorem scTake : FnScope ["_law_bag_here", "_law_size", "_law_cell", "_law_digit"] ["_law_bag_here", "_law_size"] (defScope sTake) := ⟨rfl, rfl, rfl, by decide +kernel, rfl, by decide +kernel, by decide +kernel⟩
theorem upd_upd {H : Hp} {a : Addr} {o u : HO} : upd (upd H a o) a u = upd H a u := by
  funext b
  by_cases h : b = a
  · subst h; rw [upd_same, upd_same]
  · rw [upd_ne h, upd_ne h, upd_ne h]
theorem upd_id {H : Hp} {a : Addr} {o : HO} (h : H a = some o) : upd H a o = H := by
  funext b
  by_cases e : b = a
  · subst e; rw [upd_same, h]
  · rw [upd_ne e]
theorem ix_at {n j : Nat} (h : j < n) : ixN n (j : Int) = some j := by
  unfold ixN
  rw [if_pos (by omega), if_pos (by omega)]; simp
theorem ok_take {f : Addr} {fd : FuncData} (F : Fun K "_law_take" "_law_take" sTake f fd) (T : TxtB mg) : FnOk P w K mg base CX0 1 f fd ["_law_bag_here", "_law_size"] spTake := by
  refine F.ok scTake (fun vs H Q E h => ?_) (fun cdv A outer s H vs Q E hr h => ?_)
  · obtain ⟨b, L, n, rfl, _⟩ := h
    rfl
  · obtain ⟨b, L, n, rfl, hb, ⟨z, d, r, rfl, hz0, hz1, hd0, hr0⟩, hn1, hn2, k⟩ := h
    refine ⟨_, pss_cons (ps_if (PW.pt (pw_and (pt_cmpR op_eq (pe_ix ix_list (pv 0) pe_int (fun _ _ => rfl)) pe_int (nomark _)) (pw_and1 (pt_cmpR op_gt (pe_callB call_len_seq (by rfl) T.len PySem.boot_len (pa_cons (pv 0) pa_nil)) pe_int (nomark _)))))
        (pss_cons (ps_set (i := 2) scTake.nd rfl (Or.inl rfl) (pe_bm PySem.F.plainAttrs_list PySem.F.slot_list_pop PySem.F.type_list_pop mt_popAt (pv 0) (pa_cons pe_int pa_nil)))
        (pss_one (ps_if (pt_cmpR op_ge (pv 2) (pe_op op_pow pe_int pe_int) (nomark _))
          (pss_one (ps_asg (pv 2) (pg_sub (pv 0) pe_int set_list)))
          (pss_cons (ps_asg (pe_op op_mod (pe_callTy call_int1 (by rfl) T.int (by decide +kernel) (pa_cons (pe_op op_add (pe_op op_add (pe_op op_mul (pe_ix ix_list (pv 0) pe_int (fun _ _ => rfl)) pe_int) (pe_op op_mul (pv 2) pe_int)) pe_int) pa_nil)) pe_int) (pg_sub (pv 0) pe_int set_list))
          (pss_one (ps_ret (pe_op op_mod (pe_callTy call_int1 (by rfl) T.int (by decide +kernel) (pa_cons (pe_op op_fdiv (pe_op op_add (pe_op op_mul (pe_ix ix_list (pv 0) pe_int (fun _ _ => rfl)) pe_int) pe_int) pe_int) pa_nil)) (pv 1))))))))
        pss_nil)
      (pss_cons (ps_if (pt_cmpR op_gt (pe_ix ix_list (pv 0) pe_int (fun _ _ => rfl)) pe_int (nomark _))
        (pss_cons (ps_set (i := 3) scTake.nd rfl (Or.inl rfl) (pe_op op_mod (pe_callTy call_int1 (by rfl) T.int (by decide +kernel) (pa_cons (pe_ix ix_list (pv 0) pe_int (fun _ _ => rfl)) pa_nil)) (pv 1)))
        (pss_cons (ps_asg (pe_op op_fdivW (pe_ix ix_list (pv 0) pe_int (fun _ _ => rfl)) (pv 1)) (pg_sub (pv 0) pe_int set_list))
        (pss_one (ps_ret (pv 3)))))
        pss_nil)
      (pss_cons (ps_asg (pe_op op_mod (pe_callTy call_int1 (by rfl) T.int (by decide +kernel) (pa_cons (pe_op op_mul (pe_ix ix_list (pv 0) pe_int (fun _ _ => rfl)) pe_int) pa_nil)) pe_int) (pg_sub (pv 0) pe_int set_list))
      (pss_one (ps_ret (pe_op op_mod (pe_callTy call_int1 (by rfl) T.int (by decide +kernel) (pa_cons (pe_op op_fdiv (pe_ix ix_list (pv 0) pe_int (fun _ _ => rfl)) pe_int) pa_nil)) (pv 1)))))), ?_⟩
    -- bag[1] == 0 and len(bag) > 2
    refine ⟨_, rfl, b, _, _, _, rfl, rfl, SqL.of hb, (atI_nat (j := 1) rfl), rfl, _, rfl, ?_⟩
    refine ite2 (fun e => ?_) (fun e => ?_)
    · refine ⟨_, rfl, b, _, rfl, .inl (SqL.of hb), _, _, rfl, rfl, _, rfl, ?_⟩
      refine ite2 (fun e2 => ?_) (fun e2 => ?_)
      · -- cell = bag.pop(2)
        have hl : 2 < (z :: d :: r).length := by
          have q := of_decide_eq_true e2
          have q2 : ((2 : Int) < (((z :: d :: r).map V.int).length : Nat)) := q
          rw [List.length_map] at q2
          omega
        match r, hr0, hb, k, hl with
        | [], _, _, _, hl => exact absurd hl (by simp)
        | c :: r, hr0, hb, k, _ =>
        have hc0 : 0 ≤ c := hr0 c (List.mem_cons_self ..)
        have hr1 : ∀ x ∈ r, 0 ≤ x := fun x hx => hr0 x (List.mem_cons_of_mem _ hx)
        have hsq : seqIndex? (2 : Int) ((z :: d :: c :: r).map V.int).length = some 2 := by
          have q : ((z :: d :: c :: r).map V.int).length = r.length + 3 := by simp
          rw [q]
          unfold seqIndex?
          simp
          omega
        refine ⟨_, rfl, .inl ⟨rfl, _, SqL.of hb⟩, b, _, 2, 2, _, rfl, rfl, hb, by decide, by decide, hsq, rfl, ?_⟩
        refine ⟨_, rfl, _, _, rfl, rfl, ⟨by decide, by decide, by decide⟩, _, _, rfl, rfl, _, rfl, ?_⟩
        refine ite2 (fun e4 => ?_) (fun e4 => ?_)
        · refine ⟨_, rfl, _, rfl, b, _, _, 1, rfl, rfl, upd_same, ix_at (j := 1) (by simp), ?_⟩
          have hd1 : 0 ≤ c := hc0
          have hz1' := hz0
          have hz1'' := hz1
          have k1 : ∀ (L' : List Int) (x : Int), BagOk L' → 0 ≤ x → x < n → Q (.int x) (upd (upd (upd H b (HO.lst ((z :: d :: r).map V.int))) b (HO.lst ((z :: c :: r).map V.int))) b (.lst (L'.map V.int))) := fun L' x h1 h2 h3 => by
            rw [upd_upd, upd_upd]
            exact k L' x h1 h2 h3
          have hb1 : (upd (upd H b (HO.lst ((z :: d :: r).map V.int))) b (HO.lst ((z :: c :: r).map V.int))) b = some (.lst ((z :: c :: r).map V.int)) := upd_same
          refine ⟨_, rfl, b, _, _, _, rfl, rfl, SqL.of hb1, (atI_nat (j := 1) rfl), _, _, rfl, rfl, _, rfl, ?_⟩
          refine ite2 (fun e3 => ?_) (fun e3 => ?_)
          · refine ⟨_, rfl, b, _, _, _, rfl, rfl, SqL.of hb1, (atI_nat (j := 1) rfl), .inl ⟨_, rfl, ?_⟩⟩
            refine ⟨_, rfl, _, _, rfl, rfl, (by show (0 : Int) < n; omega), ?_⟩
            refine ⟨_, rfl, b, _, _, _, rfl, rfl, SqL.of hb1, (atI_nat (j := 1) rfl), _, rfl, _, _, rfl, rfl, wide_div (b := 20) (by show (0 : Int) < n; omega) (by show n.natAbs < 2 ^ 20; omega) (by decide) (by decide), ?_⟩
            refine ⟨_, rfl, b, _, _, 1, rfl, rfl, hb1, ix_at (j := 1) (by simp), ?_⟩
            refine ⟨_, rfl, ?_⟩
            exact k1 (z :: (c / n) :: r) _ ⟨_, _, _, rfl, hz1', hz1'', Int.ediv_nonneg hd1 (by omega), hr1⟩ (Int.emod_nonneg _ (by omega)) (Int.emod_lt_of_pos _ (by omega))
          · refine ⟨_, rfl, b, _, _, _, rfl, rfl, SqL.of hb1, (atI_nat (j := 0) rfl), _, _, rfl, rfl, .inl ⟨by show -(2 ^ 64) < z; omega, by show z < 2 ^ 64; omega⟩, .inl ⟨_, rfl, ?_⟩⟩
            refine ⟨_, _, rfl, rfl, (by show (0 : Int) < 2147483647; decide), ?_⟩
            refine ⟨_, rfl, b, _, _, 0, rfl, rfl, hb1, ix_at (j := 0) (by simp), ?_⟩
            refine ⟨_, rfl, b, _, _, _, rfl, rfl, SqL.of upd_same, (atI_nat (j := 0) rfl), _, _, rfl, rfl, ⟨by decide, by decide⟩, .inl ⟨_, rfl, ?_⟩⟩
            refine ⟨_, rfl, _, _, rfl, rfl, (by show (0 : Int) < n; omega), ?_⟩
            exact k1 (z * 48271 % 2147483647 :: c :: r) _ (BagOk.put0 _ hd1 hr1) (Int.emod_nonneg _ (by omega)) (Int.emod_lt_of_pos _ (by omega))
        · have hc1 : c < 10 ^ 18 := by
            have q := of_decide_eq_false (p := ((10 : Int) ^ (18 : Int).toNat ≤ c)) (by simpa using e4)
            have q2 : (10 : Int) ^ (18 : Int).toNat = 1000000000000000000 := by decide
            omega
          refine ⟨_, rfl, b, _, _, _, rfl, rfl, SqL.of upd_same, (atI_nat (j := 0) rfl), _, _, rfl, rfl, .inl ⟨by show -(2 ^ 64) < z; omega, by show z < 2 ^ 64; omega⟩, ?_⟩
          refine ⟨_, rfl, _, _, rfl, rfl, .inl ⟨by show -(2 ^ 64) < c; omega, by show c < 2 ^ 64; omega⟩, _, _, rfl, rfl, _, _, rfl, rfl, .inl ⟨_, rfl, ?_⟩⟩
          refine ⟨_, _, rfl, rfl, (by show (0 : Int) < 2147483647; decide), ?_⟩
          refine ⟨_, rfl, b, _, _, 0, rfl, rfl, upd_same, ix_at (j := 0) (by simp), ?_⟩
          refine ⟨_, rfl, b, _, _, _, rfl, rfl, SqL.of upd_same, (atI_nat (j := 0) rfl), _, _, rfl, rfl, .inl ⟨?_, ?_⟩, _, _, rfl, rfl, _, _, rfl, rfl, ⟨by decide, by decide⟩, .inl ⟨_, rfl, ?_⟩⟩
          · have q := Int.emod_nonneg (z * 48271 + c * 69621 + 11) (show (2147483647 : Int) ≠ 0 by decide)
            show -(2 ^ 64) < (z * 48271 + c * 69621 + 11) % 2147483647
            omega
          · have q := Int.emod_lt_of_pos (z * 48271 + c * 69621 + 11) (show (0 : Int) < 2147483647 by decide)
            show (z * 48271 + c * 69621 + 11) % 2147483647 < 2 ^ 64
            omega
          refine ⟨_, rfl, _, _, rfl, rfl, (by show (0 : Int) < n; omega), ?_⟩
          have q := k ((z * 48271 + c * 69621 + 11) % 2147483647 :: d :: r) _ (BagOk.put0 _ hd0 hr1) (Int.emod_nonneg (((z * 48271 + c * 69621 + 11) % 2147483647 * 16807 + 7919) / 16) (show n ≠ 0 by omega)) (Int.emod_lt_of_pos _ (by omega))
          rw [← upd_upd] at q
          exact q
      · have hb1 := hb
        have k1 := k
        have hz1' := hz0
        have hz1'' := hz1
        have hd1 := hd0
        have hr1 := hr0
        refine ⟨_, rfl, b, _, _, _, rfl, rfl, SqL.of hb1, (atI_nat (j := 1) rfl), _, _, rfl, rfl, _, rfl, ?_⟩
        refine ite2 (fun e3 => ?_) (fun e3 => ?_)
        · refine ⟨_, rfl, b, _, _, _, rfl, rfl, SqL.of hb1, (atI_nat (j := 1) rfl), .inl ⟨_, rfl, ?_⟩⟩
          refine ⟨_, rfl, _, _, rfl, rfl, (by show (0 : Int) < n; omega), ?_⟩
          refine ⟨_, rfl, b, _, _, _, rfl, rfl, SqL.of hb1, (atI_nat (j := 1) rfl), _, rfl, _, _, rfl, rfl, wide_div (b := 20) (by show (0 : Int) < n; omega) (by show n.natAbs < 2 ^ 20; omega) (by decide) (by decide), ?_⟩
          refine ⟨_, rfl, b, _, _, 1, rfl, rfl, hb1, ix_at (j := 1) (by simp), ?_⟩
          refine ⟨_, rfl, ?_⟩
          exact k1 (z :: (d / n) :: r) _ ⟨_, _, _, rfl, hz1', hz1'', Int.ediv_nonneg hd1 (by omega), hr1⟩ (Int.emod_nonneg _ (by omega)) (Int.emod_lt_of_pos _ (by omega))
        · refine ⟨_, rfl, b, _, _, _, rfl, rfl, SqL.of hb1, (atI_nat (j := 0) rfl), _, _, rfl, rfl, .inl ⟨by show -(2 ^ 64) < z; omega, by show z < 2 ^ 64; omega⟩, .inl ⟨_, rfl, ?_⟩⟩
          refine ⟨_, _, rfl, rfl, (by show (0 : Int) < 2147483647; decide), ?_⟩
          refine ⟨_, rfl, b, _, _, 0, rfl, rfl, hb1, ix_at (j := 0) (by simp), ?_⟩
          refine ⟨_, rfl, b, _, _, _, rfl, rfl, SqL.of upd_same, (atI_nat (j := 0) rfl), _, _, rfl, rfl, ⟨by decide, by decide⟩, .inl ⟨_, rfl, ?_⟩⟩
          refine ⟨_, rfl, _, _, rfl, rfl, (by show (0 : Int) < n; omega), ?_⟩
          exact k1 (z * 48271 % 2147483647 :: d :: r) _ (BagOk.put0 _ hd1 hr1) (Int.emod_nonneg _ (by omega)) (Int.emod_lt_of_pos _ (by omega))
    · have hb1 := hb
      have k1 := k
      have hz1' := hz0
      have hz1'' := hz1
      have hd1 := hd0
      have hr1 := hr0
      refine ⟨_, rfl, b, _, _, _, rfl, rfl, SqL.of hb1, (atI_nat (j := 1) rfl), _, _, rfl, rfl, _, rfl, ?_⟩
      refine ite2 (fun e3 => ?_) (fun e3 => ?_)
      · refine ⟨_, rfl, b, _, _, _, rfl, rfl, SqL.of hb1, (atI_nat (j := 1) rfl), .inl ⟨_, rfl, ?_⟩⟩
        refine ⟨_, rfl, _, _, rfl, rfl, (by show (0 : Int) < n; omega), ?_⟩
        refine ⟨_, rfl, b, _, _, _, rfl, rfl, SqL.of hb1, (atI_nat (j := 1) rfl), _, rfl, _, _, rfl, rfl, wide_div (b := 20) (by show (0 : Int) < n; omega) (by show n.natAbs < 2 ^ 20; omega) (by decide) (by decide), ?_⟩
        refine ⟨_, rfl, b, _, _, 1, rfl, rfl, hb1, ix_at (j := 1) (by simp), ?_⟩
        refine ⟨_, rfl, ?_⟩
        exact k1 (z :: (d / n) :: r) _ ⟨_, _, _, rfl, hz1', hz1'', Int.ediv_nonneg hd1 (by omega), hr1⟩ (Int.emod_nonneg _ (by omega)) (Int.emod_lt_of_pos _ (by omega))
      · refine ⟨_, rfl, b, _, _, _, rfl, rfl, SqL.of hb1, (atI_nat (j := 0) rfl), _, _, rfl, rfl, .inl ⟨by show -(2 ^ 64) < z; omega, by show z < 2 ^ 64; omega⟩, .inl ⟨_, rfl, ?_⟩⟩
        refine ⟨_, _, rfl, rfl, (by show (0 : Int) < 2147483647; decide), ?_⟩
        refine ⟨_, rfl, b, _, _, 0, rfl, rfl, hb1, ix_at (j := 0) (by simp), ?_⟩
        refine ⟨_, rfl, b, _, _, _, rfl, rfl, SqL.of upd_same, (atI_nat (j := 0) rfl), _, _, rfl, rfl, ⟨by decide, by decide⟩, .inl ⟨_, rfl, ?_⟩⟩
        refine ⟨_, rfl, _, _, rfl, rfl, (by show (0 : Int) < n; omega), ?_⟩
        exact k1 (z * 48271 % 2147483647 :: d :: r) _ (BagOk.put0 _ hd1 hr1) (Int.emod_nonneg _ (by omega)) (Int.emod_lt_of_pos _ (by omega))
end
end Dl

namespace Dl
open PySem L2
theorem Same.upd_new {H : Hp} {a : Addr} {o : HO} (h : H a = none) : Same H (upd H a o) := fun b u e => by
  rw [upd_ne (ne_of_none e h)]; exact e
def spBag (K : PySem.W.Frag) : Sp := fun vs H Q _ => ∃ (a : Addr) (ns : List Int), vs = [.ref a] ∧ SqL K H a (ns.map V.int) ∧ ns.length ≤ 63 ∧
  ∀ (H' : Hp) (p : Addr) (L : List Int), Same H H' → H p = none → H' p = some (.lst (L.map V.int)) → BagOk L → Q (.ref p) H'
section
variable {P : Program} {w : World} {K : PySem.W.Frag} {mg : Str → Option Value} {base : Heap}
theorem scBag : FnScope ["_law_script", "_law_cell"] ["_law_script"] (defScope sBag) := ⟨rfl, rfl, rfl, by decide +kernel, rfl, by decide +kernel, by decide +kernel⟩
theorem ok_bag {f : Addr} {fd : FuncData} (F : Fun K "_law_bag" "_law_bag" sBag f fd) (T : TxtB mg) : FnOk P w K mg base CX0 1 f fd ["_law_script"] (spBag K) := by
  refine F.ok scBag (fun vs H Q E h => ?_) (fun cdv A outer s H vs Q E hr h => ?_)
  · obtain ⟨b, L, rfl, _⟩ := h
    rfl
  · obtain ⟨a, ns, rfl, hS, hlen, k⟩ := h
    refine ⟨_, pss_one (ps_ret (pe_op op_cat (pe_lst (pa_cons pe_int (pa_cons pe_int pa_nil)))
      (pe_lc (own := [("_law_cell", 1)]) (g := gName 1) (tt := tYes) rfl scBag.nd (pi_list (pe_slice sl_list (pv 0) po_none (po_some pe_int))) (blkOk_by (N := ["_law_script", "_law_cell"]) (sc := defScope sBag) (by decide +kernel))
        (fun _ _ _ _ _ => pg_name (i := 1) scBag.nd rfl (Or.inl rfl)) (fun _ _ _ _ _ => pts_nil) (fun _ _ _ _ _ => pe_callB call_abs (by rfl) T.abs (by decide +kernel) (pa_cons (pv 1) pa_nil))))), ?_⟩
    refine ⟨by show 2 ≤ sizeLine; decide, fun l hl => ?_⟩
    refine ⟨_, rfl, 63, rfl, a, _, rfl, Same.seq (Same.upd_new hl) hS, fun q hq => ?_⟩
    have hcut : ∃ ms : List Int, cutV (ns.map V.int) none (some 63) = ms.map V.int ∧ ms.length ≤ 63 := by
      refine ⟨(ns.drop (HT.sIx (ns.map V.int).length 0 none)).take (HT.sIx (ns.map V.int).length (ns.map V.int).length (some 63) - HT.sIx (ns.map V.int).length 0 none), ?_, ?_⟩
      · unfold cutV
        rw [← List.map_drop, ← List.map_take]
      · rw [List.length_take, List.length_drop]
        omega
    obtain ⟨ms, em, hm⟩ := hcut
    rw [em]
    refine ⟨q, rfl, ⟨_, SqL.of upd_same⟩, fun D hD => lc_list (xs := ms.map V.int) (fun i H' => ∃ M : List Int, H' = upd (upd (upd H l (.lst [.int 0, .int 0])) q (.lst (ms.map V.int))) D (.lst (M.map V.int)) ∧ M.length = i ∧ ∀ x ∈ M, 0 ≤ x)
      ⟨[], rfl, rfl, fun x hx => absurd hx (by simp)⟩ ?_ ?_ ?_⟩
    · rintro i H' _ ⟨M, rfl, _, _⟩
      have nqD : q ≠ D := ne_of_none (H := upd (upd H l (.lst [.int 0, .int 0])) q (.lst (ms.map V.int))) upd_same hD
      exact SqL.of (by rw [upd_ne nqD]; exact upd_same)
    · rintro i x H' hi ⟨M, rfl, hM, hx⟩
      rw [List.getElem?_map] at hi
      cases e : ms[i]? with
      | none => rw [e] at hi; cases hi
      | some u =>
      rw [e] at hi
      obtain rfl : V.int u = x := Option.some.inj hi
      refine ⟨rfl, _, rfl, u, rfl, _, upd_same, ?_, M ++ [if u < 0 then -u else u], ?_, ?_, ?_⟩
      · rw [List.length_map, hM]
        have := (List.getElem?_eq_some_iff.mp e).1
        exact small1000 (by omega)
      · rw [upd_upd, List.map_append]
        rfl
      · rw [List.length_append, hM]
        rfl
      · intro y hy
        rcases List.mem_append.mp hy with h | h
        · exact hx y h
        · obtain rfl := List.mem_singleton.mp h
          split <;> omega
    · rintro H' ⟨M, rfl, hM, hx⟩
      have nlq : l ≠ q := fun e => by rw [e, upd_same] at hq; cases hq
      have nlD : l ≠ D := fun e => by rw [← e, upd_ne nlq, upd_same] at hD; cases hD
      rw [List.length_map] at hM
      refine ⟨l, D, _, _, rfl, rfl, by rw [upd_ne nlD, upd_ne nlq, upd_same], upd_same, ?_, fun p hp => ?_⟩
      · rw [List.length_map]
        exact Nat.le_of_lt (small1000 (by simp; omega))
      · have hp0 : H p = none := by
          have npD : p ≠ D := fun e => by rw [e, upd_same] at hp; cases hp
          have npq : p ≠ q := fun e => by rw [upd_ne npD, e, upd_same] at hp; cases hp
          have npl : p ≠ l := fun e => by rw [upd_ne npD, upd_ne npq, e, upd_same] at hp; cases hp
          rw [upd_ne npD, upd_ne npq, upd_ne npl] at hp
          exact hp
        have s1 : Same H (upd H l (.lst [.int 0, .int 0])) := Same.upd_new hl
        refine k _ p (0 :: 0 :: M) ((s1.trans (Same.upd_new hq)).trans ((Same.upd_new hD).trans (Same.upd_new hp))) hp0 (by rw [upd_same]; rfl) ⟨0, 0, M, rfl, by decide, by decide, by decide, hx⟩
end
end Dl

namespace Dl
open PySem L2
/-! ### the own errors: class C, its __init__ at fI, its one field f -/
structure ErrC (K : PySem.W.Frag) (mg : Str → Option Value) (x f : Str) (C fI : Addr) : Prop where
  oex : OexC K C
  gC : mg x = some (.ref C)
  iC : PySem.W.findIn K (.ref C) "__init__" = some (some (.ref fI))
  tI : PySem.W.typeIn K (.ref fI) = some (.type "function")
  no : PySem.W.findIn K (.ref C) f = some none
/-- self.f = v -/
def spEI (K : PySem.W.Frag) (C : Addr) (f : Str) : Sp := fun vs H Q _ => ∃ (a : Addr) (v : V), vs = [.ref a, v] ∧ H a = some (exo a C none) ∧ ∀ dx, H dx = none → dx ≠ a → Q .non (upd (upd H dx (exd dx [(f, v)])) a (exo a C (some dx)))
section
variable {P : Program} {w : World} {K : PySem.W.Frag} {mg : Str → Option Value} {base : Heap}
theorem scInv : FnScope ["self", "name"] ["self", "name"] (defScope sInv) := ⟨rfl, rfl, rfl, by decide +kernel, rfl, by decide +kernel, by decide +kernel⟩
theorem ok_einv {C fI : Addr} {fd : FuncData} {x : Str} (F : Fun K "__init__" "InvalidName.__init__" sInv fI fd) (T : ErrC K mg x "name" C fI) : FnOk P w K mg base CX0 1 fI fd ["self", "name"] (spEI K C "name") := by
  refine F.ok scInv (fun vs H Q E h => ?_) (fun cdv A outer s H vs Q E hr h => ?_)
  · obtain ⟨b, n, rfl, _⟩ := h
    rfl
  · obtain ⟨a, v, rfl, ha, k⟩ := h
    exact ⟨_, pss_one (ps_ost (pv 0) (pv 1)), _, rfl, _, rfl, a, C, rfl, T.oex, T.no, .inl ⟨ha, fun dx h1 h2 => k dx h1 h2⟩⟩
theorem scDup : FnScope ["self", "name"] ["self", "name"] (defScope sDup) := ⟨rfl, rfl, rfl, by decide +kernel, rfl, by decide +kernel, by decide +kernel⟩
theorem ok_edup {C fI : Addr} {fd : FuncData} {x : Str} (F : Fun K "__init__" "DuplicateName.__init__" sDup fI fd) (T : ErrC K mg x "name" C fI) : FnOk P w K mg base CX0 1 fI fd ["self", "name"] (spEI K C "name") := by
  refine F.ok scDup (fun vs H Q E h => ?_) (fun cdv A outer s H vs Q E hr h => ?_)
  · obtain ⟨b, n, rfl, _⟩ := h
    rfl
  · obtain ⟨a, v, rfl, ha, k⟩ := h
    exact ⟨_, pss_one (ps_ost (pv 0) (pv 1)), _, rfl, _, rfl, a, C, rfl, T.oex, T.no, .inl ⟨ha, fun dx h1 h2 => k dx h1 h2⟩⟩
theorem scUnk : FnScope ["self", "name"] ["self", "name"] (defScope sUnk) := ⟨rfl, rfl, rfl, by decide +kernel, rfl, by decide +kernel, by decide +kernel⟩
theorem ok_eunk {C fI : Addr} {fd : FuncData} {x : Str} (F : Fun K "__init__" "UnknownName.__init__" sUnk fI fd) (T : ErrC K mg x "name" C fI) : FnOk P w K mg base CX0 1 fI fd ["self", "name"] (spEI K C "name") := by
  refine F.ok scUnk (fun vs H Q E h => ?_) (fun cdv A outer s H vs Q E hr h => ?_)
  · obtain ⟨b, n, rfl, _⟩ := h
    rfl
  · obtain ⟨a, v, rfl, ha, k⟩ := h
    exact ⟨_, pss_one (ps_ost (pv 0) (pv 1)), _, rfl, _, rfl, a, C, rfl, T.oex, T.no, .inl ⟨ha, fun dx h1 h2 => k dx h1 h2⟩⟩
theorem scMany : FnScope ["self", "limit"] ["self", "limit"] (defScope sMany) := ⟨rfl, rfl, rfl, by decide +kernel, rfl, by decide +kernel, by decide +kernel⟩
theorem ok_emany {C fI : Addr} {fd : FuncData} {x : Str} (F : Fun K "__init__" "TooMany.__init__" sMany fI fd) (T : ErrC K mg x "limit" C fI) : FnOk P w K mg base CX0 1 fI fd ["self", "limit"] (spEI K C "limit") := by
  refine F.ok scMany (fun vs H Q E h => ?_) (fun cdv A outer s H vs Q E hr h => ?_)
  · obtain ⟨b, n, rfl, _⟩ := h
    rfl
  · obtain ⟨a, v, rfl, ha, k⟩ := h
    exact ⟨_, pss_one (ps_ost (pv 0) (pv 1)), _, rfl, _, rfl, a, C, rfl, T.oex, T.no, .inl ⟨ha, fun dx h1 h2 => k dx h1 h2⟩⟩
end
/-- the way out of raise C(v): what is to be shown for the error's reading, from what the def's promise says -/
theorem raise_end {C : Addr} {f : Str} {K : PySem.W.Frag} {H : Hp} {v : V} {Q : XK} (q : ∀ d H', Same H H' → H d = none → H' d = some (.xd [(f, v)]) → Q (.ref C) (some d) H') :
    ([v] : List V).length ≤ 1000 ∧ ∀ a, H a = none → spEI K C f (.ref a :: ([v] ++ [])) (upd H a (exo a C none))
      (fun u H2 => u = .non ∧ ∃ (d : Addr) (fs : List (Str × V)), H2 a = some (exo a C (some d)) ∧ H2 d = some (exd d fs) ∧ H d = none ∧ Q (.ref C) (some d) (upd (del H2 a) d (.xd fs))) (fun _ _ _ => False) := by
  refine ⟨by simp, fun a ha => ⟨a, v, rfl, upd_same, fun dx hx ne => ⟨rfl, dx, [(f, v)], upd_same, ?_, ?_, ?_⟩⟩⟩
  · rw [upd_ne ne, upd_same]
  · rw [upd_ne ne] at hx
    exact hx
  · rw [upd_ne ne] at hx
    refine q dx _ (fun b o e => ?_) hx upd_same
    have nb : b ≠ dx := ne_of_none e hx
    have na : b ≠ a := ne_of_none e ha
    rw [upd_ne nb, del_ne na, upd_ne na, upd_ne nb, upd_ne na]
    exact e
end Dl

namespace Dl
open PySem L2
/-! ### names -/
def SG : Str := "abcdefghijklmnopqrstuvwxyz0123456789"
def validN (z : Str) : Bool := decide (1 ≤ z.length) && (decide (z.length ≤ 12) && z.cps.toList.all fun c => decide (c ∈ SG.cps.toList))
def isNm : V → Bool
  | .str z => validN z
  | _ => false
/-- what may be passed as a name: a text, an int, None, a list -/
def NmOk (H : Hp) : V → Prop
  | .str z => z.length ≤ sizeLine
  | .int _ => True
  | .non => True
  | .ref p => ∃ xs, H p = some (.lst xs)
  | _ => False
structure TxtN (mg : Str → Option Value) : Prop where
  isi : mg "isinstance" = none
  str : mg "str" = none
  len : mg "len" = none
  all : mg "all" = none
  longest : ∃ t, mg "LONGEST" = some (.int 12 t)
  signs : ∃ t, mg "SIGNS" = some (.str SG t)
theorem nm_type (K : PySem.W.Frag) {H : Hp} {v : V} (hv : NmOk H v) : ∃ (ty : String) (b : Bool), TyX K H v (.type ty) ∧ PySem.W.kitOne K (.type ty) (.type "str") = some b ∧ ((b = false ∧ isNm v = false ∧ ∀ z, v ≠ .str z) ∨ (b = true ∧ ∃ z, v = .str z ∧ z.length ≤ sizeLine)) := by
  cases v with
  | int i => exact ⟨"int", false, .base (.int i), kit_ty (by decide +kernel), .inl ⟨rfl, rfl, fun z h => by cases h⟩⟩
  | non => exact ⟨"NoneType", false, .base .non, kit_ty (by decide +kernel), .inl ⟨rfl, rfl, fun z h => by cases h⟩⟩
  | ref p => obtain ⟨xs, hp⟩ := hv; exact ⟨"list", false, .base (.lst hp), kit_ty (by decide +kernel), .inl ⟨rfl, rfl, fun z h => by cases h⟩⟩
  | str z => exact ⟨"str", true, .base (.str z), kit_ty (by decide +kernel), .inr ⟨rfl, z, rfl, hv⟩⟩
  | bl _ => exact hv.elim
  | byt _ => exact hv.elim
  | flt _ => exact hv.elim
  | ty _ => exact hv.elim
def spIsName (K : PySem.W.Frag) : Sp := fun vs H Q _ => ∃ v : V, vs = [v] ∧ NmOk H v ∧ ∀ H', Same H H' → Q (.bl (isNm v)) H'
theorem int_le_nat {a b : Nat} : decide ((a : Int) ≤ (b : Int)) = decide (a ≤ b) := by simp
section
variable {P : Program} {w : World} {K : PySem.W.Frag} {mg : Str → Option Value} {base : Heap}
theorem scIsName : FnScope ["value", "sign"] ["value"] (defScope sIsName) := ⟨rfl, rfl, rfl, by decide +kernel, rfl, by decide +kernel, by decide +kernel⟩
theorem ok_isname {f : Addr} {fd : FuncData} (F : Fun K "is_name" "is_name" sIsName f fd) (T : TxtN mg) : FnOk P w K mg base CX0 1 f fd ["value"] (spIsName K) := by
  refine F.ok scIsName (fun vs H Q E h => ?_) (fun cdv A outer s H vs Q E hr h => ?_)
  · obtain ⟨b, rfl, _⟩ := h
    rfl
  · obtain ⟨v, rfl, hv, k⟩ := h
    obtain ⟨t1, hL⟩ := T.longest
    obtain ⟨t2, hG⟩ := T.signs
    refine ⟨_, pss_cons (ps_if (PW.pt (pw_or (pt_not (pt_val (pe_callB call_isi (by rfl) T.isi (by decide +kernel) (pa_cons (pv 0) (pa_cons (pe_bltn (v := .ty "str") (by rfl) T.str (by decide +kernel) rfl) pa_nil)))))
        (pw_or1 (pt_not (pt_chain op_le op_le pe_int (pe_callB call_len_str (by rfl) T.len PySem.boot_len (pa_cons (pv 0) pa_nil)) (pe_glob (v := .int 12) (by rfl) hL ⟨_, rfl⟩))))))
        (pss_one (ps_ret pe_bl)) pss_nil)
      (pss_one (ps_ret (pe_callB (cr_all rfl) (by rfl) T.all (by decide +kernel) (pa_cons
        (pe_lc (own := [("sign", 1)]) (g := gName 1) (tt := tYes) rfl scIsName.nd (pi_str (pv 0)) (blkOk_by (N := ["value", "sign"]) (sc := defScope sIsName) (by decide +kernel))
          (fun _ _ _ _ _ => pg_name (i := 1) scIsName.nd rfl (Or.inl rfl)) (fun _ _ _ _ _ => pts_nil) (fun _ _ _ _ _ => pe_cmpR op_in_sign (pv 1) (pe_glob (v := .str SG) (by rfl) hG ⟨_, rfl⟩) (by rfl)))
        pa_nil)))), ?_⟩
    obtain ⟨ty, b, h1, h2, h3⟩ := nm_type K hv
    refine ⟨_, rfl, v, _, _, _, b, rfl, ClsV.ty "str", h1, h2, b, rfl, ?_⟩
    rcases h3 with ⟨rfl, h3, _⟩ | ⟨rfl, z, rfl, hz⟩
    · refine iteT (?_)
      show Q (.bl false) H
      rw [← h3]
      exact k H (Same.refl H)
    · refine iteF (?_)
      refine ⟨_, rfl, z, rfl, hz, _, _, rfl, rfl, _, rfl, ?_⟩
      refine ite2 (fun e1 => ?_) (fun e1 => ?_)
      · have e1' : (1 : Nat) ≤ z.length := by
          have q : (1 : Int) ≤ (z.length : Nat) := of_decide_eq_true e1
          omega
        refine ⟨_, _, rfl, rfl, _, rfl, ?_⟩
        by_cases e2 : z.length ≤ 12
        · have e2' : decide (((z.length : Nat) : Int) ≤ (12 : Int)) = true := decide_eq_true (by omega)
          rw [e2']
          refine iteF (?_)
          refine ⟨_, rfl, z, rfl, fun D hD => lc_it (w := walk_str) (fun i H' => H' = upd H D (.lst (((z.cps.toList.take i).map fun c => decide (c ∈ SG.cps.toList)).map V.bl)) ∧ True) ⟨rfl, trivial⟩ (fun _ _ _ _ => trivial) ?_ ?_⟩
          · rintro i x H' H2 hi ⟨rfl, _⟩ ⟨rfl, c, hc, rfl⟩
            refine ⟨rfl, _, rfl, c, SG, rfl, rfl, _, upd_same, ?_, ?_, trivial⟩
            · rw [List.length_map, List.length_map, List.length_take]
              have ez : z.cps.size = z.length := rfl
              exact small1000 (by omega)
            · have hc2 : z.cps.toList[i]? = some c := by rw [Array.getElem?_toList]; exact hc
              rw [upd_upd, List.take_succ, hc2]
              simp
          · rintro H' ⟨rfl, _⟩
            refine ⟨D, _, rfl, SqL.of upd_same, ?_⟩
            have q := k _ (Same.upd_new hD (o := .lst (((z.cps.toList.take z.cps.size).map fun c => decide (c ∈ SG.cps.toList)).map V.bl)))
            have e : isNm (.str z) = ((z.cps.toList.take z.cps.size).map fun c => decide (c ∈ SG.cps.toList)).all id := by
              show validN z = _
              unfold validN
              rw [decide_eq_true e1', decide_eq_true e2, List.take_of_length_le (by simp)]
              simp [List.all_map]
            rw [e] at q
            exact q
        · have e2' : decide (((z.length : Nat) : Int) ≤ (12 : Int)) = false := decide_eq_false (by omega)
          rw [e2']
          refine iteT (?_)
          have q := k H (Same.refl H)
          have e : isNm (.str z) = false := by
            show validN z = _
            unfold validN
            rw [decide_eq_false e2]
            simp
          rw [e] at q
          exact q
      · have q := k H (Same.refl H)
        have e1' : ¬ (1 : Nat) ≤ z.length := fun x => e1 (decide_eq_true (by
          show (1 : Int) ≤ (z.length : Nat)
          omega))
        have e : isNm (.str z) = false := by
          show validN z = _
          unfold validN
          rw [decide_eq_false e1']
          rfl
        rw [e] at q
        exact ⟨_, rfl, iteT q⟩
end
end Dl

namespace Dl
open PySem L2
/-- a def that stands at a global name and keeps its promise -/
def Dfn (P : Program) (w : World) (K : PySem.W.Frag) (mg : Str → Option Value) (base : Heap) (CX : CXT) (k : Nat) (x : Str) (ps : List Str) (sp : Sp) : Prop :=
  ∃ f fd, mg x = some (.ref f) ∧ PySem.W.keepIn K (.ref f) = true ∧ Binds K fd ps [] ∧ FnOk P w K mg base CX k f fd ps sp
/-- an own error with its __init__ -/
def Ex (P : Program) (w : World) (K : PySem.W.Frag) (mg : Str → Option Value) (base : Heap) (x f : Str) (C : Addr) : Prop :=
  ∃ fI fd, ErrC K mg x f C fI ∧ Binds K fd ["self", f] [] ∧ FnOk P w K mg base CX0 1 fI fd ["self", f] (spEI K C f)
/-- the classes of the errors -/
structure Cs where
  inv : Addr
  dup : Addr
  unk : Addr
  many : Addr
inductive Er where
  | inv (v : V)
  | dup (v : V)
  | unk (v : V)
  | many
/-- an error with one field leaves: what the caller wants of it -/
def Out1 (C : Addr) (f : Str) (v : V) (H : Hp) (E : XK) : Prop := ∀ d H', Same H H' → H d = none → H' d = some (.xd [(f, v)]) → E (.ref C) (some d) H'
def Out (C : Cs) (H : Hp) (E : XK) : Er → Prop
  | .inv v => Out1 C.inv "name" v H E
  | .dup v => Out1 C.dup "name" v H E
  | .unk v => Out1 C.unk "name" v H E
  | .many => Out1 C.many "limit" (.int 24) H E
theorem Out1.of {C : Addr} {f : Str} {v : V} {H H1 : Hp} {E : XK} (s : Same H H1) (h : Out1 C f v H E) : Out1 C f v H1 E := fun d H' s' n e => h d H' (s.trans s') (s.free n) e
theorem Out.of {C : Cs} {H H1 : Hp} {E : XK} {e : Er} (s : Same H H1) (h : Out C H E e) : Out C H1 E e := by
  cases e <;> exact Out1.of s h
theorem Out1.imp {C : Addr} {f : Str} {v : V} {H : Hp} {E E' : XK} (i : ∀ c d H', E c d H' → E' c d H') (h : Out1 C f v H E) : Out1 C f v H E' := fun d H' s' n e => i _ _ _ (h d H' s' n e)
/-- check_new's word -/
def chkNew (v : V) (es : List Str) : Option Er :=
  match v with
  | .str z => if validN z then (if z ∈ es then some (.dup v) else none) else some (.inv v)
  | _ => some (.inv v)
/-- earlier is a list, a tuple or a dict of texts -/
def spNewL (K : PySem.W.Frag) (C : Cs) : Sp := fun vs H Q E => ∃ (v : V) (p : Addr) (es : List Str), vs = [v, .ref p] ∧ NmOk H v ∧ H p = some (.lst (es.map V.str)) ∧ (∀ H', Same H H' → chkNew v es = none → Q .non H') ∧ ∀ e, chkNew v es = some e → Out C H E e
def spNewD (K : PySem.W.Frag) (C : Cs) : Sp := fun vs H Q E => ∃ (v : V) (p : Addr) (kvs : List (Key × V)) (es : List Str), vs = [v, .ref p] ∧ NmOk H v ∧ H p = some (.dK kvs) ∧ kvs.map (·.1) = es.map Sum.inr ∧ (∀ H', Same H H' → chkNew v es = none → Q .non H') ∧ ∀ e, chkNew v es = some e → Out C H E e
theorem inV_str {z : Str} {es : List Str} : inV (.str z) (es.map V.str) = decide (z ∈ es) := by
  unfold inV
  rw [List.any_map]
  induction es with
  | nil => simp
  | cons a r ih =>
    rw [List.any_cons, ih]
    have e : ((fun y => eqV y (V.str z)) ∘ V.str) a = decide (a = z) := by
      show eqV (V.str a) (V.str z) = decide (a = z)
      unfold eqV
      first | rfl | simp
    rw [e]
    by_cases h : a = z
    · subst h; simp
    · have h2 : ¬ z = a := fun q => h q.symm
      simp [h, h2]
theorem flat_strs (es : List Str) : (es.map V.str).all flatV = true := by
  rw [List.all_map]
  induction es with
  | nil => rfl
  | cons a r ih => rw [List.all_cons, ih]; rfl
/-- check_name(name): nothing happens if it is a valid name, else InvalidName -/
def spCheckName (C : Cs) : Sp := fun vs H Q E => ∃ v : V, vs = [v] ∧ NmOk H v ∧ (∀ H', Same H H' → isNm v = true → Q .non H') ∧ (isNm v = false → Out C H E (.inv v))
section
variable {P : Program} {w : World} {K : PySem.W.Frag} {mg : Str → Option Value} {base : Heap} {C : Cs}
theorem scCheckName : FnScope ["name"] ["name"] (defScope sCheckName) := ⟨rfl, rfl, rfl, by decide +kernel, rfl, by decide +kernel, by decide +kernel⟩
theorem ok_checkname {f : Addr} {fd : FuncData} (F : Fun K "check_name" "check_name" sCheckName f fd) (gN : Dfn P w K mg base CX0 1 "is_name" ["value"] (spIsName K)) (xI : Ex P w K mg base "InvalidName" "name" C.inv) :
    FnOk P w K mg base (L2.CX P w) 3 f fd ["name"] (spCheckName C) := by
  obtain ⟨fN, dN, mN, kN, bN, GN⟩ := gN
  obtain ⟨fI, dI, TI, bI, GI⟩ := xI
  refine F.okX scCheckName (fun vs H Q E h => ?_) (fun cdv A outer s H vs Q E hr h => ?_)
  · obtain ⟨b, rfl, _⟩ := h
    rfl
  · obtain ⟨v, rfl, hv, k, kx⟩ := h
    have hr1 : Room 1 _ := hr.mono (by decide)
    have hr2 : Room 2 _ := hr.mono (by decide)
    refine ⟨_, pss_one (ps_if (pt_not (pt_val (pe_call GN hr1 (by rfl) mN kN bN .nil pass0 (pa_cons (pv 0) pa_nil))))
        (pss_one (ps_raise rfl (takes_of rfl rfl rfl rfl) (pmk_oex TI.oex TI.iC TI.tI GI hr2 bI .nil pass0 (by rfl) TI.gC (pa_cons (pv 0) pa_nil)))) pss_nil), ?_⟩
    refine ⟨_, rfl, v, rfl, hv, fun H1 s1 => ⟨_, rfl, ?_⟩⟩
    by_cases hn : isNm v = true
    · rw [hn]
      exact iteF (k H1 s1 hn)
    · have hn' : isNm v = false := by simpa using hn
      rw [hn']
      exact iteT ⟨_, rfl, raise_end (Out.of s1 (kx hn'))⟩
theorem scCheckNew : FnScope ["name", "earlier"] ["name", "earlier"] (defScope sCheckNew) := ⟨rfl, rfl, rfl, by decide +kernel, rfl, by decide +kernel, by decide +kernel⟩
theorem isNm_str {v : V} (h : isNm v = true) : ∃ z, v = .str z ∧ validN z = true := by
  cases v with
  | str z => exact ⟨z, rfl, h⟩
  | _ => cases h
theorem isSome_valV {kvs : List (Key × V)} {es : List Str} (h : kvs.map (·.1) = es.map Sum.inr) {z : Str} : (valV kvs (Sum.inr z)).isSome = decide (z ∈ es) := by
  unfold valV
  rw [Option.isSome_map, List.isSome_find?]
  have e : kvs.any (fun kv => decide (kv.1 = (Sum.inr z : Key))) = (kvs.map (·.1)).any (fun k => decide (k = (Sum.inr z : Key))) := by rw [List.any_map]; rfl
  rw [e, h, List.any_map]
  clear h e
  induction es with
  | nil => simp
  | cons a r ih =>
    rw [List.any_cons, ih]
    by_cases q : a = z
    · subst q; simp
    · have q2 : ¬ z = a := fun x => q x.symm
      simp [q, q2]
theorem ok_newL {f : Addr} {fd : FuncData} (F : Fun K "check_new" "check_new" sCheckNew f fd) (gN : Dfn P w K mg base (L2.CX P w) 3 "check_name" ["name"] (spCheckName C)) (xD : Ex P w K mg base "DuplicateName" "name" C.dup) :
    FnOk P w K mg base (L2.CX P w) 4 f fd ["name", "earlier"] (spNewL K C) := by
  obtain ⟨fN, dN, mN, kN, bN, GN⟩ := gN
  obtain ⟨fD, dD, TD, bD, GD⟩ := xD
  refine F.okX scCheckNew (fun vs H Q E h => ?_) (fun cdv A outer s H vs Q E hr h => ?_)
  · obtain ⟨b, n, es, rfl, _⟩ := h
    rfl
  · obtain ⟨v, p, es, rfl, hv, hp, k, kx⟩ := h
    have hr3 : Room 3 _ := hr.mono (by decide)
    have hr2 : Room 2 _ := hr.mono (by decide)
    refine ⟨_, pss_cons (ps_expr (pe_call GN hr3 (by rfl) mN kN bN .nil (passes_call (takes_of rfl rfl rfl rfl) (fun _ _ _ _ h => h)) (pa_cons (pv 0) pa_nil)))
      (pss_one (ps_if (pt_cmpR op_in_seq (pv 0) (pv 1) (by rfl))
        (pss_one (ps_raise rfl (takes_of rfl rfl rfl rfl) (pmk_oex TD.oex TD.iC TD.tI GD hr2 bD .nil pass0 (by rfl) TD.gC (pa_cons (pv 0) pa_nil)))) pss_nil)), ?_⟩
    refine ⟨_, rfl, v, rfl, hv, fun H1 s1 hn => ?_, fun hn' => ?_⟩
    · obtain ⟨z, rfl, hz⟩ := isNm_str hn
      refine ⟨_, rfl, _, rfl, p, _, rfl, .inl (SqL.of (s1 _ _ hp)), rfl, flat_strs es, _, rfl, ?_⟩
      show if (inV (.str z) (es.map V.str)) = true then _ else _
      by_cases hm : z ∈ es
      · rw [inV_str, decide_eq_true hm]
        refine iteT (?_)
        exact ⟨_, rfl, raise_end (Out.of s1 (kx (.dup (.str z)) (by simp [chkNew, hz, hm])))⟩
      · rw [inV_str, decide_eq_false hm]
        refine iteF (?_)
        exact k H1 s1 (by simp [chkNew, hz, hm])
    · have hc : chkNew v es = some (.inv v) := by
        cases v with
        | str z =>
          have hz : validN z = false := hn'
          simp [chkNew, hz]
        | _ => rfl
      exact kx _ hc
theorem ok_newD {f : Addr} {fd : FuncData} (F : Fun K "check_new" "check_new" sCheckNew f fd) (gN : Dfn P w K mg base (L2.CX P w) 3 "check_name" ["name"] (spCheckName C)) (xD : Ex P w K mg base "DuplicateName" "name" C.dup) :
    FnOk P w K mg base (L2.CX P w) 4 f fd ["name", "earlier"] (spNewD K C) := by
  obtain ⟨fN, dN, mN, kN, bN, GN⟩ := gN
  obtain ⟨fD, dD, TD, bD, GD⟩ := xD
  refine F.okX scCheckNew (fun vs H Q E h => ?_) (fun cdv A outer s H vs Q E hr h => ?_)
  · obtain ⟨b, n, kvs, es, rfl, _⟩ := h
    rfl
  · obtain ⟨v, p, kvs, es, rfl, hv, hp, hkv, k, kx⟩ := h
    have hr3 : Room 3 _ := hr.mono (by decide)
    have hr2 : Room 2 _ := hr.mono (by decide)
    refine ⟨_, pss_cons (ps_expr (pe_call GN hr3 (by rfl) mN kN bN .nil (passes_call (takes_of rfl rfl rfl rfl) (fun _ _ _ _ h => h)) (pa_cons (pv 0) pa_nil)))
      (pss_one (ps_if (pt_cmp (pc_din (hu_of hr) (pv 0) (pv 1)))
        (pss_one (ps_raise rfl (takes_of rfl rfl rfl rfl) (pmk_oex TD.oex TD.iC TD.tI GD hr2 bD .nil pass0 (by rfl) TD.gC (pa_cons (pv 0) pa_nil)))) pss_nil)), ?_⟩
    refine ⟨_, rfl, v, rfl, hv, fun H1 s1 hn => ?_, fun hn' => ?_⟩
    · obtain ⟨z, rfl, hz⟩ := isNm_str hn
      refine ⟨_, rfl, _, rfl, p, _, rfl, DGet.k (k := Sum.inr z) (s1 _ _ hp), _, rfl, ?_⟩
      by_cases hm : z ∈ es
      · rw [isSome_valV hkv, decide_eq_true hm]
        refine iteT (?_)
        exact ⟨_, rfl, raise_end (Out.of s1 (kx (.dup (.str z)) (by simp [chkNew, hz, hm])))⟩
      · rw [isSome_valV hkv, decide_eq_false hm]
        refine iteF (?_)
        exact k H1 s1 (by simp [chkNew, hz, hm])
    · have hc : chkNew v es = some (.inv v) := by
        cases v with
        | str z =>
          have hz : validN z = false := hn'
          simp [chkNew, hz]
        | _ => rfl
      exact kx _ hc
end
end Dl

/-! tuple(d) of a dict: my own rule -/
namespace Dl
open PySem PySem.Spec PyProof.Rows PySem.W PySem.Calls
section
variable {prog : Program} {w : World} {A : Around} {E : Value → Shared → Prop} {s : Shared} {d : Addr} {n : Nat} {P : Nat → Value → Prop} {OK : Heap → Prop}
theorem collect_src {Q : List Value → Shared → Prop} (K : KdlSrc prog w "dict" d d n P OK) (hh : A.handled = none) (hok : OK s.heap) (hn : n ≤ sizeLine)
    (hQ : ∀ (h' : Heap) (tk : Nat) (acc : Array Value), (∀ b o, s.heap.get? b = some o → h'.get? b = some o) → ItemsOf P acc n → Q acc.toList { s with heap := h', toks := tk }) :
    wpAny (model prog w) A (collect (.ref d)) Q E s := by
  unfold collect
  refine wpAny_bind (wpAny_runValue (codeAny_builtin F.entry_proto_collect ?_))
  rw [Around.under_plainId F.plain_proto_collect _]
  show wpAny _ A.in1 (newList [] >>= fun l => again (.builtin "list.__iadd__" ⟨[l, .ref d], []⟩)) _ _ s
  refine wpAny_bind (wpAny_newObj_type ?_)
  refine wpAny_pure ⟨plainId_quiet F.plain_list_iadd _, codeAny_builtin F.entry_list_iadd ?_⟩
  rw [Around.under_plainId F.plain_list_iadd _]
  show wpAny _ A.in1 (Builtin.List.listExtendWith (.ref s.heap.objs.size) (.ref d) (.ref s.heap.objs.size)) _ _ _
  have hS : (s.heap.push { cls := .type "list", data := .seq ([] : List Value).toArray }).get? s.heap.objs.size = some { cls := .type "list", data := .seq #[] 0 } := Heap.get?_push_size _ rfl
  have hlt := K.there _ hok
  refine wpAny_mono (kdl_extend (A := A) (R := fun rr s' => rr = .ok (.ret (.ref s.heap.objs.size)) ∧ ∃ (h' : Heap) (tk : Nat) (acc : Array Value) (c' : Nat), s' = { s with heap := h', toks := tk } ∧
      (∀ b o, s.heap.get? b = some o → h'.get? b = some o) ∧ h'.get? s.heap.objs.size = some { cls := .type "list", dict := none, data := .seq acc c', slots := #[] } ∧ ItemsOf P acc n)
    (s := { s with heap := s.heap.push { cls := .type "list", data := .seq ([] : List Value).toArray } }) K hh (K.keep _ _ hok fun b _ o e => Heap.get?_push_of_some _ e) _ (Nat.ne_of_gt hlt.1) (Nat.ne_of_gt hlt.2) _ 0 hS
    (fun h' tk acc c' hk e hi => ⟨rfl, h', tk, acc, c', rfl, fun b o q => hk b o (Nat.ne_of_lt (Heap.lt_size q)) (Heap.get?_push_of_some _ q), e, hi⟩) hn) (fun fin s' h => ?_) (fun e s' h => ?_)
  · cases fin with
    | done f =>
      obtain ⟨e, h', tk, acc, c', rfl, hk, hS', hi⟩ := h
      cases e
      show wpAny _ A (load s.heap.objs.size >>= _) _ _ _
      exact wpAny_bind (wpAny_load hS' (wpAny_pure (hQ h' tk acc hk hi)))
    | again c' =>
      refine ⟨h.1, codeAny_mono h.2 fun rr s'' hr' => ?_⟩
      obtain ⟨rfl, h', tk, acc, c', rfl, hk, hS', hi⟩ := hr'
      show wpAny _ A (load s.heap.objs.size >>= _) _ _ _
      exact wpAny_bind (wpAny_load hS' (wpAny_pure (hQ h' tk acc hk hi)))
  · exact absurd h.1 (by simp)
theorem code_tuple_new_src {Q₁ : Value → Shared → Prop} (K : KdlSrc prog w "dict" d d n P OK) (hh : A.handled = none) (hok : OK s.heap) (hn : n ≤ sizeLine)
    (h : ∀ (h' : Heap) (tk : Nat) (acc : Array Value), (∀ b o, s.heap.get? b = some o → h'.get? b = some o) → ItemsOf P acc n →
      Q₁ (.ref h'.objs.size) { s with heap := h'.push { cls := .type "tuple", data := .seq acc }, toks := tk }) :
    codeAny (model prog w) A (.call (.builtin "tuple.__new__") ⟨[.type "tuple", .ref d], []⟩) (wants Q₁ E) s := by
  refine codeAny_of_tree ?_
  show wpAny _ A.in1 (do checkBuiltinCall "tuple.__new__" ⟨[.type "tuple", .ref d], []⟩; again (.builtin "tuple.__new__" ⟨[.type "tuple", .ref d], []⟩)) _ _ s
  refine wpAny_bind (wpAny_of_eq (F.newCall_tuple_1 _) (wpAny_pure ⟨plainId_quiet F.plain_tuple_new _, codeAny_builtin F.entry_tuple_new ?_⟩))
  rw [Around.under_plainId F.plain_tuple_new _]
  have hsub := sub_tuple_self
  have hinit := init_tuple_lookup
  have hmh := madeHere_tuple
  have hTI : s.TypeIs (.ref d) "dict" := K.type _ hok
  have hh1 : A.in1.handled = none := hh
  wp_walk using wpAny_typeOf hTI, collect_src (A := A.in1) K hh1 hok hn
  intro h' tk acc hk hacc
  show wpAny _ _ (Builtin.Tuple.tupleExact acc.toList.toArray >>= fun v => ret v) _ _ _
  unfold Builtin.Tuple.tupleExact
  refine wpAny_bind (wpAny_newObj_type ?_ (by show acc.toList.toArray.size ≤ sizeLine; simp only [Array.toArray_toList]; rw [hacc.1]; exact hn))
  refine wpAny_pure ?_
  have e : acc.toList.toArray = acc := by simp
  rw [e]
  exact h h' tk acc hk hacc
theorem call_tuple_src {Q : Value → Shared → Prop} (K : KdlSrc prog w "dict" d d n P OK) (hh : A.handled = none) (hok : OK s.heap) (hn : n ≤ sizeLine)
    (hQ : ∀ (h' : Heap) (tk : Nat) (acc : Array Value), (∀ b o, s.heap.get? b = some o → h'.get? b = some o) → ItemsOf P acc n →
      Q (.ref h'.objs.size) { s with heap := h'.push { cls := .type "tuple", data := .seq acc }, toks := tk }) :
    wpAny (model prog w) A (call (.type "tuple") [.ref d]) Q E s := by
  refine callType_codes (Q₁ := fun obj s₁ => s₁.TypeIs obj "tuple" ∧ Q obj s₁) F.called_tuple (F.typeCall_tuple_1 _) F.entry_object_init
    (code_tuple_new_src (A := A.in1) K hh hok hn fun h' tk acc hk hacc => ⟨⟨_, Heap.get?_push_size _ rfl, rfl⟩, hQ h' tk acc hk hacc⟩) fun obj s₁ h₁ => ?_
  exact ⟨h₁.1, F.args_object_init_2 obj _, object_init_meets F.called_tuple.init.lookup F.called_tuple.made (by decide) prog w A.in1 _ s₁ ⟨h₁.1, rfl, h₁.2⟩⟩
end
open L2
theorem call_tuple_dK {X : Cx} (hc : X.calm = true) : CallR X (.type "tuple") (fun xs H Q => ∃ p kvs, xs = [.ref p] ∧ H p = some (.dK kvs) ∧ ∀ q, H q = none → Q (.ref q) (upd H q (.tup (kvs.map fun kv => kV kv.1)))) := by
  intro pins s σ H xs us Q I r h
  obtain ⟨p, kvs, e, hk, q⟩ := h
  subst e
  obtain ⟨u, eu, rx⟩ := vals1 r
  subst eu
  obtain rfl : u = Value.ref p := rx
  obtain ⟨z, lo, vs, rk, hd⟩ := (show ObjOk X.prog X.w H s.heap p (.dK kvs) from I.hok p _ hk)
  obtain ⟨ep, hat⟩ := hd.dictAt
  have hl : kvs.length = vs.length := Paired.length rk
  refine call_tuple_src (PySem.W.kdl_dict (knd := mixKind X.prog X.w) (kvs := vs) (ep := ep) lo) (I.ok.hd hc) hat (by rw [← hl]; exact z) fun h' tk acc hkeep hacc => ?_
  have I2 : Inv X pins σ H { s with heap := h', toks := tk } := I.kept hkeep
  refine ⟨.ref h'.objs.size, upd H h'.objs.size (.tup (kvs.map fun kv => kV kv.1)), I2.laid (t' := tk) (fun c o e => Heap.get?_push_of_some _ e) (Nat.le_refl _) (show ObjOk X.prog X.w _ _ _ (.tup (kvs.map fun kv => kV kv.1)) from ⟨?_, acc.toList, ?_, ?_⟩), rfl, q _ (I2.hok.fresh (Nat.le_refl _))⟩
  · rw [List.length_map]; exact z
  · have el : acc.toList.length = acc.size := by simp
    refine vals_of_at (by rw [List.length_map, el, hacc.1, hl]) fun j x w h1 h2 => ?_
    obtain ⟨k, y, hky, hi⟩ := hacc.2 j w (by rw [← Array.getElem?_toList]; exact h2)
    have e1 : (kvs.map (·.1))[j]? = some k := by
      rw [KV.keys rk, List.getElem?_map, hky] <;> rfl
    have e2 : (kvs.map fun kv => kV kv.1)[j]? = some (kV k) := by
      have e3 : (kvs.map fun kv => kV kv.1) = (kvs.map (·.1)).map kV := by rw [List.map_map] <;> rfl
      rw [e3, List.getElem?_map, e1] <;> rfl
    rw [e2] at h1
    cases h1
    exact keyIs_rel hi
  · rw [Array.toArray_toList]; exact IsTup.new _ _
end Dl

namespace Dl
open PySem L2
theorem NmOk.of {H H' : Hp} {v : V} (s : Same H H') (h : NmOk H v) : NmOk H' v := by
  cases v with
  | ref p => obtain ⟨xs, e⟩ := h; exact ⟨xs, s _ _ e⟩
  | str z => exact h
  | int i => exact h
  | non => exact h
  | bl _ => exact h
  | byt _ => exact h
  | flt _ => exact h
  | ty _ => exact h
theorem Same.tup {K : PySem.W.Frag} {H H' : Hp} {a : Addr} {xs : List V} (e : Same H H') (h : SqT K H a xs) : SqT K H' a xs := by
  rcases h with (h | ⟨o, h⟩) | h
  · exact .inl (.inl (e _ _ h))
  · exact .inl (.inr ⟨o, e _ _ h⟩)
  · exact .inr h
def knows (v : V) (es : List Str) : Bool :=
  match v with
  | .str z => decide (z ∈ es)
  | _ => false
/-- check_known(name, names), names a tuple of texts -/
def spKnown (K : PySem.W.Frag) (C : Cs) : Sp := fun vs H Q E => ∃ (v : V) (p : Addr) (es : List Str), vs = [v, .ref p] ∧ NmOk H v ∧ SqT K H p (es.map V.str) ∧ (knows v es = true → Q .non H) ∧ (knows v es = false → Out1 C.unk "name" v H E)
def strOf : V → Str
  | .str z => z
  | _ => ""
def chkNames : List V → List Str → Except Er (List Str)
  | [], acc => .ok acc
  | v :: r, acc => match chkNew v acc with
    | some e => .error e
    | none => chkNames r (acc ++ [strOf v])
theorem chkNew_none {v : V} {es : List Str} (h : chkNew v es = none) : ∃ z, v = .str z ∧ validN z = true ∧ z ∉ es := by
  cases v with
  | str z =>
    refine ⟨z, rfl, ?_⟩
    unfold chkNew at h
    by_cases h1 : validN z = true
    · by_cases h2 : z ∈ es
      · simp [h1, h2] at h
      · exact ⟨h1, h2⟩
    · simp [h1] at h
  | _ => simp [chkNew] at h
/-- distinct_names(names), names a list or a tuple -/
def spDistinct (K : PySem.W.Frag) (C : Cs) : Sp := fun vs H Q E => ∃ (p : Addr) (xs : List V), vs = [.ref p] ∧ (SqL K H p xs ∨ SqT K H p xs) ∧ (∀ v ∈ xs, NmOk H v) ∧ xs.length ≤ 1000 ∧
  (∀ es, chkNames xs [] = .ok es → ∀ H' t, Same H H' → H t = none → H' t = some (.tup (es.map V.str)) → Q (.ref t) H') ∧ ∀ e, chkNames xs [] = .error e → Out C H E e
section
variable {P : Program} {w : World} {K : PySem.W.Frag} {mg : Str → Option Value} {base : Heap} {C : Cs}
theorem scCheckKnown : FnScope ["name", "names"] ["name", "names"] (defScope sCheckKnown) := ⟨rfl, rfl, rfl, by decide +kernel, rfl, by decide +kernel, by decide +kernel⟩
theorem ok_known {f : Addr} {fd : FuncData} (F : Fun K "check_known" "check_known" sCheckKnown f fd) (T : TxtN mg) (xU : Ex P w K mg base "UnknownName" "name" C.unk) :
    FnOk P w K mg base (L2.CX P w) 4 f fd ["name", "names"] (spKnown K C) := by
  obtain ⟨fI, dI, TI, bI, GI⟩ := xU
  refine F.okX scCheckKnown (fun vs H Q E h => ?_) (fun cdv A outer s H vs Q E hr h => ?_)
  · obtain ⟨b, n, es, rfl, _⟩ := h
    rfl
  · obtain ⟨v, p, es, rfl, hv, hp, k, kx⟩ := h
    have hr2 : Room 2 _ := hr.mono (by decide)
    refine ⟨_, pss_one (ps_if (PW.pt (pw_or (pt_not (pt_val (pe_callB call_isi (by rfl) T.isi (by decide +kernel) (pa_cons (pv 0) (pa_cons (pe_bltn (v := .ty "str") (by rfl) T.str (by decide +kernel) rfl) pa_nil)))))
        (pw_or1 (pt_cmpR op_notIn_seq (pv 0) (pv 1) (by rfl)))))
        (pss_one (ps_raise rfl (takes_of rfl rfl rfl rfl) (pmk_oex TI.oex TI.iC TI.tI GI hr2 bI .nil pass0 (by rfl) TI.gC (pa_cons (pv 0) pa_nil)))) pss_nil), ?_⟩
    obtain ⟨ty, b, h1, h2, h3⟩ := nm_type K hv
    refine ⟨_, rfl, v, _, _, _, b, rfl, ClsV.ty "str", h1, h2, b, rfl, ?_⟩
    rcases h3 with ⟨rfl, h3, hns⟩ | ⟨rfl, z, rfl, hz⟩
    · refine iteT (?_)
      have hk : knows v es = false := by
        cases v with
        | str z => exact absurd rfl (hns z)
        | _ => rfl
      exact ⟨_, rfl, raise_end (kx hk)⟩
    · refine iteF (?_)
      refine ⟨_, rfl, _, rfl, p, _, rfl, .inr hp, rfl, flat_strs es, _, rfl, ?_⟩
      show if (!inV (.str z) (es.map V.str)) = true then _ else _
      rw [inV_str]
      by_cases hm : z ∈ es
      · rw [decide_eq_true hm]
        exact iteF (k (by simp [knows, hm]))
      · rw [decide_eq_false hm]
        exact iteT (⟨_, rfl, raise_end (kx (by simp [knows, hm]))⟩)
theorem scDistinct : FnScope ["names", "found", "name"] ["names"] (defScope sDistinct) := ⟨rfl, rfl, rfl, by decide +kernel, rfl, by decide +kernel, by decide +kernel⟩
theorem ok_distinct {f : Addr} {fd : FuncData} (F : Fun K "distinct_names" "distinct_names" sDistinct f fd) (mT : mg "tuple" = none) (gN : Dfn P w K mg base (L2.CX P w) 4 "check_new" ["name", "earlier"] (spNewL K C)) :
    FnOk P w K mg base (L2.CX P w) 6 f fd ["names"] (spDistinct K C) := by
  obtain ⟨fN, dN, mN, kN, bN, GN⟩ := gN
  refine F.okX scDistinct (fun vs H Q E h => ?_) (fun cdv A outer s H vs Q E hr h => ?_)
  · obtain ⟨b, n, rfl, _⟩ := h
    rfl
  · obtain ⟨p, xs, rfl, hp, hx, hlen, k, kx⟩ := h
    have hr4 : Room 4 _ := hr.mono (by decide)
    rcases hp with hp | hp
    · refine ⟨_, pss_cons (ps_set (i := 1) scDistinct.nd rfl (Or.inl rfl) (pe_lst pa_nil)) (pss_cons (ps_for (passes_of rfl) rfl (pi_list (pv 0)) (pg_name (i := 2) scDistinct.nd rfl (Or.inl rfl))
        (pss_cons (ps_expr (pe_call GN hr4 (by rfl) mN kN bN .nil (passes_call (takes_of rfl rfl rfl rfl) (fun _ _ _ _ h => h)) (pa_cons (pv 2) (pa_cons (pv 1) pa_nil))))
        (pss_one (ps_expr (pe_bm PySem.F.plainAttrs_list PySem.F.slot_list_append PySem.F.type_list_append mt_append (pv 1) (pa_cons (pv 2) pa_nil))))))
        (pss_one (ps_ret (pe_callTy call_tuple_of (by rfl) mT (by decide +kernel) (pa_cons (pv 1) pa_nil))))), ?_⟩
      refine ⟨Nat.zero_le _, fun l hl => ⟨_, rfl, p, rfl, ⟨_, Same.seq (Same.upd_new hl) hp⟩, for_it (walk_list (K := K) (a := p) (xs := xs)) (fun i σ H' => ∃ (acc : List Str) (x : Option V), σ = [some (.ref p), some (.ref l), x] ∧ H' l = some (.lst (acc.map V.str)) ∧ Same H H' ∧ chkNames (xs.drop i) acc = chkNames xs [] ∧ acc.length ≤ i)
        ⟨[], none, rfl, upd_same, Same.upd_new hl, rfl, Nat.le_refl _⟩ (fun i σ H' _ ⟨_, _, _, _, s1, _⟩ => Same.seq s1 hp) ?_ ?_⟩⟩
      · rintro i v σ H1 H2 hi ⟨acc, x, rfl, hL, s1, hc, ha⟩ ⟨rfl, hv⟩
        have hd : xs.drop i = v :: xs.drop (i + 1) := by
          rw [List.drop_eq_getElem_cons hi]
          have q := (List.getElem?_eq_some_iff.mp hv).2
          rw [q]
        rw [hd] at hc
        refine ⟨_, rfl, _, rfl, v, l, acc, rfl, (hx v (List.mem_of_getElem? hv)).of s1, hL, fun H3 s3 hn => ?_, fun e he => ?_⟩
        · obtain ⟨z, rfl, _, _⟩ := chkNew_none hn
          refine ⟨_, rfl, .inl ⟨rfl, _, SqL.of (s3 _ _ hL)⟩, _, rfl, l, _, _, rfl, rfl, s3 _ _ hL, ?_, ?_⟩
          · rw [List.length_map]
            exact small1000 (by omega)
          · refine ⟨acc ++ [z], _, rfl, ?_, fun b o e => ?_, ?_, ?_⟩
            · rw [upd_same, List.map_append]; rfl
            · rw [upd_ne (ne_of_none e hl)]
              exact s3 _ _ (s1 _ _ e)
            · rw [← hc, chkNames, hn]
              rfl
            · rw [List.length_append]
              simp
              omega
        · have hce : chkNames xs [] = .error e := by rw [← hc, chkNames, he]
          exact Out.of s1 (kx e hce)
      · rintro σ H1 ⟨acc, x, rfl, hL, s1, hc, ha⟩
        rw [List.drop_length] at hc
        refine ⟨_, rfl, l, _, rfl, .inl ⟨SqL.of hL, fun t ht => ?_⟩⟩
        exact k acc hc.symm _ t (s1.trans (Same.upd_new ht)) (s1.free ht) upd_same
    · refine ⟨_, pss_cons (ps_set (i := 1) scDistinct.nd rfl (Or.inl rfl) (pe_lst pa_nil)) (pss_cons (ps_for (passes_of rfl) rfl (pi_tup (pv 0)) (pg_name (i := 2) scDistinct.nd rfl (Or.inl rfl))
        (pss_cons (ps_expr (pe_call GN hr4 (by rfl) mN kN bN .nil (passes_call (takes_of rfl rfl rfl rfl) (fun _ _ _ _ h => h)) (pa_cons (pv 2) (pa_cons (pv 1) pa_nil))))
        (pss_one (ps_expr (pe_bm PySem.F.plainAttrs_list PySem.F.slot_list_append PySem.F.type_list_append mt_append (pv 1) (pa_cons (pv 2) pa_nil))))))
        (pss_one (ps_ret (pe_callTy call_tuple_of (by rfl) mT (by decide +kernel) (pa_cons (pv 1) pa_nil))))), ?_⟩
      refine ⟨Nat.zero_le _, fun l hl => ⟨_, rfl, p, rfl, ⟨_, Same.tup (Same.upd_new hl) hp⟩, for_it (walk_tup (K := K) (a := p) (xs := xs)) (fun i σ H' => ∃ (acc : List Str) (x : Option V), σ = [some (.ref p), some (.ref l), x] ∧ H' l = some (.lst (acc.map V.str)) ∧ Same H H' ∧ chkNames (xs.drop i) acc = chkNames xs [] ∧ acc.length ≤ i)
        ⟨[], none, rfl, upd_same, Same.upd_new hl, rfl, Nat.le_refl _⟩ (fun i σ H' _ ⟨_, _, _, _, s1, _⟩ => Same.tup s1 hp) ?_ ?_⟩⟩
      · rintro i v σ H1 H2 hi ⟨acc, x, rfl, hL, s1, hc, ha⟩ ⟨rfl, hv⟩
        have hd : xs.drop i = v :: xs.drop (i + 1) := by
          rw [List.drop_eq_getElem_cons hi]
          have q := (List.getElem?_eq_some_iff.mp hv).2
          rw [q]
        rw [hd] at hc
        refine ⟨_, rfl, _, rfl, v, l, acc, rfl, (hx v (List.mem_of_getElem? hv)).of s1, hL, fun H3 s3 hn => ?_, fun e he => ?_⟩
        · obtain ⟨z, rfl, _, _⟩ := chkNew_none hn
          refine ⟨_, rfl, .inl ⟨rfl, _, SqL.of (s3 _ _ hL)⟩, _, rfl, l, _, _, rfl, rfl, s3 _ _ hL, ?_, ?_⟩
          · rw [List.length_map]
            exact small1000 (by omega)
          · refine ⟨acc ++ [z], _, rfl, ?_, fun b o e => ?_, ?_, ?_⟩
            · rw [upd_same, List.map_append]; rfl
            · rw [upd_ne (ne_of_none e hl)]
              exact s3 _ _ (s1 _ _ e)
            · rw [← hc, chkNames, hn]
              rfl
            · rw [List.length_append]
              simp
              omega
        · have hce : chkNames xs [] = .error e := by rw [← hc, chkNames, he]
          exact Out.of s1 (kx e hce)
      · rintro σ H1 ⟨acc, x, rfl, hL, s1, hc, ha⟩
        rw [List.drop_length] at hc
        refine ⟨_, rfl, l, _, rfl, .inl ⟨SqL.of hL, fun t ht => ?_⟩⟩
        exact k acc hc.symm _ t (s1.trans (Same.upd_new ht)) (s1.free ht) upd_same
end
end Dl

namespace Dl
open PySem L2
/-- the shown lamps: known ones, none of them twice -/
def chkShown : List V → List Str → List Str → Option Er
  | [], _, _ => none
  | v :: r, es, prev => if knows v es then (if strOf v ∈ prev then some (.dup v) else chkShown r es (prev ++ [strOf v])) else some (.unk v)
theorem knows_str {v : V} {es : List Str} (h : knows v es = true) : ∃ z, v = .str z ∧ z ∈ es := by
  cases v with
  | str z => exact ⟨z, rfl, of_decide_eq_true h⟩
  | _ => cases h
def spShown (K : PySem.W.Frag) (C : Cs) : Sp := fun vs H Q E => ∃ (p q : Addr) (xs : List V) (es : List Str), vs = [.ref p, .ref q] ∧ SqL K H p xs ∧ (∀ v ∈ xs, NmOk H v) ∧ xs.length ≤ 1000 ∧ SqT K H q (es.map V.str) ∧
  (∀ H', chkShown xs es [] = none → Same H H' → Q .non H') ∧ ∀ e, chkShown xs es [] = some e → Out C H E e
theorem cut_take (xs : List V) (i : Nat) : cutV xs none (some (i : Int)) = xs.take i := by
  unfold cutV
  rw [HT.sIx_nat, HT.sIx_none]
  simp only [List.drop_zero, Nat.sub_zero]
  by_cases h : i ≤ xs.length
  · rw [Nat.min_eq_left h]
  · rw [Nat.min_eq_right (by omega), List.take_of_length_le (by omega), List.take_of_length_le (by omega)]
section
variable {P : Program} {w : World} {K : PySem.W.Frag} {mg : Str → Option Value} {base : Heap} {C : Cs}
theorem scCheckShown : FnScope ["shown", "lamps", "at", "lamp"] ["shown", "lamps"] (defScope sCheckShown) := ⟨rfl, rfl, rfl, by decide +kernel, rfl, by decide +kernel, by decide +kernel⟩
theorem ok_shown {f : Addr} {fd : FuncData} (F : Fun K "_check_shown" "_check_shown" sCheckShown f fd) (mE : mg "enumerate" = none) (gN : Dfn P w K mg base (L2.CX P w) 4 "check_known" ["name", "names"] (spKnown K C)) (xD : Ex P w K mg base "DuplicateName" "name" C.dup) :
    FnOk P w K mg base (L2.CX P w) 6 f fd ["shown", "lamps"] (spShown K C) := by
  obtain ⟨fN, dN, mN, kN, bN, GN⟩ := gN
  obtain ⟨fD, dD, TD, bD, GD⟩ := xD
  refine F.okX scCheckShown (fun vs H Q E h => ?_) (fun cdv A outer s H vs Q E hr h => ?_)
  · obtain ⟨b, n, xs, es, rfl, _⟩ := h
    rfl
  · obtain ⟨p, q, xs, es, rfl, hp, hx, hlen, hq, k, kx⟩ := h
    have hr4 : Room 4 _ := hr.mono (by decide)
    have hr2 : Room 2 _ := hr.mono (by decide)
    refine ⟨_, pss_one (ps_for (passes_of rfl) rfl (pi_enum (by rfl) mE (pa_cons (pv 0) pa_nil)) (pg_tup rfl (pgs_cons (pg_name (i := 2) scCheckShown.nd rfl (Or.inl rfl)) (pgs_cons (pg_name (i := 3) scCheckShown.nd rfl (Or.inl rfl)) pgs_nil)))
        (pss_cons (ps_expr (pe_call GN hr4 (by rfl) mN kN bN .nil (passes_call (takes_of rfl rfl rfl rfl) (fun _ _ _ _ h => h)) (pa_cons (pv 3) (pa_cons (pv 1) pa_nil))))
        (pss_one (ps_if (pt_cmpR op_in_seq (pv 3) (pe_slice sl_list (pv 0) po_none (po_some (pv 2))) (by rfl))
          (pss_one (ps_raise rfl (takes_of rfl rfl rfl rfl) (pmk_oex TD.oex TD.iC TD.tI GD hr2 bD .nil pass0 (by rfl) TD.gC (pa_cons (pv 3) pa_nil)))) pss_nil)))), ?_⟩
    refine ⟨_, rfl, p, xs, rfl, hp, for_it (walk_enum (K := K) (a := p) (xs := xs)) (fun i σ H' => ∃ (x y : Option V) (prev : List Str), σ = [some (.ref p), some (.ref q), x, y] ∧ Same H H' ∧ xs.take i = prev.map V.str ∧ chkShown (xs.drop i) es prev = chkShown xs es [])
      ⟨none, none, [], rfl, Same.refl H, rfl, rfl⟩ (fun i σ H' _ ⟨_, _, _, _, s1, _⟩ => Same.seq s1 hp) ?_ ?_⟩
    · rintro i v σ H1 H2 hi ⟨x, y, prev, rfl, s1, ht, hc⟩ ⟨T, a, v, rfl, hT, rfl, ea, hv⟩
      cases ea
      have hd : xs.drop i = v :: xs.drop (i + 1) := by
        rw [List.drop_eq_getElem_cons hi]
        have q := (List.getElem?_eq_some_iff.mp hv).2
        rw [q]
      rw [hd] at hc
      have s2 : Same H (upd H1 T (.tup [.int (i : Nat), v])) := s1.trans (Same.upd_new hT)
      refine ⟨T, _, rfl, SqT.of upd_same, rfl, _, _, rfl, _, _, rfl, rfl, ?_⟩
      refine ⟨_, rfl, _, rfl, v, q, es, rfl, (hx v (List.mem_of_getElem? hv)).of s2, Same.tup s2 hq, fun hk => ?_, fun hk => ?_⟩
      · obtain ⟨z, rfl, hz⟩ := knows_str hk
        refine ⟨_, rfl, _, rfl, _, rfl, (i : Int), rfl, p, xs, rfl, Same.seq s2 hp, fun l hl => ?_⟩
        have hl' : (upd H1 T (.tup [.int (i : Nat), V.str z])) l = none := hl
        refine ⟨l, _, rfl, .inl (SqL.of upd_same), rfl, ?_, _, rfl, ?_⟩
        · rw [cut_take, ht]
          exact flat_strs prev
        · show if (inV (.str z) (cutV xs none (some (i : Int)))) = true then _ else _
          rw [cut_take, ht, inV_str]
          by_cases hm : z ∈ prev
          · rw [decide_eq_true hm]
            refine iteT (⟨_, rfl, raise_end ?_⟩)
            have hce : chkShown xs es [] = some (.dup (.str z)) := by
              rw [← hc, chkShown, if_pos hk, if_pos (show strOf (.str z) ∈ prev from hm)]
            exact Out.of (e := .dup (.str z)) (s2.trans (Same.upd_new hl')) (kx _ hce)
          · rw [decide_eq_false hm]
            refine iteF ?_
            refine ⟨_, _, prev ++ [z], rfl, s2.trans (Same.upd_new hl'), ?_, ?_⟩
            · have hv2 : xs[i]? = some (V.str z) := hv
              rw [List.take_succ, ht, hv2, List.map_append]
              rfl
            · rw [← hc, chkShown, if_pos hk, if_neg (show ¬ strOf (.str z) ∈ prev from hm)]
              rfl
      · have hce : chkShown xs es [] = some (.unk v) := by
          rw [← hc, chkShown, if_neg (by rw [hk]; decide)]
        exact Out1.of s2 (kx _ hce)
    · rintro σ H1 ⟨x, y, prev, rfl, s1, ht, hc⟩
      rw [List.drop_length] at hc
      exact k H1 hc.symm s1
end
end Dl

namespace Dl
open PySem PySem.Spec PyProof.Rows L2
/-! enumerate(t) of a tuple: my own rule -/
theorem enum_new_tup (l : Addr) (items : Array Value) (n : Nat) (dct : Option Addr) (sl : Array (Option Value)) :
    Meets (Builtin.«enumerate.__new__» ⟨[.type "enumerate", .ref l], []⟩) (fun _ R s => s.heap.get? l = some { cls := .type "tuple", dict := dct, data := .seq items n, slots := sl } ∧
      R (.ok (.ret (.ref (s.heap.push { cls := .type "tuple_iterator", data := .fields #[.ref l, .int 0 0] }).objs.size)))
        { s with heap := (s.heap.push { cls := .type "tuple_iterator", data := .fields #[.ref l, .int 0 0] }).push { cls := .type "enumerate", data := .fields #[.none, .bool false, .ref s.heap.objs.size, rawInt 0, .none, .none] } }) :=
  .of_wp fun prog w A R s h => by
    obtain ⟨hp, g, d, tk, os⟩ := s
    obtain ⟨hl, h⟩ := h
    have hsub := sub_enumerate
    have hT : Heap.IsTuple (Shared.heap ⟨hp, g, d, tk, os⟩) l items := ⟨_, hl, rfl, n, rfl⟩
    wp_walk using AutoSeq1.wpAny_loadPart' hl
    refine wpAny_stack_any fun st => wpAny_pure ?_
    split
    · rename_i c _ _ _ _ _
      cases (c == Value.type "enumerate") <;>
        (wp_walk using AutoSeq1.wpAny_loadPart' hl, wpAny_pyIter_tuple hT
         exact ⟨_, rfl, h⟩)
    · wp_walk using AutoSeq1.wpAny_loadPart' hl, wpAny_pyIter_tuple hT
      exact ⟨_, rfl, h⟩
end Dl
namespace Dl
open PySem PySem.Spec PyProof.Rows L2
section
variable {prog : Program} {w : World} {A : Around} {E : Value → Shared → Prop} {s : Shared}
theorem call_enum_tup {l : Addr} {items : Array Value} {Q : Value → Shared → Prop} (hL : s.heap.IsTuple l items)
    (h : ∀ h', IsEnum h' (s.heap.objs.size + 1) s.heap.objs.size 0 .none → h'.IsTupleIter s.heap.objs.size l 0 → h'.objs.size = s.heap.objs.size + 2 →
      (∀ b o, s.heap.get? b = some o → h'.get? b = some o) → Q (.ref (s.heap.objs.size + 1)) { s with heap := h' }) :
    wpAny (model prog w) A (call (.type "enumerate") [.ref l]) Q E s := by
  obtain ⟨⟨c, dct, dt, sl⟩, hl, hc, n, hd⟩ := hL
  have hc' : c = .type "tuple" := hc
  have hd' : dt = .seq items n := hd
  subst hc' hd'
  refine callType_new F.called_enumerate (by decide) (F.typeCall_enumerate_1 _) (F.newCall_enumerate_1 _) (fun obj => F.args_object_init_2 obj _) F.entry_enumerate_new (enum_new_tup l items n dct sl) ⟨hl, ?_⟩
  generalize hp1 : s.heap.push { cls := .type "tuple_iterator", data := .fields #[.ref l, .int 0 0] } = h1
  have hz : h1.objs.size = s.heap.objs.size + 1 := by rw [← hp1]; exact Heap.size_push ..
  show _ ∧ _
  rw [hz]
  generalize hp2 : h1.push { cls := .type "enumerate", data := .fields #[.none, .bool false, .ref s.heap.objs.size, rawInt 0, .none, .none] } = h2
  have he : IsEnum h2 (s.heap.objs.size + 1) s.heap.objs.size 0 .none := by
    have q := Heap.get?_push_size h1 (o := { cls := .type "enumerate", data := .fields #[.none, .bool false, .ref s.heap.objs.size, rawInt 0, .none, .none] }) rfl
    rw [hz, hp2] at q
    exact q
  have up1 : ∀ b o, s.heap.get? b = some o → h1.get? b = some o := fun b o x => by rw [← hp1]; exact Heap.get?_push_of_some _ x
  have up2 : ∀ b o, h1.get? b = some o → h2.get? b = some o := fun b o x => by rw [← hp2]; exact Heap.get?_push_of_some _ x
  have it1 : h1.get? s.heap.objs.size = some { cls := .type "tuple_iterator", data := .fields #[.ref l, .int 0 0] } := by rw [← hp1]; exact Heap.get?_push_size _ rfl
  exact ⟨⟨_, he, rfl⟩, h _ he ⟨_, up2 _ _ it1, rfl, rfl⟩ (by rw [← hp2, Heap.size_push, hz]) fun b o x => up2 _ _ (up1 _ _ x)⟩
end
/-- the tuple at a, each item in a new pair with its number -/
def IteT (K : PySem.W.Frag) (a : Addr) : It :=
  ⟨fun i H => ∃ (xs : List V) (x : V), SqT K H a xs ∧ xs[i]? = some x, fun i H v H' => ∃ T x, v = .ref T ∧ H T = none ∧ H' = upd H T (.tup [.int (i : Nat), x]) ∧ ∀ xs, SqT K H a xs → xs[i]? = some x, fun i H => ∃ xs : List V, SqT K H a xs ∧ xs.length = i⟩
theorem turn_enumT {P : Program} {w : World} {K : PySem.W.Frag} {elts : List Expr} {kk : Nat} {tpos : Pos} (a e it : Addr) :
    Turn P w K (.Tuple elts kk tpos) (IteT K a) [e, it] e (fun i h => (∃ old, IsEnum h e it ((i : Nat) : Int) old) ∧ h.IsTupleIter it a i ∧ e ≠ it) where
  mem := by simp
  obj := fun i h st b hb => by
    obtain ⟨⟨old, he⟩, ⟨o, ho, hc, hd⟩, _⟩ := st
    have two : b = e ∨ b = it := by simpa using hb
    rcases two with rfl | rfl
    · exact ⟨_, he, fun v q => nomatch q⟩
    · exact ⟨o, ho, fun v q => by rw [hd] at q; cases q⟩
  keep := fun i h h' st k => by
    obtain ⟨⟨old, he⟩, hi, hne⟩ := st
    exact ⟨⟨old, k e (by simp) _ he⟩, hi.at fun o q => k it (by simp) o q, hne⟩
  item := by
    intro X hP hw hK hc i pins s σ H E I hf st hg
    subst hP hw hK
    obtain ⟨⟨old, he⟩, hit, hne⟩ := st
    obtain ⟨xs, x, hq, hx⟩ := hg
    obtain ⟨its, rv, p, hz⟩ := I.tuple hq
    have hp : s.heap.IsTuple a its.toArray := p
    obtain ⟨u, hu, ru⟩ := rv.get hx
    have hel : e < s.heap.objs.size := Heap.lt_size he
    have hil : it < s.heap.objs.size := by obtain ⟨_, q, _⟩ := hit; exact Heap.lt_size q
    have nai : a ≠ it := fun z => by
      obtain ⟨o1, q1, c1, _⟩ := hp
      obtain ⟨o2, q2, c2, _⟩ := hit
      rw [z, q2] at q1
      cases q1
      rw [c2] at c1
      exact absurd c1 (by decide)
    have nea : e ≠ a := fun z => by
      obtain ⟨o1, q1, c1, _⟩ := hp
      have q2 := he
      rw [z] at q2
      have q3 := q1.symm.trans q2
      cases q3
      have c2 : Value.type "enumerate" = Value.type "tuple" := c1
      exact absurd c2 (by decide)
    have hi : i < its.toArray.size := by
      have := (List.getElem?_eq_some_iff.mp hu).1
      simpa using this
    refine wpAny_pyNext_enum_itemC (Draws.tuple (prog := X.prog) (w := X.w) (A := X.A.in1) (show X.A.in1.handled = none from I.ok.hd hc) it a nai its.toArray) he ⟨hit, hp⟩ hi hne (by simp [hne, nea]) fun y h' tk hy ho st' hT hsz hk => ?_
    have ey : y = u := by
      have q : its.toArray[i]? = some y := hy
      rw [List.getElem?_toArray, hu] at q
      exact (Option.some.inj q).symm
    subst ey
    refine ⟨_, rfl, wpAny_letOwnedTupleGo_enum (s := { s with heap := h', toks := tk + 1 }) ho fun h'' he' sb => ?_⟩
    have hT2 : h''.get? s.heap.objs.size = some { cls := .type "tuple", data := .seq #[.int i tk, y] } := (sb.2 _ (Nat.ne_of_gt hel)).trans hT
    have new : ObjOk X.prog X.w (upd H s.heap.objs.size (.tup [.int (i : Nat), x])) h'' s.heap.objs.size (.tup [.int (i : Nat), x]) :=
      ⟨by show 2 ≤ sizeLine; decide, [.int i tk, y], .cons ⟨_, rfl⟩ (.cons ru .nil), ⟨_, hT2, rfl, _, rfl⟩⟩
    have I1 : Inv X pins σ (upd H s.heap.objs.size (.tup [.int (i : Nat), x])) { s with heap := h'', toks := tk + 1 } :=
      I.turnedNew (t' := tk + 1) (ch := [e, it]) (fun b ob hb q => (sb.2 b (fun z => hb (by simp [z]))).trans (hk b ob (fun z => hb (by simp [z])) (fun z => hb (by simp [z])) q)) hf (Nat.le_refl _) new
    refine ⟨.ref s.heap.objs.size, _, I1, rfl, ⟨_, x, rfl, I.hok.fresh (Nat.le_refl _), rfl, fun ys hys => by rw [I.tuple_inj hys hq]; exact hx⟩, ⟨⟨y, ?_⟩, st'.1.at fun o q => (sb.2 it (Ne.symm hne)).trans q, hne⟩, fun b hb => ?_⟩
    · have e1 : ((i + 1 : Nat) : Int) = (i : Int) + 1 := by omega
      rw [e1]
      exact he'
    · have lt : b < s.heap.objs.size := by
        have two : b = e ∨ b = it := by simpa using hb
        rcases two with rfl | rfl
        · exact hel
        · exact hil
      rw [upd_ne (Nat.ne_of_lt lt)]
      exact (hf b hb).1
  done := by
    intro X hP hw hK hc i pins s σ H E I hf st hg
    subst hP hw hK
    obtain ⟨⟨old, he⟩, hit, hne⟩ := st
    obtain ⟨xs, hq, hx⟩ := hg
    obtain ⟨its, rv, p, hz⟩ := I.tuple hq
    have hp : s.heap.IsTuple a its.toArray := p
    obtain ⟨f0, f1, f2, f3, f4, f5⟩ := hf it (by simp)
    have nai : a ≠ it := fun z => by
      obtain ⟨o1, q1, c1, _⟩ := hp
      obtain ⟨o2, q2, c2, _⟩ := hit
      rw [z, q2] at q1
      cases q1
      rw [c2] at c1
      exact absurd c1 (by decide)
    have hl : its.toArray.size = i := by
      have := rv.length
      simp
      omega
    exact wpAny_pyNext_enum_endD (Draws.tuple (prog := X.prog) (w := X.w) (A := X.A.in1) (show X.A.in1.handled = none from I.ok.hd hc) it a nai its.toArray) he ⟨by rw [hl]; exact hit, hp⟩ fun h' eb => ⟨rfl, I.turned (t' := s.toks) (fun b o hb q => eb b o hb q) f0 f1 f3 f4 f5⟩
  self := fun A i s Q E st h => let ⟨⟨_, he⟩, _⟩ := st; wpAny_pyIter_enum he h
def iEnumT (K : PySem.W.Frag) (ta : TA) : TI := fun σ H R => ta σ H fun vs H1 => ∃ a xs, vs = [.ref a] ∧ SqT K H1 a xs ∧ R (IteT K a) H1
theorem pi_enumT {X : Cx} {e : Expr} {ta : TA} {p pos tpos : Pos} {elts : List Expr} {kk : Nat} (hg : Gl X "enumerate") (hm : X.mg "enumerate" = none) (ha : PA X [e] ta) (hs : starEach [e] X.env = [(false, eval e X.env)] := by rfl) :
    PI X (.Tuple elts kk tpos) (.Call (.Name "enumerate" p) [e] [] pos) (iEnumT X.K ta) := by
  constructor
  intro pins s σ H R I h
  refine Call_ ?_
  refine ld_blt I hg hm boot_enumerate ?_
  apply PyProof.Rows.callWith_type1 _ hs rfl
  apply thn (ha.run pos pins s σ H _ I h)
  rintro us s1 ⟨vs, H1, I1, r1, a, xs, rfl, hq, q⟩
  obtain ⟨u, rfl, ru⟩ := vals1 r1
  cases ru
  obtain ⟨its, rv, p', hz⟩ := I1.tuple hq
  refine call_enum_tup (show s1.heap.IsTuple a its.toArray from p') fun h' he hit hsz hk => wpAny_pyIter_enum he ?_
  have I2 : Inv X pins σ H1 { s1 with heap := h' } := I1.kept (t' := s1.toks) hk
  refine ⟨s1.heap.objs.size + 1, [s1.heap.objs.size + 1, s1.heap.objs.size], _, _, H1, rfl, I2, turn_enumT a (s1.heap.objs.size + 1) s1.heap.objs.size, ⟨⟨.none, he⟩, hit, Nat.succ_ne_self _⟩, fun b hb => ?_, q⟩
  have hle : s1.heap.objs.size ≤ b := by
    have two : b = s1.heap.objs.size + 1 ∨ b = s1.heap.objs.size := by simpa using hb
    rcases two with z | z
    · rw [z]; exact Nat.le_add_right _ _
    · rw [z]; exact Nat.le_refl _
  exact I1.fpOk hle (I1.hok.fresh hle)
theorem walk_enumT {K : PySem.W.Frag} {a : Addr} {xs : List V} : Walk (IteT K a) xs.length (fun H => SqT K H a xs) (YPair (fun i => some (.int (i : Nat))) (fun i => xs[i]?)) := by
  constructor
  · intro i H hi q
    exact ⟨xs, xs[i], q, by simp [hi]⟩
  · intro H q
    exact ⟨xs, q, rfl⟩
  · rintro i H v H' _ q ⟨T, x, h1, h2, h3, h4⟩
    exact ⟨T, .int (i : Nat), x, h1, h2, h3, rfl, h4 xs q⟩
end Dl

namespace Dl
open PySem L2
def spShown2 (K : PySem.W.Frag) (C : Cs) : Sp := fun vs H Q E => ∃ (p q : Addr) (xs : List V) (es : List Str), vs = [.ref p, .ref q] ∧ (SqL K H p xs ∨ SqT K H p xs) ∧ (∀ v ∈ xs, NmOk H v) ∧ xs.length ≤ 1000 ∧ SqT K H q (es.map V.str) ∧
  (∀ H', chkShown xs es [] = none → Same H H' → Q .non H') ∧ ∀ e, chkShown xs es [] = some e → Out C H E e
section
variable {P : Program} {w : World} {K : PySem.W.Frag} {mg : Str → Option Value} {base : Heap} {C : Cs}
theorem ok_shown2 {f : Addr} {fd : FuncData} (F : Fun K "_check_shown" "_check_shown" sCheckShown f fd) (mE : mg "enumerate" = none) (gN : Dfn P w K mg base (L2.CX P w) 4 "check_known" ["name", "names"] (spKnown K C)) (xD : Ex P w K mg base "DuplicateName" "name" C.dup) :
    FnOk P w K mg base (L2.CX P w) 6 f fd ["shown", "lamps"] (spShown2 K C) := by
  obtain ⟨fN, dN, mN, kN, bN, GN⟩ := gN
  obtain ⟨fD, dD, TD, bD, GD⟩ := xD
  refine F.okX scCheckShown (fun vs H Q E h => ?_) (fun cdv A outer s H vs Q E hr h => ?_)
  · obtain ⟨b, n, xs, es, rfl, _⟩ := h
    rfl
  · obtain ⟨p, q, xs, es, rfl, hp, hx, hlen, hq, k, kx⟩ := h
    have hr4 : Room 4 _ := hr.mono (by decide)
    have hr2 : Room 2 _ := hr.mono (by decide)
    rcases hp with hp | hp
    · refine ⟨_, pss_one (ps_for (passes_of rfl) rfl (pi_enum (by rfl) mE (pa_cons (pv 0) pa_nil)) (pg_tup rfl (pgs_cons (pg_name (i := 2) scCheckShown.nd rfl (Or.inl rfl)) (pgs_cons (pg_name (i := 3) scCheckShown.nd rfl (Or.inl rfl)) pgs_nil)))
          (pss_cons (ps_expr (pe_call GN hr4 (by rfl) mN kN bN .nil (passes_call (takes_of rfl rfl rfl rfl) (fun _ _ _ _ h => h)) (pa_cons (pv 3) (pa_cons (pv 1) pa_nil))))
          (pss_one (ps_if (pt_cmpR op_in_seq (pv 3) (pe_slice sl_list (pv 0) po_none (po_some (pv 2))) (by rfl))
            (pss_one (ps_raise rfl (takes_of rfl rfl rfl rfl) (pmk_oex TD.oex TD.iC TD.tI GD hr2 bD .nil pass0 (by rfl) TD.gC (pa_cons (pv 3) pa_nil)))) pss_nil)))), ?_⟩
      refine ⟨_, rfl, p, xs, rfl, hp, for_it (walk_enum (K := K) (a := p) (xs := xs)) (fun i σ H' => ∃ (x y : Option V) (prev : List Str), σ = [some (.ref p), some (.ref q), x, y] ∧ Same H H' ∧ xs.take i = prev.map V.str ∧ chkShown (xs.drop i) es prev = chkShown xs es [])
        ⟨none, none, [], rfl, Same.refl H, rfl, rfl⟩ (fun i σ H' _ ⟨_, _, _, _, s1, _⟩ => Same.seq s1 hp) ?_ ?_⟩
      · rintro i v σ H1 H2 hi ⟨x, y, prev, rfl, s1, ht, hc⟩ ⟨T, a, v, rfl, hT, rfl, ea, hv⟩
        cases ea
        have hd : xs.drop i = v :: xs.drop (i + 1) := by
          rw [List.drop_eq_getElem_cons hi]
          have q := (List.getElem?_eq_some_iff.mp hv).2
          rw [q]
        rw [hd] at hc
        have s2 : Same H (upd H1 T (.tup [.int (i : Nat), v])) := s1.trans (Same.upd_new hT)
        refine ⟨T, _, rfl, SqT.of upd_same, rfl, _, _, rfl, _, _, rfl, rfl, ?_⟩
        refine ⟨_, rfl, _, rfl, v, q, es, rfl, (hx v (List.mem_of_getElem? hv)).of s2, Same.tup s2 hq, fun hk => ?_, fun hk => ?_⟩
        · obtain ⟨z, rfl, hz⟩ := knows_str hk
          refine ⟨_, rfl, _, rfl, _, rfl, (i : Int), rfl, p, xs, rfl, Same.seq s2 hp, fun l hl => ?_⟩
          have hl' : (upd H1 T (.tup [.int (i : Nat), V.str z])) l = none := hl
          refine ⟨l, _, rfl, .inl (SqL.of upd_same), rfl, ?_, _, rfl, ?_⟩
          · rw [cut_take, ht]
            exact flat_strs prev
          · show if (inV (.str z) (cutV xs none (some (i : Int)))) = true then _ else _
            rw [cut_take, ht, inV_str]
            by_cases hm : z ∈ prev
            · rw [decide_eq_true hm]
              refine iteT (⟨_, rfl, raise_end ?_⟩)
              have hce : chkShown xs es [] = some (.dup (.str z)) := by
                rw [← hc, chkShown, if_pos hk, if_pos (show strOf (.str z) ∈ prev from hm)]
              exact Out.of (e := .dup (.str z)) (s2.trans (Same.upd_new hl')) (kx _ hce)
            · rw [decide_eq_false hm]
              refine iteF ?_
              refine ⟨_, _, prev ++ [z], rfl, s2.trans (Same.upd_new hl'), ?_, ?_⟩
              · have hv2 : xs[i]? = some (V.str z) := hv
                rw [List.take_succ, ht, hv2, List.map_append]
                rfl
              · rw [← hc, chkShown, if_pos hk, if_neg (show ¬ strOf (.str z) ∈ prev from hm)]
                rfl
        · have hce : chkShown xs es [] = some (.unk v) := by
            rw [← hc, chkShown, if_neg (by rw [hk]; decide)]
          exact Out1.of s2 (kx _ hce)
      · rintro σ H1 ⟨x, y, prev, rfl, s1, ht, hc⟩
        rw [List.drop_length] at hc
        exact k H1 hc.symm s1
    · refine ⟨_, pss_one (ps_for (passes_of rfl) rfl (pi_enumT (by rfl) mE (pa_cons (pv 0) pa_nil)) (pg_tup rfl (pgs_cons (pg_name (i := 2) scCheckShown.nd rfl (Or.inl rfl)) (pgs_cons (pg_name (i := 3) scCheckShown.nd rfl (Or.inl rfl)) pgs_nil)))
          (pss_cons (ps_expr (pe_call GN hr4 (by rfl) mN kN bN .nil (passes_call (takes_of rfl rfl rfl rfl) (fun _ _ _ _ h => h)) (pa_cons (pv 3) (pa_cons (pv 1) pa_nil))))
          (pss_one (ps_if (pt_cmpR op_in_seq (pv 3) (pe_slice sl_tup (pv 0) po_none (po_some (pv 2))) (by rfl))
            (pss_one (ps_raise rfl (takes_of rfl rfl rfl rfl) (pmk_oex TD.oex TD.iC TD.tI GD hr2 bD .nil pass0 (by rfl) TD.gC (pa_cons (pv 3) pa_nil)))) pss_nil)))), ?_⟩
      refine ⟨_, rfl, p, xs, rfl, hp, for_it (walk_enumT (K := K) (a := p) (xs := xs)) (fun i σ H' => ∃ (x y : Option V) (prev : List Str), σ = [some (.ref p), some (.ref q), x, y] ∧ Same H H' ∧ xs.take i = prev.map V.str ∧ chkShown (xs.drop i) es prev = chkShown xs es [])
        ⟨none, none, [], rfl, Same.refl H, rfl, rfl⟩ (fun i σ H' _ ⟨_, _, _, _, s1, _⟩ => Same.tup s1 hp) ?_ ?_⟩
      · rintro i v σ H1 H2 hi ⟨x, y, prev, rfl, s1, ht, hc⟩ ⟨T, a, v, rfl, hT, rfl, ea, hv⟩
        cases ea
        have hd : xs.drop i = v :: xs.drop (i + 1) := by
          rw [List.drop_eq_getElem_cons hi]
          have q := (List.getElem?_eq_some_iff.mp hv).2
          rw [q]
        rw [hd] at hc
        have s2 : Same H (upd H1 T (.tup [.int (i : Nat), v])) := s1.trans (Same.upd_new hT)
        refine ⟨T, _, rfl, SqT.of upd_same, rfl, _, _, rfl, _, _, rfl, rfl, ?_⟩
        refine ⟨_, rfl, _, rfl, v, q, es, rfl, (hx v (List.mem_of_getElem? hv)).of s2, Same.tup s2 hq, fun hk => ?_, fun hk => ?_⟩
        · obtain ⟨z, rfl, hz⟩ := knows_str hk
          have whole : ¬ (HT.sIx xs.length 0 none = 0 ∧ HT.sIx xs.length xs.length (some ((i : Nat) : Int)) = xs.length) := by
            rw [HT.sIx_nat]
            omega
          refine ⟨_, rfl, _, rfl, _, rfl, (i : Int), rfl, p, xs, rfl, Same.tup s2 hp, whole, fun l hl => ?_⟩
          have hl' : (upd H1 T (.tup [.int (i : Nat), V.str z])) l = none := hl
          refine ⟨l, _, rfl, .inr (SqT.of upd_same), rfl, ?_, _, rfl, ?_⟩
          · rw [cut_take, ht]
            exact flat_strs prev
          · show if (inV (.str z) (cutV xs none (some (i : Int)))) = true then _ else _
            rw [cut_take, ht, inV_str]
            by_cases hm : z ∈ prev
            · rw [decide_eq_true hm]
              refine iteT (⟨_, rfl, raise_end ?_⟩)
              have hce : chkShown xs es [] = some (.dup (.str z)) := by
                rw [← hc, chkShown, if_pos hk, if_pos (show strOf (.str z) ∈ prev from hm)]
              exact Out.of (e := .dup (.str z)) (s2.trans (Same.upd_new hl')) (kx _ hce)
            · rw [decide_eq_false hm]
              refine iteF ?_
              refine ⟨_, _, prev ++ [z], rfl, s2.trans (Same.upd_new hl'), ?_, ?_⟩
              · have hv2 : xs[i]? = some (V.str z) := hv
                rw [List.take_succ, ht, hv2, List.map_append]
                rfl
              · rw [← hc, chkShown, if_pos hk, if_neg (show ¬ strOf (.str z) ∈ prev from hm)]
                rfl
        · have hce : chkShown xs es [] = some (.unk v) := by
            rw [← hc, chkShown, if_neg (by rw [hk]; decide)]
          exact Out1.of s2 (kx _ hce)
      · rintro σ H1 ⟨x, y, prev, rfl, s1, ht, hc⟩
        rw [List.drop_length] at hc
        exact k H1 hc.symm s1
end
end Dl

namespace Dl
open PySem L2
def chosen (ns cs : List Str) : List Str := ns.filter fun z => decide (z ∈ cs)
def spChosen (K : PySem.W.Frag) : Sp := fun vs H Q _ => ∃ (p q : Addr) (ns cs : List Str), vs = [.ref p, .ref q] ∧ SqT K H p (ns.map V.str) ∧ (SqL K H q (cs.map V.str) ∨ SqT K H q (cs.map V.str)) ∧ ns.length ≤ 1000 ∧
  ∀ H' t, Same H H' → H t = none → H' t = some (.tup ((chosen ns cs).map V.str)) → Q (.ref t) H'
theorem Same.either {K : PySem.W.Frag} {H H' : Hp} {a : Addr} {xs : List V} (e : Same H H') (h : SqL K H a xs ∨ SqT K H a xs) : SqL K H' a xs ∨ SqT K H' a xs := h.imp (Same.seq e) (Same.tup e)
section
variable {P : Program} {w : World} {K : PySem.W.Frag} {mg : Str → Option Value} {base : Heap} {C : Cs}
theorem scChosen : FnScope ["names", "chosen", "name"] ["names", "chosen"] (defScope sChosen) := ⟨rfl, rfl, rfl, by decide +kernel, rfl, by decide +kernel, by decide +kernel⟩
theorem ok_chosen {f : Addr} {fd : FuncData} (F : Fun K "_chosen_of" "_chosen_of" sChosen f fd) (mT : mg "tuple" = none) : FnOk P w K mg base CX0 1 f fd ["names", "chosen"] (spChosen K) := by
  refine F.ok scChosen (fun vs H Q E h => ?_) (fun cdv A outer s H vs Q E hr h => ?_)
  · obtain ⟨b, n, xs, es, rfl, _⟩ := h
    rfl
  · obtain ⟨p, q, ns, cs, rfl, hp, hq, hlen, k⟩ := h
    refine ⟨_, pss_one (ps_ret (pe_callTy call_tuple_of (by rfl) mT (by decide +kernel) (pa_cons
      (pe_lc (own := [("name", 2)]) (g := gName 2) (tt := tTest (tOp (rIn K false) (tVar 2) (tVar 1))) rfl scChosen.nd (pi_tup (pv 0)) (blkOk_by (N := ["names", "chosen", "name"]) (sc := defScope sChosen) (by decide +kernel))
          (fun _ _ _ _ _ => pg_name (i := 2) scChosen.nd rfl (Or.inl rfl)) (fun _ _ _ _ _ => pts_one (pt_cmpR op_in_seq (pv 2) (pv 1) (by rfl))) (fun _ _ _ _ _ => pv 2)) pa_nil))), ?_⟩
    refine ⟨_, rfl, p, rfl, ⟨_, hp⟩, fun D hD => lc_it (walk_tup (K := K) (a := p) (xs := ns.map V.str)) (fun i H' => H' = upd H D (.lst ((chosen (ns.take i) cs).map V.str))) rfl (fun i H' _ e => by rw [e]; exact Same.tup (Same.upd_new hD) hp) ?_ ?_⟩
    · rintro i x H1 H2 hi rfl ⟨rfl, hx⟩
      rw [List.length_map] at hi
      have hx2 : (ns.map V.str)[i]? = some x := hx
      rw [List.getElem?_map] at hx2
      cases e : ns[i]? with
      | none => rw [e] at hx2; cases hx2
      | some z =>
      rw [e] at hx2
      obtain rfl : V.str z = x := Option.some.inj hx2
      have s1 : Same H (upd H D (.lst ((chosen (ns.take i) cs).map V.str))) := Same.upd_new hD
      have st : chosen (ns.take (i + 1)) cs = chosen (ns.take i) cs ++ (if decide (z ∈ cs) = true then [z] else []) := by
        unfold chosen
        rw [List.take_succ, e, List.filter_append]
        by_cases hz : z ∈ cs <;> simp [hz]
      refine ⟨rfl, _, rfl, _, rfl, q, _, rfl, Same.either s1 hq, rfl, flat_strs cs, inV (.str z) (cs.map V.str), rfl, ?_⟩
      rw [inV_str]
      by_cases hz : z ∈ cs
      · rw [decide_eq_true hz]
        refine iteT ⟨_, rfl, _, upd_same, ?_, ?_⟩
        · have q1 : (chosen (ns.take i) cs).length ≤ i := Nat.le_trans (List.length_filter_le _ _) (by rw [List.length_take]; omega)
          rw [List.length_map]
          exact small1000 (by omega)
        · rw [upd_upd, st, decide_eq_true hz, if_pos rfl, List.map_append]
          rfl
      · rw [decide_eq_false hz]
        refine iteF ?_
        rw [st, decide_eq_false hz, if_neg (by decide), List.append_nil]
    · rintro H1 rfl
      refine ⟨D, _, rfl, .inl ⟨SqL.of upd_same, fun t ht => ?_⟩⟩
      have ht' : (upd H D (.lst ((chosen (ns.take (ns.map V.str).length) cs).map V.str))) t = none := ht
      refine k _ t ((Same.upd_new hD).trans (Same.upd_new ht')) ((Same.upd_new hD).free ht') ?_
      rw [upd_same, List.length_map, List.take_length]
end
end Dl

namespace Dl
open PySem L2
/-! ### the fields of a table, in the order in which they are set -/
theorem ne_sl : ¬ (("_shown" : Str) = "lamps") := by decide +kernel
theorem ne_ls : ¬ (("lamps" : Str) = "_shown") := by decide +kernel
theorem ne_ll : ¬ (("lamps" : Str) = "looks") := by decide +kernel
theorem ne_l2 : ¬ (("looks" : Str) = "lamps") := by decide +kernel
theorem ne_sk : ¬ (("_shown" : Str) = "looks") := by decide +kernel
theorem ne_ks : ¬ (("looks" : Str) = "_shown") := by decide +kernel
def pf1 (a : V) : List (Str × V) := putF "lamps" a []
def pf2 (a b : V) : List (Str × V) := putF "_shown" b (pf1 a)
def pf3 (a b c : V) : List (Str × V) := putF "looks" c (pf2 a b)
theorem putF_length (f : Str) (v : V) : ∀ fs : List (Str × V), (putF f v fs).length ≤ fs.length + 1
  | [] => by simp [putF]
  | (g, x) :: r => by
    unfold putF
    by_cases h : g = f
    · rw [if_pos h]; simp
    · rw [if_neg h]
      have := putF_length f v r
      simp only [List.length_cons]; omega
theorem pf1_len (a : V) : (pf1 a).length ≤ 1 := putF_length _ _ _
theorem pf2_len (a b : V) : (pf2 a b).length ≤ 2 := Nat.le_trans (putF_length _ _ _) (Nat.succ_le_succ (pf1_len a))
theorem pf1_lamps (a : V) : (pf1 a).lookup ("lamps" : Str) = some a := by unfold pf1; rw [lookup_putF, if_pos rfl]
theorem pf2_lamps (a b : V) : (pf2 a b).lookup ("lamps" : Str) = some a := by unfold pf2; rw [lookup_putF, if_neg ne_ls, pf1_lamps]
theorem pf2_shown (a b : V) : (pf2 a b).lookup ("_shown" : Str) = some b := by unfold pf2; rw [lookup_putF, if_pos rfl]
theorem pf3_lamps (a b c : V) : (pf3 a b c).lookup ("lamps" : Str) = some a := by unfold pf3; rw [lookup_putF, if_neg ne_ll, pf2_lamps]
theorem pf3_shown (a b c : V) : (pf3 a b c).lookup ("_shown" : Str) = some b := by unfold pf3; rw [lookup_putF, if_neg ne_sk, pf2_shown]
theorem pf3_looks (a b c : V) : (pf3 a b c).lookup ("looks" : Str) = some c := by unfold pf3; rw [lookup_putF, if_pos rfl]
theorem pf3_no (a b c : V) {m : Str} (h1 : ¬ m = "lamps") (h2 : ¬ m = "_shown") (h3 : ¬ m = "looks") : (pf3 a b c).lookup m = none := by
  unfold pf3 pf2 pf1
  rw [lookup_putF, if_neg h3, lookup_putF, if_neg h2, lookup_putF, if_neg h1]
  rfl
/-! ### what a table holds -/
inductive RowsAt (H : Hp) : List (Str × List Str) → List (Key × V) → Prop
  | nil : RowsAt H [] []
  | cons {k : Str} {sh : List Str} {a : Addr} {r : List (Str × List Str)} {kvs : List (Key × V)} : H a = some (.tup (sh.map V.str)) → RowsAt H r kvs → RowsAt H ((k, sh) :: r) ((Sum.inr k, .ref a) :: kvs)
theorem RowsAt.keys {H : Hp} {rs : List (Str × List Str)} {kvs : List (Key × V)} (h : RowsAt H rs kvs) : kvs.map (·.1) = (rs.map (·.1)).map Sum.inr := by
  induction h with
  | nil => rfl
  | cons _ _ ih => rw [List.map_cons, List.map_cons, List.map_cons, ih]
theorem RowsAt.length {H : Hp} {rs : List (Str × List Str)} {kvs : List (Key × V)} (h : RowsAt H rs kvs) : kvs.length = rs.length := by
  have q := congrArg List.length h.keys
  rw [List.length_map, List.length_map, List.length_map] at q
  exact q
theorem RowsAt.of {H H' : Hp} {rs : List (Str × List Str)} {kvs : List (Key × V)} (s : ∀ b xs, H b = some (.tup xs) → H' b = some (.tup xs)) (h : RowsAt H rs kvs) : RowsAt H' rs kvs := by
  induction h with
  | nil => exact .nil
  | cons e _ ih => exact .cons (s _ _ e) ih
theorem RowsAt.snoc {H : Hp} {rs : List (Str × List Str)} {kvs : List (Key × V)} {k : Str} {sh : List Str} {a : Addr} (h : RowsAt H rs kvs) (e : H a = some (.tup (sh.map V.str))) : RowsAt H (rs ++ [(k, sh)]) (kvs ++ [(Sum.inr k, .ref a)]) := by
  induction h with
  | nil => exact .cons e .nil
  | cons e' _ ih => exact .cons e' ih
structure TableAt (C : Addr) (H : Hp) (p : Addr) (ls : List Str) (rs : List (Str × List Str)) : Prop where
  ex : ∃ (dx lt sd kt : Addr) (kvs : List (Key × V)), H p = some (.ins C dx (pf3 (.ref lt) (.ref sd) (.ref kt))) ∧ H lt = some (.tup (ls.map V.str)) ∧ H sd = some (.dK kvs) ∧ H kt = some (.tup ((rs.map (·.1)).map V.str)) ∧ RowsAt H rs kvs
/-- one look as it is passed: the pair's place, the name, the lamps' place, the lamps -/
structure RowIn where
  t : Addr
  look : V
  s : Addr
  xs : List V
structure RowOk (K : PySem.W.Frag) (H : Hp) (r : RowIn) : Prop where
  pair : SqT K H r.t [r.look, .ref r.s]
  name : NmOk H r.look
  lst : SqL K H r.s r.xs
  all : ∀ v ∈ r.xs, NmOk H v
  len : r.xs.length ≤ 1000
theorem RowOk.of {K : PySem.W.Frag} {H H' : Hp} {r : RowIn} (s : Same H H') (h : RowOk K H r) : RowOk K H' r :=
  ⟨Same.tup s h.pair, h.name.of s, Same.seq s h.lst, fun v hv => (h.all v hv).of s, h.len⟩
/-- the rows as the checks in order give them -/
def initRows (ls : List Str) : List (V × List V) → List (Str × List Str) → Except Er (List (Str × List Str))
  | [], acc => .ok acc
  | (k, xs) :: r, acc => match chkNew k (acc.map (·.1)) with
    | some e => .error e
    | none => match chkShown xs ls [] with
      | some e => .error e
      | none => initRows ls r (acc ++ [(strOf k, chosen ls (xs.map strOf))])
def initT (lamps : List V) (rows : List (V × List V)) : Except Er (List Str × List (Str × List Str)) :=
  if 24 < lamps.length ∨ 24 < rows.length then .error .many else
  match chkNames lamps [] with
  | .error e => .error e
  | .ok ls => match initRows ls rows [] with
    | .error e => .error e
    | .ok rs => .ok (ls, rs)
def RowIn.dat (r : RowIn) : V × List V := (r.look, r.xs)
def spTabInit (K : PySem.W.Frag) (CT : Addr) (C : Cs) : Sp := fun vs H Q E => ∃ (H0 : Hp) (p dx a b : Addr) (lamps : List V) (rows : List RowIn), vs = [.ref p, .ref a, .ref b] ∧ Same H0 H ∧ H0 p = none ∧ H p = some (.ins CT dx []) ∧
  (SqL K H0 a lamps ∨ SqT K H0 a lamps) ∧ (∀ v ∈ lamps, NmOk H0 v) ∧ lamps.length ≤ 1000 ∧ SqL K H0 b (rows.map fun r => V.ref r.t) ∧ (∀ r ∈ rows, RowOk K H0 r) ∧ rows.length ≤ 1000 ∧
  (∀ ls rs, initT lamps (rows.map RowIn.dat) = .ok (ls, rs) → ∀ H', Same H0 H' → TableAt CT H' p ls rs → Q .non H') ∧ ∀ e, initT lamps (rows.map RowIn.dat) = .error e → Out C H0 E e
structure TxtT (K : PySem.W.Frag) (mg : Str → Option Value) (CT : Addr) : Prop where
  cl : Cls K CT
  nL : NoAttr K CT "lamps"
  nK : NoAttr K CT "looks"
  nS : NoAttr K CT "_shown"
  len : mg "len" = none
  tup : mg "tuple" = none
  lim : ∃ t, mg "LIMIT" = some (.int 24 t)
theorem shown_strs' : ∀ {xs : List V} {ls prev : List Str}, chkShown xs ls prev = none → xs = (xs.map strOf).map V.str
  | [], _, _, _ => rfl
  | v :: r, ls, prev, h => by
    unfold chkShown at h
    by_cases hk : knows v ls = true
    · obtain ⟨z, rfl, hz⟩ := knows_str hk
      rw [if_pos hk] at h
      by_cases hm : strOf (.str z) ∈ prev
      · rw [if_pos hm] at h; cases h
      · rw [if_neg hm] at h
        rw [List.map_cons, List.map_cons, ← shown_strs' h]
        rfl
    · rw [if_neg hk] at h; cases h
theorem shown_strs {xs : List V} {ls : List Str} (h : chkShown xs ls [] = none) : xs = (xs.map strOf).map V.str := shown_strs' h
theorem names_len : ∀ {xs : List V} {acc es : List Str}, chkNames xs acc = .ok es → es.length = acc.length + xs.length
  | [], acc, es, h => by cases h; simp
  | v :: r, acc, es, h => by
    unfold chkNames at h
    cases e : chkNew v acc with
    | some q => rw [e] at h; cases h
    | none =>
      rw [e] at h
      have q := names_len h
      rw [List.length_append] at q
      simp at q ⊢
      omega
section
variable {P : Program} {w : World} {K : PySem.W.Frag} {mg : Str → Option Value} {base : Heap} {C : Cs} {CT : Addr}
theorem scTabInit : FnScope ["self", "lamps", "looks", "look", "shown"] ["self", "lamps", "looks"] (defScope sTabInit) := ⟨rfl, rfl, rfl, by decide +kernel, rfl, by decide +kernel, by decide +kernel⟩
theorem ok_tabinit {f : Addr} {fd : FuncData} (F : Fun K "__init__" "Table.__init__" sTabInit f fd) (T : TxtT K mg CT) (xM : Ex P w K mg base "TooMany" "limit" C.many)
    (gD : Dfn P w K mg base (L2.CX P w) 6 "distinct_names" ["names"] (spDistinct K C)) (gN : Dfn P w K mg base (L2.CX P w) 4 "check_new" ["name", "earlier"] (spNewD K C))
    (gS : Dfn P w K mg base (L2.CX P w) 6 "_check_shown" ["shown", "lamps"] (spShown K C)) (gC : Dfn P w K mg base CX0 1 "_chosen_of" ["names", "chosen"] (spChosen K)) :
    FnOk P w K mg base (L2.CX P w) 8 f fd ["self", "lamps", "looks"] (spTabInit K CT C) := by
  obtain ⟨fI, dI, TI, bI, GI⟩ := xM
  obtain ⟨fD, dD, mD, kD, bD, GD⟩ := gD
  obtain ⟨fN, dN, mN, kN, bN, GN⟩ := gN
  obtain ⟨fS, dS, mS, kS, bS, GS⟩ := gS
  obtain ⟨fC, dC, mC, kC, bC, GC⟩ := gC
  obtain ⟨tl, hlim⟩ := T.lim
  refine F.okX scTabInit (fun vs H Q E h => ?_) (fun cdv A outer s H vs Q E hr h => ?_)
  · obtain ⟨H0, p, dx, a, b, lamps, rows, rfl, _⟩ := h
    rfl
  · obtain ⟨H0, p, dx, a, b, lamps, rows, rfl, s0, hp0, hp, ha, hla, hll, hb, hrw, hrl, k, kx⟩ := h
    have hr6 : Room 6 _ := hr.mono (by decide)
    have hr4 : Room 4 _ := hr.mono (by decide)
    have hr2 : Room 2 _ := hr.mono (by decide)
    have hr1 : Room 1 _ := hr.mono (by decide)
    refine ⟨_, pss_cons (ps_if (PW.pt (pw_or (pt_cmpR op_gt (pe_callB call_len_seq (by rfl) T.len PySem.boot_len (pa_cons (pv 1) pa_nil)) (pe_glob (v := .int 24) (by rfl) hlim ⟨_, rfl⟩) (nomark _))
          (pw_or1 (pt_cmpR op_gt (pe_callB call_len_seq (by rfl) T.len PySem.boot_len (pa_cons (pv 2) pa_nil)) (pe_glob (v := .int 24) (by rfl) hlim ⟨_, rfl⟩) (nomark _)))))
        (pss_one (ps_raise rfl (takes_of rfl rfl rfl rfl) (pmk_oex TI.oex TI.iC TI.tI GI hr2 bI .nil pass0 (by rfl) TI.gC (pa_cons (pe_glob (v := .int 24) (by rfl) hlim ⟨_, rfl⟩) pa_nil)))) pss_nil)
      (pss_cons (ps_fld (pv 0) (pe_call GD hr6 (by rfl) mD kD bD .nil (passes_call (takes_of rfl rfl rfl rfl) (fun _ _ _ _ h => h)) (pa_cons (pv 1) pa_nil)) rfl)
      (pss_cons (ps_fld (pv 0) pe_dnewK rfl)
      (pss_cons (ps_for (passes_of rfl) rfl (pi_list (pv 2)) (pg_tup rfl (pgs_cons (pg_name (i := 3) scTabInit.nd rfl (Or.inl rfl)) (pgs_cons (pg_name (i := 4) scTabInit.nd rfl (Or.inl rfl)) pgs_nil)))
        (pss_cons (ps_expr (pe_call GN hr4 (by rfl) mN kN bN .nil (passes_call (takes_of rfl rfl rfl rfl) (fun _ _ _ _ h => h)) (pa_cons (pv 3) (pa_cons (pe_fld (pv 0) rfl) pa_nil))))
        (pss_cons (ps_expr (pe_call GS hr6 (by rfl) mS kS bS .nil (passes_call (takes_of rfl rfl rfl rfl) (fun _ _ _ _ h => h)) (pa_cons (pv 4) (pa_cons (pe_fld (pv 0) rfl) pa_nil))))
        (pss_one (ps_dput (hu_of hr) (pe_fld (pv 0) rfl) (pv 3) (pe_call GC hr1 (by rfl) mC kC bC .nil pass0 (pa_cons (pe_fld (pv 0) rfl) (pa_cons (pv 4) pa_nil))) rfl)))))
      (pss_one (ps_fld (pv 0) (pe_callTy (call_tuple_dK rfl) (by rfl) T.tup (by decide +kernel) (pa_cons (pe_fld (pv 0) rfl) pa_nil)) rfl))))), ?_⟩
    have small : ∀ n : Nat, n ≤ 2 → n < 1000 := fun n h => by omega
    have hmany : 24 < lamps.length ∨ 24 < (rows.map RowIn.dat).length → Out C H E .many := fun h => Out.of s0 (kx .many (by unfold initT; rw [if_pos h]))
    refine ⟨_, rfl, a, _, rfl, Same.either s0 ha, _, _, rfl, rfl, _, rfl, ?_⟩
    refine ite2 (fun c1 => ?_) (fun c1 => ?_)
    · exact raise_end (hmany (.inl (by have q : (24 : Int) < (lamps.length : Nat) := of_decide_eq_true c1; omega)))
    have c1' : ¬ 24 < lamps.length := fun x => c1 (decide_eq_true (by show (24 : Int) < (lamps.length : Nat); omega))
    refine ⟨_, rfl, b, _, rfl, .inl (Same.seq s0 hb), _, _, rfl, rfl, _, rfl, ?_⟩
    refine ite2 (fun c2 => ?_) (fun c2 => ?_)
    · exact raise_end (hmany (.inr (by
        have q : (24 : Int) < ((rows.map fun r => V.ref r.t).length : Nat) := of_decide_eq_true c2
        rw [List.length_map] at q ⊢
        omega)))
    have c2' : ¬ 24 < (rows.map RowIn.dat).length := fun x => c2 (decide_eq_true (by
      show (24 : Int) < ((rows.map fun r => V.ref r.t).length : Nat)
      rw [List.length_map] at x ⊢
      omega))
    have hT : initT lamps (rows.map RowIn.dat) = match chkNames lamps [] with
        | .error e => .error e
        | .ok ls => match initRows ls (rows.map RowIn.dat) [] with
          | .error e => .error e
          | .ok rs => .ok (ls, rs) := by
      show (if _ then _ else _) = _
      rw [if_neg (by intro z; rcases z with z | z; exact c1' z; exact c2' z)]
    -- self.lamps = distinct_names(lamps)
    refine ⟨_, rfl, a, lamps, rfl, Same.either s0 ha, fun v hv => (hla v hv).of s0, hll, fun ls hls H1 lt s1 hlt e1 => ?_, fun e he => Out.of s0 (kx e (by rw [hT, he]))⟩
    rw [hls] at hT
    dsimp only at hT
    have s01 : Same H0 H1 := s0.trans s1
    refine ⟨_, rfl, p, CT, dx, [], rfl, s1 _ _ hp, T.cl, T.nL, by decide, ?_⟩
    have nltp : lt ≠ p := fun z => by rw [z, hp] at hlt; cases hlt
    have keep0 : ∀ {Hx : Hp} {o : HO}, Same H0 Hx → Same H0 (upd Hx p o) := fun {Hx o} s b u e => by
      rw [upd_ne (ne_of_none e hp0)]; exact s _ _ e
    -- self._shown = {}
    refine fun sd hsd => ⟨_, rfl, p, CT, dx, pf1 (.ref lt), rfl, (by rw [upd_ne (ne_of_none upd_same hsd), upd_same]; rfl), T.cl, T.nS, small _ (Nat.le_trans (pf1_len _) (by decide)), ?_⟩
    have hsd1 : H1 sd = none := by
      have nsd : sd ≠ p := fun z => by rw [z, upd_same] at hsd; cases hsd
      rw [upd_ne nsd] at hsd
      exact hsd
    have nsp : p ≠ sd := fun z => by
      have q := s1 _ _ hp
      rw [z, hsd1] at q
      cases q
    have nls : lt ≠ sd := ne_of_none e1 hsd1
    have hsd0 : H0 sd = none := s01.free hsd1
    refine ⟨_, rfl, b, rfl, ⟨rows.map fun r => V.ref r.t, ?_⟩, for_it (walk_list (K := K) (a := b) (xs := rows.map fun r => V.ref r.t)) (fun i σ H' => ∃ (x y : Option V) (kvs : List (Key × V)) (acc : List (Str × List Str)),
        σ = [some (.ref p), some (.ref a), some (.ref b), x, y] ∧ H' p = some (.ins CT dx (pf2 (.ref lt) (.ref sd))) ∧ H' lt = some (.tup (ls.map V.str)) ∧ H' sd = some (.dK kvs) ∧ RowsAt H' acc kvs ∧ Same H0 H' ∧
        initRows ls ((rows.map RowIn.dat).drop i) acc = initRows ls (rows.map RowIn.dat) [] ∧ acc.length ≤ i) ?_ ?_ ?_ ?_⟩
    · exact Same.seq (keep0 ((keep0 s01).trans (Same.upd_new hsd))) hb
    · refine ⟨none, none, [], [], rfl, upd_same, ?_, ?_, .nil, keep0 ((keep0 s01).trans (Same.upd_new hsd)), rfl, Nat.le_refl _⟩
      · rw [upd_ne nltp, upd_ne nls, upd_ne nltp]; exact e1
      · rw [upd_ne nsp.symm, upd_same]
    · rintro i σ H' _ ⟨_, _, _, _, _, _, _, _, _, s', _⟩
      exact Same.seq s' hb
    · rintro i v σ H2 H3 hi ⟨x, y, kvs, acc, rfl, h2p, h2l, h2s, hrs, s2, hc, hal⟩ ⟨rfl, hv⟩
      have hv2 : (rows.map fun r => V.ref r.t)[i]? = some v := hv
      rw [List.length_map] at hi
      obtain ⟨r, hr, rfl⟩ : ∃ r, rows[i]? = some r ∧ v = V.ref r.t := by
        rw [List.getElem?_map] at hv2
        cases e : rows[i]? with
        | none => rw [e] at hv2; cases hv2
        | some r => rw [e] at hv2; exact ⟨r, rfl, (Option.some.inj hv2).symm⟩
      have hd : (rows.map RowIn.dat).drop i = (r.look, r.xs) :: (rows.map RowIn.dat).drop (i + 1) := by
        rw [List.drop_eq_getElem_cons (by rw [List.length_map]; exact hi)]
        rw [List.getElem_map, (List.getElem?_eq_some_iff.mp hr).2]
        rfl
      rw [hd] at hc
      have R := hrw r (List.mem_of_getElem? hr)
      have R2 := R.of s2
      refine ⟨r.t, _, rfl, R2.pair, rfl, _, _, rfl, _, _, rfl, rfl, ?_⟩
      -- check_new(look, self._shown)
      refine ⟨_, rfl, _, rfl, p, CT, dx, _, _, rfl, h2p, T.cl, T.nS, pf2_shown _ _, r.look, sd, kvs, acc.map (·.1), rfl, R2.name, h2s, hrs.keys, fun H4 s4 hn => ?_, fun e he => ?_⟩
      · obtain ⟨z, ez, hz, hza⟩ := chkNew_none hn
        -- _check_shown(shown, self.lamps)
        refine ⟨_, rfl, _, rfl, p, CT, dx, _, _, rfl, s4 _ _ h2p, T.cl, T.nL, pf2_lamps _ _, r.s, lt, r.xs, ls, rfl, Same.seq s4 R2.lst, (R2.of s4).all, R.len, SqT.of (s4 _ _ h2l), fun H5 hsn s5 => ?_, fun e he => ?_⟩
        · -- self._shown[look] = _chosen_of(self.lamps, shown)
          have s45 : Same H3 H5 := s4.trans s5
          have hxs : r.xs = (r.xs.map strOf).map V.str := shown_strs hsn
          refine ⟨_, rfl, p, CT, dx, _, _, rfl, s45 _ _ h2p, T.cl, T.nL, pf2_lamps _ _, _, rfl, lt, r.s, ls, r.xs.map strOf, rfl, SqT.of (s45 _ _ h2l), .inl (by rw [← hxs]; exact Same.seq s45 R2.lst), ?_, fun H6 t s6 ht et => ?_⟩
          · have q := names_len hls
            simp at q
            omega
          · have s26 : Same H3 H6 := s45.trans s6
            refine ⟨_, rfl, p, CT, dx, _, _, rfl, s26 _ _ h2p, T.cl, T.nS, pf2_shown _ _, _, rfl, sd, _, rfl, (by rw [ez]; exact DPut.k (k := Sum.inr z) (s26 _ _ h2s) (by rw [hrs.length]; exact small1000 (by omega))), ?_⟩
            have hval : valV kvs (Sum.inr z) = none := by
              have q := isSome_valV (es := acc.map (·.1)) hrs.keys (z := z)
              rw [decide_eq_false hza] at q
              cases e : valV kvs (Sum.inr z) with
              | none => rfl
              | some u => rw [e] at q; cases q
            rw [putK_new _ hval]
            have tups : ∀ b xs, H6 b = some (.tup xs) → upd H6 sd (.dK (kvs ++ [(Sum.inr z, .ref t)])) b = some (.tup xs) := fun b xs e => by
              have nb : b ≠ sd := fun q => by rw [q, s26 _ _ h2s] at e; cases e
              rw [upd_ne nb]; exact e
            refine ⟨_, _, kvs ++ [(Sum.inr z, .ref t)], acc ++ [(z, chosen ls (r.xs.map strOf))], rfl, ?_, tups _ _ (s26 _ _ h2l), upd_same, ?_, fun b o e => ?_, ?_, ?_⟩
            · have np : p ≠ sd := nsp
              rw [upd_ne np]; exact s26 _ _ h2p
            · exact (hrs.of fun b xs e => tups b xs (s26 _ _ e)).snoc (tups _ _ et)
            · rw [upd_ne (ne_of_none e hsd0)]
              exact s26 _ _ (s2 _ _ e)
            · rw [← hc, initRows, hn, hsn, ez]
              rfl
            · rw [List.length_append]
              simp
              omega
        · have hce : initRows ls (rows.map RowIn.dat) [] = .error e := by rw [← hc, initRows, hn, he]
          exact Out.of (s2.trans s4) (kx e (by rw [hT, hce]))
      · have hce : initRows ls (rows.map RowIn.dat) [] = .error e := by rw [← hc, initRows, he]
        exact Out.of s2 (kx e (by rw [hT, hce]))
    · rintro σ H2 ⟨x, y, kvs, acc, rfl, h2p, h2l, h2s, hrs, s2, hc, hal⟩
      have hc' : initRows ls (rows.map RowIn.dat) [] = .ok acc := by
        rw [← hc, List.drop_eq_nil_of_le (by simp)]
        rfl
      -- self.looks = tuple(self._shown)
      refine ⟨_, rfl, p, CT, dx, _, _, rfl, h2p, T.cl, T.nS, pf2_shown _ _, sd, kvs, rfl, h2s, fun kt hkt => ?_⟩
      have ntp : p ≠ kt := ne_of_none h2p hkt
      refine ⟨_, rfl, p, CT, dx, _, rfl, (by rw [upd_ne ntp]; exact h2p), T.cl, T.nK, small _ (pf2_len _ _), ?_⟩
      refine k ls acc (by rw [hT, hc']) _ (keep0 (s2.trans (Same.upd_new hkt))) ⟨dx, lt, sd, kt, kvs, upd_same, ?_, ?_, ?_, ?_⟩
      · rw [upd_ne nltp, upd_ne (ne_of_none h2l hkt)]; exact h2l
      · rw [upd_ne nsp.symm, upd_ne (ne_of_none h2s hkt)]; exact h2s
      · have q : (kvs.map fun kv => kV kv.1) = (kvs.map (·.1)).map kV := by rw [List.map_map]; rfl
        rw [upd_ne ntp.symm, upd_same, q, hrs.keys, List.map_map]
        rfl
      · refine hrs.of fun b xs e => ?_
        have nb : b ≠ p := fun q => by rw [q, h2p] at e; cases e
        rw [upd_ne nb, upd_ne (ne_of_none e hkt)]; exact e
end
end Dl

namespace Dl
open PySem L2
/-- one look as it is passed, the lamps as a list or as a tuple -/
structure RowE (K : PySem.W.Frag) (H : Hp) (r : RowIn) : Prop where
  pair : SqT K H r.t [r.look, .ref r.s]
  name : NmOk H r.look
  seq : SqL K H r.s r.xs ∨ SqT K H r.s r.xs
  all : ∀ v ∈ r.xs, NmOk H v
  len : r.xs.length ≤ 1000
theorem RowE.of {K : PySem.W.Frag} {H H' : Hp} {r : RowIn} (s : Same H H') (h : RowE K H r) : RowE K H' r :=
  ⟨Same.tup s h.pair, h.name.of s, Same.either s h.seq, fun v hv => (h.all v hv).of s, h.len⟩
theorem RowOk.e {K : PySem.W.Frag} {H : Hp} {r : RowIn} (h : RowOk K H r) : RowE K H r := ⟨h.pair, h.name, .inl h.lst, h.all, h.len⟩
def spTabInit2 (K : PySem.W.Frag) (CT : Addr) (C : Cs) : Sp := fun vs H Q E => ∃ (H0 : Hp) (p dx a b : Addr) (lamps : List V) (rows : List RowIn), vs = [.ref p, .ref a, .ref b] ∧ Same H0 H ∧ H0 p = none ∧ H p = some (.ins CT dx []) ∧
  (SqL K H0 a lamps ∨ SqT K H0 a lamps) ∧ (∀ v ∈ lamps, NmOk H0 v) ∧ lamps.length ≤ 1000 ∧ (SqL K H0 b (rows.map fun r => V.ref r.t) ∨ SqT K H0 b (rows.map fun r => V.ref r.t)) ∧ (∀ r ∈ rows, RowE K H0 r) ∧ rows.length ≤ 1000 ∧
  (∀ ls rs, initT lamps (rows.map RowIn.dat) = .ok (ls, rs) → ∀ H', Same H0 H' → TableAt CT H' p ls rs → Q .non H') ∧ ∀ e, initT lamps (rows.map RowIn.dat) = .error e → Out C H0 E e
section
variable {P : Program} {w : World} {K : PySem.W.Frag} {mg : Str → Option Value} {base : Heap} {C : Cs} {CT : Addr}
theorem ok_tabinit2 {f : Addr} {fd : FuncData} (F : Fun K "__init__" "Table.__init__" sTabInit f fd) (T : TxtT K mg CT) (xM : Ex P w K mg base "TooMany" "limit" C.many)
    (gD : Dfn P w K mg base (L2.CX P w) 6 "distinct_names" ["names"] (spDistinct K C)) (gN : Dfn P w K mg base (L2.CX P w) 4 "check_new" ["name", "earlier"] (spNewD K C))
    (gS : Dfn P w K mg base (L2.CX P w) 6 "_check_shown" ["shown", "lamps"] (spShown2 K C)) (gC : Dfn P w K mg base CX0 1 "_chosen_of" ["names", "chosen"] (spChosen K)) :
    FnOk P w K mg base (L2.CX P w) 8 f fd ["self", "lamps", "looks"] (spTabInit2 K CT C) := by
  obtain ⟨fI, dI, TI, bI, GI⟩ := xM
  obtain ⟨fD, dD, mD, kD, bD, GD⟩ := gD
  obtain ⟨fN, dN, mN, kN, bN, GN⟩ := gN
  obtain ⟨fS, dS, mS, kS, bS, GS⟩ := gS
  obtain ⟨fC, dC, mC, kC, bC, GC⟩ := gC
  obtain ⟨tl, hlim⟩ := T.lim
  refine F.okX scTabInit (fun vs H Q E h => ?_) (fun cdv A outer s H vs Q E hr h => ?_)
  · obtain ⟨H0, p, dx, a, b, lamps, rows, rfl, _⟩ := h
    rfl
  · obtain ⟨H0, p, dx, a, b, lamps, rows, rfl, s0, hp0, hp, ha, hla, hll, hb, hrw, hrl, k, kx⟩ := h
    have hr6 : Room 6 _ := hr.mono (by decide)
    have hr4 : Room 4 _ := hr.mono (by decide)
    have hr2 : Room 2 _ := hr.mono (by decide)
    have hr1 : Room 1 _ := hr.mono (by decide)
    rcases hb with hb | hb
    · refine ⟨_, pss_cons (ps_if (PW.pt (pw_or (pt_cmpR op_gt (pe_callB call_len_seq (by rfl) T.len PySem.boot_len (pa_cons (pv 1) pa_nil)) (pe_glob (v := .int 24) (by rfl) hlim ⟨_, rfl⟩) (nomark _))
            (pw_or1 (pt_cmpR op_gt (pe_callB call_len_seq (by rfl) T.len PySem.boot_len (pa_cons (pv 2) pa_nil)) (pe_glob (v := .int 24) (by rfl) hlim ⟨_, rfl⟩) (nomark _)))))
          (pss_one (ps_raise rfl (takes_of rfl rfl rfl rfl) (pmk_oex TI.oex TI.iC TI.tI GI hr2 bI .nil pass0 (by rfl) TI.gC (pa_cons (pe_glob (v := .int 24) (by rfl) hlim ⟨_, rfl⟩) pa_nil)))) pss_nil)
        (pss_cons (ps_fld (pv 0) (pe_call GD hr6 (by rfl) mD kD bD .nil (passes_call (takes_of rfl rfl rfl rfl) (fun _ _ _ _ h => h)) (pa_cons (pv 1) pa_nil)) rfl)
        (pss_cons (ps_fld (pv 0) pe_dnewK rfl)
        (pss_cons (ps_for (passes_of rfl) rfl (pi_list (pv 2)) (pg_tup rfl (pgs_cons (pg_name (i := 3) scTabInit.nd rfl (Or.inl rfl)) (pgs_cons (pg_name (i := 4) scTabInit.nd rfl (Or.inl rfl)) pgs_nil)))
          (pss_cons (ps_expr (pe_call GN hr4 (by rfl) mN kN bN .nil (passes_call (takes_of rfl rfl rfl rfl) (fun _ _ _ _ h => h)) (pa_cons (pv 3) (pa_cons (pe_fld (pv 0) rfl) pa_nil))))
          (pss_cons (ps_expr (pe_call GS hr6 (by rfl) mS kS bS .nil (passes_call (takes_of rfl rfl rfl rfl) (fun _ _ _ _ h => h)) (pa_cons (pv 4) (pa_cons (pe_fld (pv 0) rfl) pa_nil))))
          (pss_one (ps_dput (hu_of hr) (pe_fld (pv 0) rfl) (pv 3) (pe_call GC hr1 (by rfl) mC kC bC .nil pass0 (pa_cons (pe_fld (pv 0) rfl) (pa_cons (pv 4) pa_nil))) rfl)))))
        (pss_one (ps_fld (pv 0) (pe_callTy (call_tuple_dK rfl) (by rfl) T.tup (by decide +kernel) (pa_cons (pe_fld (pv 0) rfl) pa_nil)) rfl))))), ?_⟩
      have small : ∀ n : Nat, n ≤ 2 → n < 1000 := fun n h => by omega
      have hmany : 24 < lamps.length ∨ 24 < (rows.map RowIn.dat).length → Out C H E .many := fun h => Out.of s0 (kx .many (by unfold initT; rw [if_pos h]))
      refine ⟨_, rfl, a, _, rfl, Same.either s0 ha, _, _, rfl, rfl, _, rfl, ?_⟩
      refine ite2 (fun c1 => ?_) (fun c1 => ?_)
      · exact raise_end (hmany (.inl (by have q : (24 : Int) < (lamps.length : Nat) := of_decide_eq_true c1; omega)))
      have c1' : ¬ 24 < lamps.length := fun x => c1 (decide_eq_true (by show (24 : Int) < (lamps.length : Nat); omega))
      refine ⟨_, rfl, b, _, rfl, .inl (Same.seq s0 hb), _, _, rfl, rfl, _, rfl, ?_⟩
      refine ite2 (fun c2 => ?_) (fun c2 => ?_)
      · exact raise_end (hmany (.inr (by
          have q : (24 : Int) < ((rows.map fun r => V.ref r.t).length : Nat) := of_decide_eq_true c2
          rw [List.length_map] at q ⊢
          omega)))
      have c2' : ¬ 24 < (rows.map RowIn.dat).length := fun x => c2 (decide_eq_true (by
        show (24 : Int) < ((rows.map fun r => V.ref r.t).length : Nat)
        rw [List.length_map] at x ⊢
        omega))
      have hT : initT lamps (rows.map RowIn.dat) = match chkNames lamps [] with
          | .error e => .error e
          | .ok ls => match initRows ls (rows.map RowIn.dat) [] with
            | .error e => .error e
            | .ok rs => .ok (ls, rs) := by
        show (if _ then _ else _) = _
        rw [if_neg (by intro z; rcases z with z | z; exact c1' z; exact c2' z)]
        try rfl
      -- self.lamps = distinct_names(lamps)
      refine ⟨_, rfl, a, lamps, rfl, Same.either s0 ha, fun v hv => (hla v hv).of s0, hll, fun ls hls H1 lt s1 hlt e1 => ?_, fun e he => Out.of s0 (kx e (by rw [hT, he]))⟩
      rw [hls] at hT
      dsimp only at hT
      have s01 : Same H0 H1 := s0.trans s1
      refine ⟨_, rfl, p, CT, dx, [], rfl, s1 _ _ hp, T.cl, T.nL, by decide, ?_⟩
      have nltp : lt ≠ p := fun z => by rw [z, hp] at hlt; cases hlt
      have keep0 : ∀ {Hx : Hp} {o : HO}, Same H0 Hx → Same H0 (upd Hx p o) := fun {Hx o} s b u e => by
        rw [upd_ne (ne_of_none e hp0)]; exact s _ _ e
      -- self._shown = {}
      refine fun sd hsd => ⟨_, rfl, p, CT, dx, pf1 (.ref lt), rfl, (by rw [upd_ne (ne_of_none upd_same hsd), upd_same]; rfl), T.cl, T.nS, small _ (Nat.le_trans (pf1_len _) (by decide)), ?_⟩
      have hsd1 : H1 sd = none := by
        have nsd : sd ≠ p := fun z => by rw [z, upd_same] at hsd; cases hsd
        rw [upd_ne nsd] at hsd
        exact hsd
      have nsp : p ≠ sd := fun z => by
        have q := s1 _ _ hp
        rw [z, hsd1] at q
        cases q
      have nls : lt ≠ sd := ne_of_none e1 hsd1
      have hsd0 : H0 sd = none := s01.free hsd1
      refine ⟨_, rfl, b, rfl, ⟨rows.map fun r => V.ref r.t, ?_⟩, for_it (walk_list (K := K) (a := b) (xs := rows.map fun r => V.ref r.t)) (fun i σ H' => ∃ (x y : Option V) (kvs : List (Key × V)) (acc : List (Str × List Str)),
          σ = [some (.ref p), some (.ref a), some (.ref b), x, y] ∧ H' p = some (.ins CT dx (pf2 (.ref lt) (.ref sd))) ∧ H' lt = some (.tup (ls.map V.str)) ∧ H' sd = some (.dK kvs) ∧ RowsAt H' acc kvs ∧ Same H0 H' ∧
          initRows ls ((rows.map RowIn.dat).drop i) acc = initRows ls (rows.map RowIn.dat) [] ∧ acc.length ≤ i) ?_ ?_ ?_ ?_⟩
      · exact Same.seq (keep0 ((keep0 s01).trans (Same.upd_new hsd))) hb
      · refine ⟨none, none, [], [], rfl, upd_same, ?_, ?_, .nil, keep0 ((keep0 s01).trans (Same.upd_new hsd)), rfl, Nat.le_refl _⟩
        · rw [upd_ne nltp, upd_ne nls, upd_ne nltp]; exact e1
        · rw [upd_ne nsp.symm, upd_same]
      · rintro i σ H' _ ⟨_, _, _, _, _, _, _, _, _, s', _⟩
        exact Same.seq s' hb
      · rintro i v σ H2 H3 hi ⟨x, y, kvs, acc, rfl, h2p, h2l, h2s, hrs, s2, hc, hal⟩ ⟨rfl, hv⟩
        have hv2 : (rows.map fun r => V.ref r.t)[i]? = some v := hv
        rw [List.length_map] at hi
        obtain ⟨r, hr, rfl⟩ : ∃ r, rows[i]? = some r ∧ v = V.ref r.t := by
          rw [List.getElem?_map] at hv2
          cases e : rows[i]? with
          | none => rw [e] at hv2; cases hv2
          | some r => rw [e] at hv2; exact ⟨r, rfl, (Option.some.inj hv2).symm⟩
        have hd : (rows.map RowIn.dat).drop i = (r.look, r.xs) :: (rows.map RowIn.dat).drop (i + 1) := by
          rw [List.drop_eq_getElem_cons (by rw [List.length_map]; exact hi)]
          rw [List.getElem_map, (List.getElem?_eq_some_iff.mp hr).2]
          rfl
        rw [hd] at hc
        have R := hrw r (List.mem_of_getElem? hr)
        have R2 := R.of s2
        refine ⟨r.t, _, rfl, R2.pair, rfl, _, _, rfl, _, _, rfl, rfl, ?_⟩
        -- check_new(look, self._shown)
        refine ⟨_, rfl, _, rfl, p, CT, dx, _, _, rfl, h2p, T.cl, T.nS, pf2_shown _ _, r.look, sd, kvs, acc.map (·.1), rfl, R2.name, h2s, hrs.keys, fun H4 s4 hn => ?_, fun e he => ?_⟩
        · obtain ⟨z, ez, hz, hza⟩ := chkNew_none hn
          -- _check_shown(shown, self.lamps)
          refine ⟨_, rfl, _, rfl, p, CT, dx, _, _, rfl, s4 _ _ h2p, T.cl, T.nL, pf2_lamps _ _, r.s, lt, r.xs, ls, rfl, Same.either s4 R2.seq, (R2.of s4).all, R.len, SqT.of (s4 _ _ h2l), fun H5 hsn s5 => ?_, fun e he => ?_⟩
          · -- self._shown[look] = _chosen_of(self.lamps, shown)
            have s45 : Same H3 H5 := s4.trans s5
            have hxs : r.xs = (r.xs.map strOf).map V.str := shown_strs hsn
            refine ⟨_, rfl, p, CT, dx, _, _, rfl, s45 _ _ h2p, T.cl, T.nL, pf2_lamps _ _, _, rfl, lt, r.s, ls, r.xs.map strOf, rfl, SqT.of (s45 _ _ h2l), (by rw [← hxs]; exact Same.either s45 R2.seq), ?_, fun H6 t s6 ht et => ?_⟩
            · have q := names_len hls
              simp at q
              omega
            · have s26 : Same H3 H6 := s45.trans s6
              refine ⟨_, rfl, p, CT, dx, _, _, rfl, s26 _ _ h2p, T.cl, T.nS, pf2_shown _ _, _, rfl, sd, _, rfl, (by rw [ez]; exact DPut.k (k := Sum.inr z) (s26 _ _ h2s) (by rw [hrs.length]; exact small1000 (by omega))), ?_⟩
              have hval : valV kvs (Sum.inr z) = none := by
                have q := isSome_valV (es := acc.map (·.1)) hrs.keys (z := z)
                rw [decide_eq_false hza] at q
                cases e : valV kvs (Sum.inr z) with
                | none => rfl
                | some u => rw [e] at q; cases q
              rw [putK_new _ hval]
              have tups : ∀ b xs, H6 b = some (.tup xs) → upd H6 sd (.dK (kvs ++ [(Sum.inr z, .ref t)])) b = some (.tup xs) := fun b xs e => by
                have nb : b ≠ sd := fun q => by rw [q, s26 _ _ h2s] at e; cases e
                rw [upd_ne nb]; exact e
              refine ⟨_, _, kvs ++ [(Sum.inr z, .ref t)], acc ++ [(z, chosen ls (r.xs.map strOf))], rfl, ?_, tups _ _ (s26 _ _ h2l), upd_same, ?_, fun b o e => ?_, ?_, ?_⟩
              · have np : p ≠ sd := nsp
                rw [upd_ne np]; exact s26 _ _ h2p
              · exact (hrs.of fun b xs e => tups b xs (s26 _ _ e)).snoc (tups _ _ et)
              · rw [upd_ne (ne_of_none e hsd0)]
                exact s26 _ _ (s2 _ _ e)
              · rw [← hc, initRows, hn, hsn, ez]
                rfl
              · rw [List.length_append]
                simp
                omega
          · have hce : initRows ls (rows.map RowIn.dat) [] = .error e := by rw [← hc, initRows, hn, he]
            exact Out.of (s2.trans s4) (kx e (by rw [hT, hce]))
        · have hce : initRows ls (rows.map RowIn.dat) [] = .error e := by rw [← hc, initRows, he]
          exact Out.of s2 (kx e (by rw [hT, hce]))
      · rintro σ H2 ⟨x, y, kvs, acc, rfl, h2p, h2l, h2s, hrs, s2, hc, hal⟩
        have hc' : initRows ls (rows.map RowIn.dat) [] = .ok acc := by
          rw [← hc, List.drop_eq_nil_of_le (by simp)]
          rfl
        -- self.looks = tuple(self._shown)
        refine ⟨_, rfl, p, CT, dx, _, _, rfl, h2p, T.cl, T.nS, pf2_shown _ _, sd, kvs, rfl, h2s, fun kt hkt => ?_⟩
        have ntp : p ≠ kt := ne_of_none h2p hkt
        refine ⟨_, rfl, p, CT, dx, _, rfl, (by rw [upd_ne ntp]; exact h2p), T.cl, T.nK, small _ (pf2_len _ _), ?_⟩
        refine k ls acc (by rw [hT, hc']) _ (keep0 (s2.trans (Same.upd_new hkt))) ⟨dx, lt, sd, kt, kvs, upd_same, ?_, ?_, ?_, ?_⟩
        · rw [upd_ne nltp, upd_ne (ne_of_none h2l hkt)]; exact h2l
        · rw [upd_ne nsp.symm, upd_ne (ne_of_none h2s hkt)]; exact h2s
        · have q : (kvs.map fun kv => kV kv.1) = (kvs.map (·.1)).map kV := by rw [List.map_map]; rfl
          rw [upd_ne ntp.symm, upd_same, q, hrs.keys, List.map_map]
          rfl
        · refine hrs.of fun b xs e => ?_
          have nb : b ≠ p := fun q => by rw [q, h2p] at e; cases e
          rw [upd_ne nb, upd_ne (ne_of_none e hkt)]; exact e
    · refine ⟨_, pss_cons (ps_if (PW.pt (pw_or (pt_cmpR op_gt (pe_callB call_len_seq (by rfl) T.len PySem.boot_len (pa_cons (pv 1) pa_nil)) (pe_glob (v := .int 24) (by rfl) hlim ⟨_, rfl⟩) (nomark _))
            (pw_or1 (pt_cmpR op_gt (pe_callB call_len_seq (by rfl) T.len PySem.boot_len (pa_cons (pv 2) pa_nil)) (pe_glob (v := .int 24) (by rfl) hlim ⟨_, rfl⟩) (nomark _)))))
          (pss_one (ps_raise rfl (takes_of rfl rfl rfl rfl) (pmk_oex TI.oex TI.iC TI.tI GI hr2 bI .nil pass0 (by rfl) TI.gC (pa_cons (pe_glob (v := .int 24) (by rfl) hlim ⟨_, rfl⟩) pa_nil)))) pss_nil)
        (pss_cons (ps_fld (pv 0) (pe_call GD hr6 (by rfl) mD kD bD .nil (passes_call (takes_of rfl rfl rfl rfl) (fun _ _ _ _ h => h)) (pa_cons (pv 1) pa_nil)) rfl)
        (pss_cons (ps_fld (pv 0) pe_dnewK rfl)
        (pss_cons (ps_for (passes_of rfl) rfl (pi_tup (pv 2)) (pg_tup rfl (pgs_cons (pg_name (i := 3) scTabInit.nd rfl (Or.inl rfl)) (pgs_cons (pg_name (i := 4) scTabInit.nd rfl (Or.inl rfl)) pgs_nil)))
          (pss_cons (ps_expr (pe_call GN hr4 (by rfl) mN kN bN .nil (passes_call (takes_of rfl rfl rfl rfl) (fun _ _ _ _ h => h)) (pa_cons (pv 3) (pa_cons (pe_fld (pv 0) rfl) pa_nil))))
          (pss_cons (ps_expr (pe_call GS hr6 (by rfl) mS kS bS .nil (passes_call (takes_of rfl rfl rfl rfl) (fun _ _ _ _ h => h)) (pa_cons (pv 4) (pa_cons (pe_fld (pv 0) rfl) pa_nil))))
          (pss_one (ps_dput (hu_of hr) (pe_fld (pv 0) rfl) (pv 3) (pe_call GC hr1 (by rfl) mC kC bC .nil pass0 (pa_cons (pe_fld (pv 0) rfl) (pa_cons (pv 4) pa_nil))) rfl)))))
        (pss_one (ps_fld (pv 0) (pe_callTy (call_tuple_dK rfl) (by rfl) T.tup (by decide +kernel) (pa_cons (pe_fld (pv 0) rfl) pa_nil)) rfl))))), ?_⟩
      have small : ∀ n : Nat, n ≤ 2 → n < 1000 := fun n h => by omega
      have hmany : 24 < lamps.length ∨ 24 < (rows.map RowIn.dat).length → Out C H E .many := fun h => Out.of s0 (kx .many (by unfold initT; rw [if_pos h]))
      refine ⟨_, rfl, a, _, rfl, Same.either s0 ha, _, _, rfl, rfl, _, rfl, ?_⟩
      refine ite2 (fun c1 => ?_) (fun c1 => ?_)
      · exact raise_end (hmany (.inl (by have q : (24 : Int) < (lamps.length : Nat) := of_decide_eq_true c1; omega)))
      have c1' : ¬ 24 < lamps.length := fun x => c1 (decide_eq_true (by show (24 : Int) < (lamps.length : Nat); omega))
      refine ⟨_, rfl, b, _, rfl, .inr (Same.tup s0 hb), _, _, rfl, rfl, _, rfl, ?_⟩
      refine ite2 (fun c2 => ?_) (fun c2 => ?_)
      · exact raise_end (hmany (.inr (by
          have q : (24 : Int) < ((rows.map fun r => V.ref r.t).length : Nat) := of_decide_eq_true c2
          rw [List.length_map] at q ⊢
          omega)))
      have c2' : ¬ 24 < (rows.map RowIn.dat).length := fun x => c2 (decide_eq_true (by
        show (24 : Int) < ((rows.map fun r => V.ref r.t).length : Nat)
        rw [List.length_map] at x ⊢
        omega))
      have hT : initT lamps (rows.map RowIn.dat) = match chkNames lamps [] with
          | .error e => .error e
          | .ok ls => match initRows ls (rows.map RowIn.dat) [] with
            | .error e => .error e
            | .ok rs => .ok (ls, rs) := by
        show (if _ then _ else _) = _
        rw [if_neg (by intro z; rcases z with z | z; exact c1' z; exact c2' z)]
        try rfl
      -- self.lamps = distinct_names(lamps)
      refine ⟨_, rfl, a, lamps, rfl, Same.either s0 ha, fun v hv => (hla v hv).of s0, hll, fun ls hls H1 lt s1 hlt e1 => ?_, fun e he => Out.of s0 (kx e (by rw [hT, he]))⟩
      rw [hls] at hT
      dsimp only at hT
      have s01 : Same H0 H1 := s0.trans s1
      refine ⟨_, rfl, p, CT, dx, [], rfl, s1 _ _ hp, T.cl, T.nL, by decide, ?_⟩
      have nltp : lt ≠ p := fun z => by rw [z, hp] at hlt; cases hlt
      have keep0 : ∀ {Hx : Hp} {o : HO}, Same H0 Hx → Same H0 (upd Hx p o) := fun {Hx o} s b u e => by
        rw [upd_ne (ne_of_none e hp0)]; exact s _ _ e
      -- self._shown = {}
      refine fun sd hsd => ⟨_, rfl, p, CT, dx, pf1 (.ref lt), rfl, (by rw [upd_ne (ne_of_none upd_same hsd), upd_same]; rfl), T.cl, T.nS, small _ (Nat.le_trans (pf1_len _) (by decide)), ?_⟩
      have hsd1 : H1 sd = none := by
        have nsd : sd ≠ p := fun z => by rw [z, upd_same] at hsd; cases hsd
        rw [upd_ne nsd] at hsd
        exact hsd
      have nsp : p ≠ sd := fun z => by
        have q := s1 _ _ hp
        rw [z, hsd1] at q
        cases q
      have nls : lt ≠ sd := ne_of_none e1 hsd1
      have hsd0 : H0 sd = none := s01.free hsd1
      refine ⟨_, rfl, b, rfl, ⟨rows.map fun r => V.ref r.t, ?_⟩, for_it (walk_tup (K := K) (a := b) (xs := rows.map fun r => V.ref r.t)) (fun i σ H' => ∃ (x y : Option V) (kvs : List (Key × V)) (acc : List (Str × List Str)),
          σ = [some (.ref p), some (.ref a), some (.ref b), x, y] ∧ H' p = some (.ins CT dx (pf2 (.ref lt) (.ref sd))) ∧ H' lt = some (.tup (ls.map V.str)) ∧ H' sd = some (.dK kvs) ∧ RowsAt H' acc kvs ∧ Same H0 H' ∧
          initRows ls ((rows.map RowIn.dat).drop i) acc = initRows ls (rows.map RowIn.dat) [] ∧ acc.length ≤ i) ?_ ?_ ?_ ?_⟩
      · exact Same.tup (keep0 ((keep0 s01).trans (Same.upd_new hsd))) hb
      · refine ⟨none, none, [], [], rfl, upd_same, ?_, ?_, .nil, keep0 ((keep0 s01).trans (Same.upd_new hsd)), rfl, Nat.le_refl _⟩
        · rw [upd_ne nltp, upd_ne nls, upd_ne nltp]; exact e1
        · rw [upd_ne nsp.symm, upd_same]
      · rintro i σ H' _ ⟨_, _, _, _, _, _, _, _, _, s', _⟩
        exact Same.tup s' hb
      · rintro i v σ H2 H3 hi ⟨x, y, kvs, acc, rfl, h2p, h2l, h2s, hrs, s2, hc, hal⟩ ⟨rfl, hv⟩
        have hv2 : (rows.map fun r => V.ref r.t)[i]? = some v := hv
        rw [List.length_map] at hi
        obtain ⟨r, hr, rfl⟩ : ∃ r, rows[i]? = some r ∧ v = V.ref r.t := by
          rw [List.getElem?_map] at hv2
          cases e : rows[i]? with
          | none => rw [e] at hv2; cases hv2
          | some r => rw [e] at hv2; exact ⟨r, rfl, (Option.some.inj hv2).symm⟩
        have hd : (rows.map RowIn.dat).drop i = (r.look, r.xs) :: (rows.map RowIn.dat).drop (i + 1) := by
          rw [List.drop_eq_getElem_cons (by rw [List.length_map]; exact hi)]
          rw [List.getElem_map, (List.getElem?_eq_some_iff.mp hr).2]
          rfl
        rw [hd] at hc
        have R := hrw r (List.mem_of_getElem? hr)
        have R2 := R.of s2
        refine ⟨r.t, _, rfl, R2.pair, rfl, _, _, rfl, _, _, rfl, rfl, ?_⟩
        -- check_new(look, self._shown)
        refine ⟨_, rfl, _, rfl, p, CT, dx, _, _, rfl, h2p, T.cl, T.nS, pf2_shown _ _, r.look, sd, kvs, acc.map (·.1), rfl, R2.name, h2s, hrs.keys, fun H4 s4 hn => ?_, fun e he => ?_⟩
        · obtain ⟨z, ez, hz, hza⟩ := chkNew_none hn
          -- _check_shown(shown, self.lamps)
          refine ⟨_, rfl, _, rfl, p, CT, dx, _, _, rfl, s4 _ _ h2p, T.cl, T.nL, pf2_lamps _ _, r.s, lt, r.xs, ls, rfl, Same.either s4 R2.seq, (R2.of s4).all, R.len, SqT.of (s4 _ _ h2l), fun H5 hsn s5 => ?_, fun e he => ?_⟩
          · -- self._shown[look] = _chosen_of(self.lamps, shown)
            have s45 : Same H3 H5 := s4.trans s5
            have hxs : r.xs = (r.xs.map strOf).map V.str := shown_strs hsn
            refine ⟨_, rfl, p, CT, dx, _, _, rfl, s45 _ _ h2p, T.cl, T.nL, pf2_lamps _ _, _, rfl, lt, r.s, ls, r.xs.map strOf, rfl, SqT.of (s45 _ _ h2l), (by rw [← hxs]; exact Same.either s45 R2.seq), ?_, fun H6 t s6 ht et => ?_⟩
            · have q := names_len hls
              simp at q
              omega
            · have s26 : Same H3 H6 := s45.trans s6
              refine ⟨_, rfl, p, CT, dx, _, _, rfl, s26 _ _ h2p, T.cl, T.nS, pf2_shown _ _, _, rfl, sd, _, rfl, (by rw [ez]; exact DPut.k (k := Sum.inr z) (s26 _ _ h2s) (by rw [hrs.length]; exact small1000 (by omega))), ?_⟩
              have hval : valV kvs (Sum.inr z) = none := by
                have q := isSome_valV (es := acc.map (·.1)) hrs.keys (z := z)
                rw [decide_eq_false hza] at q
                cases e : valV kvs (Sum.inr z) with
                | none => rfl
                | some u => rw [e] at q; cases q
              rw [putK_new _ hval]
              have tups : ∀ b xs, H6 b = some (.tup xs) → upd H6 sd (.dK (kvs ++ [(Sum.inr z, .ref t)])) b = some (.tup xs) := fun b xs e => by
                have nb : b ≠ sd := fun q => by rw [q, s26 _ _ h2s] at e; cases e
                rw [upd_ne nb]; exact e
              refine ⟨_, _, kvs ++ [(Sum.inr z, .ref t)], acc ++ [(z, chosen ls (r.xs.map strOf))], rfl, ?_, tups _ _ (s26 _ _ h2l), upd_same, ?_, fun b o e => ?_, ?_, ?_⟩
              · have np : p ≠ sd := nsp
                rw [upd_ne np]; exact s26 _ _ h2p
              · exact (hrs.of fun b xs e => tups b xs (s26 _ _ e)).snoc (tups _ _ et)
              · rw [upd_ne (ne_of_none e hsd0)]
                exact s26 _ _ (s2 _ _ e)
              · rw [← hc, initRows, hn, hsn, ez]
                rfl
              · rw [List.length_append]
                simp
                omega
          · have hce : initRows ls (rows.map RowIn.dat) [] = .error e := by rw [← hc, initRows, hn, he]
            exact Out.of (s2.trans s4) (kx e (by rw [hT, hce]))
        · have hce : initRows ls (rows.map RowIn.dat) [] = .error e := by rw [← hc, initRows, he]
          exact Out.of s2 (kx e (by rw [hT, hce]))
      · rintro σ H2 ⟨x, y, kvs, acc, rfl, h2p, h2l, h2s, hrs, s2, hc, hal⟩
        have hc' : initRows ls (rows.map RowIn.dat) [] = .ok acc := by
          rw [← hc, List.drop_eq_nil_of_le (by simp)]
          rfl
        -- self.looks = tuple(self._shown)
        refine ⟨_, rfl, p, CT, dx, _, _, rfl, h2p, T.cl, T.nS, pf2_shown _ _, sd, kvs, rfl, h2s, fun kt hkt => ?_⟩
        have ntp : p ≠ kt := ne_of_none h2p hkt
        refine ⟨_, rfl, p, CT, dx, _, rfl, (by rw [upd_ne ntp]; exact h2p), T.cl, T.nK, small _ (pf2_len _ _), ?_⟩
        refine k ls acc (by rw [hT, hc']) _ (keep0 (s2.trans (Same.upd_new hkt))) ⟨dx, lt, sd, kt, kvs, upd_same, ?_, ?_, ?_, ?_⟩
        · rw [upd_ne nltp, upd_ne (ne_of_none h2l hkt)]; exact h2l
        · rw [upd_ne nsp.symm, upd_ne (ne_of_none h2s hkt)]; exact h2s
        · have q : (kvs.map fun kv => kV kv.1) = (kvs.map (·.1)).map kV := by rw [List.map_map]; rfl
          rw [upd_ne ntp.symm, upd_same, q, hrs.keys, List.map_map]
          rfl
        · refine hrs.of fun b xs e => ?_
          have nb : b ≠ p := fun q => by rw [q, h2p] at e; cases e
          rw [upd_ne nb, upd_ne (ne_of_none e hkt)]; exact e
end
end Dl

/-! len(o) and o[k] by the class's own __len__ and __getitem__ -/
namespace Dl
open PySem PySem.Spec PyProof.Rows L2
section
variable {X : Cx} {CX : CXT} {k : Nat} {C f : Addr} {fd : FuncData} {ps : List Str} {sp : Sp} {E : XK}
theorem run_at {A : Around} {pins : List (Addr × Obj)} {σ : L2.St} {H : Hp} {s : Shared} {Q : VK} {us : List Value} {vs : List V} (hA : A.frames = X.A.frames) (F : FnOk X.prog X.w X.K X.mg X.base CX k f fd ps sp) (hr : Room k A)
    (hb : Binds X.K fd ps []) (hx : Passes CX X E) (I : Inv X pins σ H s) (r : Vals vs us) (h : sp vs H Q E) : wpAny (model X.prog X.w) A (call (.ref f) us) (EP X pins σ Q) X.xe s := by
  have e0 : Env0 X.prog X.w X.K X.mg X.base A X.stack s H := by
    have e := I.env0
    exact ⟨by rw [hA]; exact e.frames, e.mod, e.bs, e.bsz, e.funs, e.frf, e.hok, e.bare⟩
  have hl := F.len _ _ _ _ h
  refine wpAny_call (codeAny_mono (F.run A X.stack s H ⟨us, []⟩ us vs Q E hr e0 (by
    have := hb s us I.kIn (by rw [List.append_nil, ← r.length]; exact hl)
    simpa using this) r h) fun r s' hq => ?_)
  cases r with
  | error e => exact hx pins σ H s e s' I hq
  | ok fl =>
    cases fl with
    | ret u => exact I.after hq
    | next => exact False.elim hq
    | brk => exact False.elim hq
    | cont => exact False.elim hq
def rLenOwn (C : Addr) (sp : Sp) (E : XK) : List V → Hp → VK → Prop := fun xs H Q => ∃ a dx fs, xs = [.ref a] ∧ H a = some (.ins C dx fs) ∧ sp [.ref a] H (fun v H' => ∃ n : Nat, v = .int (n : Int) ∧ n ≤ 1000 ∧ Q (.int (n : Int)) H') E
theorem call_lenOwn (F : FnOk X.prog X.w X.K X.mg X.base CX k f fd ps sp) (hs : PySem.W.findIn X.K (.ref C) "__len__" = some (some (.ref f))) (hf : PySem.W.isFn X.K (.ref f) = true) (hr : Room (k + 1) X.A) (hb : Binds X.K fd ps []) (hx : Passes CX X E) :
    CallR X (.builtin "len") (rLenOwn C sp E) := by
  intro pins s σ H xs us Q I r h
  obtain ⟨a, dx, fs, rfl, ha, hsp⟩ := h
  obtain ⟨u, rfl, rx⟩ := vals1 r
  cases rx
  obtain ⟨mA, J, _⟩ := ins_get I.hok ha
  obtain ⟨od, J, _⟩ := J.look
  obtain ⟨m, hF⟩ := I.fr
  refine PySem.W.len_K hF I.ok.mod.kin J hs hf ?_
  refine wpAny_mono (run_at (A := X.A.in1) rfl F hr.in1 hb hx I (show Vals [V.ref a] [Value.ref a] from .cons rfl .nil) hsp) (fun v s' hv => ?_) fun _ _ y => y
  obtain ⟨z, H', I', rz, n, ez, hn, q⟩ := hv
  subst ez
  obtain ⟨t, rfl⟩ := rz
  exact ⟨⟨by omega, by omega⟩, ⟨.int n, H', I'.tok _, ⟨_, rfl⟩, q⟩⟩
def rIxOwn (C : Addr) (sp : Sp) (E : XK) : R2 := fun x y H Q => ∃ a dx fs, x = .ref a ∧ H a = some (.ins C dx fs) ∧ sp [.ref a, y] H Q E
theorem pe_ixOwn {a b : Expr} {ta tb : TE} {pos : Pos} (F : FnOk X.prog X.w X.K X.mg X.base CX k f fd ps sp) (hs : PySem.W.findIn X.K (.ref C) "__getitem__" = some (some (.ref f))) (hfn : PySem.W.fnIn X.K f = true) (hf : PySem.W.isFn X.K (.ref f) = true)
    (hr : Room (k + 1) X.A) (hb : Binds X.K fd ps []) (hx : Passes CX X E) (ha : PE X a ta) (hb' : PE X b tb)
    (hsl : ∀ v u, subscripted b true v u = runValue (.builtin "lifetime.subscript" ⟨[v, u], []⟩) := by intros; rfl) : PE X (.Subscript a b pos) (tOp (rIxOwn C sp E) ta tb) := by
  refine ⟨fun pins s σ H Q I h => ?_⟩
  refine Subscript_ (binT ha hb' I h fun v u s2 x y H2 I2 rx ry q => ?_)
  obtain ⟨p, dx, fs, rfl, hp, hsp⟩ := q
  cases rx
  obtain ⟨mA, J, _⟩ := ins_get I2.hok hp
  obtain ⟨od, J, _⟩ := J.look
  obtain ⟨m, hF⟩ := I2.fr
  exact PySem.W.sub_K hF I2.ok.mod.kin J hs hfn hf (run_at (A := X.A.in1) rfl F hr.in1 hb hx I2 (show Vals [V.ref p, y] [Value.ref p, u] from .cons rfl (.cons ry .nil)) hsp) (hsl _ _)
end
end Dl

namespace Dl
open PySem L2
/-! ### methods of a table -/
def spAllKnown (K : PySem.W.Frag) (C : Cs) : Sp := fun vs H Q E => ∃ (p q : Addr) (xs : List V) (es : List Str), vs = [.ref p, .ref q] ∧ SqT K H p xs ∧ (∀ v ∈ xs, NmOk H v) ∧ SqT K H q (es.map V.str) ∧
  ((xs.find? fun v => !knows v es) = none → Q .non H) ∧ ∀ v, (xs.find? fun v => !knows v es) = some v → Out1 C.unk "name" v H E
/-- what a method may lean on: a table that was made by the checks -/
structure TabOk (ls : List Str) (rs : List (Str × List Str)) : Prop where
  lnd : ls.Nodup
  lval : ∀ z ∈ ls, validN z = true
  lfew : ls.length ≤ 24
  knd : (rs.map (·.1)).Nodup
  kval : ∀ x ∈ rs, validN x.1 = true
  kfew : rs.length ≤ 24
  sub : ∀ x ∈ rs, x.2.Sublist ls
theorem RowsAt.val {H : Hp} {rs : List (Str × List Str)} {kvs : List (Key × V)} (h : RowsAt H rs kvs) : (rs.map (·.1)).Nodup → ∀ {x : Str × List Str}, x ∈ rs → ∃ a, valV kvs (Sum.inr x.1) = some (.ref a) ∧ H a = some (.tup (x.2.map V.str)) := by
  induction h with
  | nil => intro _ x hx; cases hx
  | @cons k sh a r kvs e h ih =>
    intro nd x hx
    rw [List.map_cons, List.nodup_cons] at nd
    rcases List.mem_cons.mp hx with rfl | hx
    · exact ⟨a, by simp [valV], e⟩
    · have ne : ¬ k = x.1 := fun q => nd.1 (by rw [q]; exact List.mem_map.mpr ⟨x, hx, rfl⟩)
      obtain ⟨b, h1, h2⟩ := ih nd.2 hx
      refine ⟨b, ?_, h2⟩
      unfold valV at h1 ⊢
      rw [List.find?_cons_of_neg (by simpa using ne)]
      exact h1
/-- a pair of rows() -/
structure RowT (H : Hp) (r : RowIn) : Prop where
  pair : H r.t = some (.tup [r.look, .ref r.s])
  tup : H r.s = some (.tup r.xs)
theorem RowT.of {H H' : Hp} {r : RowIn} (s : Same H H') (h : RowT H r) : RowT H' r := ⟨s _ _ h.pair, s _ _ h.tup⟩
def rdat (x : Str × List Str) : V × List V := (.str x.1, x.2.map V.str)
def spTRows (K : PySem.W.Frag) (CT : Addr) : Sp := fun vs H Q _ => ∃ (p : Addr) (ls : List Str) (rs : List (Str × List Str)), vs = [.ref p] ∧ TableAt CT H p ls rs ∧ TabOk ls rs ∧
  ∀ (H' : Hp) (l : Addr) (rows : List RowIn), Same H H' → H l = none → H' l = some (.lst (rows.map fun r => V.ref r.t)) → (∀ r ∈ rows, RowT H' r) → rows.map RowIn.dat = rs.map rdat → Q (.ref l) H'
section
variable {P : Program} {w : World} {K : PySem.W.Frag} {mg : Str → Option Value} {base : Heap} {C : Cs} {CT : Addr}
theorem scCheckAll : FnScope ["chosen", "names", "name"] ["chosen", "names"] (defScope sCheckAll) := ⟨rfl, rfl, rfl, by decide +kernel, rfl, by decide +kernel, by decide +kernel⟩
theorem ok_checkall {f : Addr} {fd : FuncData} (F : Fun K "check_all_known" "check_all_known" sCheckAll f fd) (gK : Dfn P w K mg base (L2.CX P w) 4 "check_known" ["name", "names"] (spKnown K C)) :
    FnOk P w K mg base (L2.CX P w) 5 f fd ["chosen", "names"] (spAllKnown K C) := by
  obtain ⟨fK, dK, mK, kK, bK, GK⟩ := gK
  refine F.okX scCheckAll (fun vs H Q E h => ?_) (fun cdv A outer s H vs Q E hr h => ?_)
  · obtain ⟨a, b, xs, es, rfl, _⟩ := h
    rfl
  · obtain ⟨p, q, xs, es, rfl, hp, hx, hq, k, kx⟩ := h
    have hr4 : Room 4 _ := hr
    refine ⟨_, (pss_one (ps_for (passes_of rfl) rfl (pi_tup (pv 0)) (pg_name (i := 2) scCheckAll.nd rfl (Or.inl rfl)) (pss_one (ps_expr (pe_call GK hr4 (by rfl) mK kK bK .nil (passes_call (takes_of rfl rfl rfl rfl) (fun _ _ _ _ h => h)) (pa_cons (pv 2) (pa_cons (pv 1) pa_nil))))))), ?_⟩
    refine ⟨_, rfl, p, rfl, ⟨_, hp⟩, for_it (walk_tup (K := K) (a := p) (xs := xs)) (fun i σ H' => H' = H ∧ (∃ x, σ = [some (.ref p), some (.ref q), x]) ∧ (xs.find? fun v => !knows v es) = ((xs.drop i).find? fun v => !knows v es))
      ⟨rfl, ⟨none, rfl⟩, rfl⟩ (fun i σ H' _ ⟨e, _⟩ => by rw [e]; exact hp) ?_ ?_⟩
    · rintro i v σ H1 H2 hi ⟨rfl, ⟨x, rfl⟩, hf⟩ ⟨rfl, hv⟩
      have hd : xs.drop i = v :: xs.drop (i + 1) := by
        rw [List.drop_eq_getElem_cons hi]
        have q := (List.getElem?_eq_some_iff.mp hv).2
        rw [q]
      rw [hd] at hf
      refine ⟨_, rfl, _, rfl, v, q, es, rfl, hx v (List.mem_of_getElem? hv), hq, fun hk => ?_, fun hk => ?_⟩
      · refine ⟨rfl, ⟨_, rfl⟩, ?_⟩
        rw [hf, List.find?_cons_of_neg (by rw [hk]; decide)]
      · refine kx v ?_
        rw [hf, List.find?_cons_of_pos (by rw [hk]; decide)]
    · rintro σ H1 ⟨rfl, ⟨x, rfl⟩, hf⟩
      rw [List.drop_length] at hf
      exact k hf
theorem scTRows : FnScope ["self", "look"] ["self"] (defScope sTableRows) := ⟨rfl, rfl, rfl, by decide +kernel, rfl, by decide +kernel, by decide +kernel⟩
theorem ok_trows {f : Addr} {fd : FuncData} (F : Fun K "rows" "Table.rows" sTableRows f fd) (cl : Cls K CT) (nK : NoAttr K CT "looks") (nS : NoAttr K CT "_shown") : FnOk P w K mg base CX0 1 f fd ["self"] (spTRows K CT) := by
  refine F.ok scTRows (fun vs H Q E h => ?_) (fun cdv A outer s H vs Q E hr h => ?_)
  · obtain ⟨a, ls, rs, rfl, _⟩ := h
    rfl
  · obtain ⟨p, ls, rs, rfl, ⟨dx, lt, sd, kt, kvs, hp, hlt, hsd, hkt, hrs⟩, ok, k⟩ := h
    refine ⟨_, (pss_one (ps_ret (pe_lc (own := [("look", 1)]) (g := gName 1) (tt := tYes) (te := tTup (tCons (tVar 1) (tCons (tDGet (tFld K (tVar 0) "_shown") (tVar 1)) tNil))) rfl scTRows.nd (pi_tup (pe_fld (pv 0) rfl)) (blkOk_by (N := ["self", "look"]) (sc := defScope sTableRows) (by decide +kernel)) (fun _ _ _ _ _ => (pg_name (i := 1) scTRows.nd rfl (Or.inl rfl))) (fun _ _ _ _ _ => pts_nil)
      (fun _ _ _ _ _ => (pe_tup (pa_cons (pv 1) (pa_cons (pe_dget (hu_of hr) (pe_fld (pv 0) rfl) (pv 1) (fun _ _ => rfl)) pa_nil))))))), ?_⟩
    refine ⟨_, rfl, p, CT, dx, _, _, rfl, hp, cl, nK, pf3_looks _ _ _, kt, rfl, ⟨_, SqT.of hkt⟩, fun D hD => lc_it (walk_tup (K := K) (a := kt) (xs := (rs.map (·.1)).map V.str)) (fun i H' => ∃ rows : List RowIn, Same H H' ∧ H' D = some (.lst (rows.map fun r => V.ref r.t)) ∧ (∀ r ∈ rows, RowT H' r) ∧ rows.map RowIn.dat = (rs.take i).map rdat)
      ⟨[], Same.upd_new hD, upd_same, fun r hr => absurd hr (by simp), rfl⟩ (fun i H' _ ⟨_, s1, _⟩ => SqT.of (s1 _ _ hkt)) ?_ ?_⟩
    · rintro i v H1 H2 hi ⟨rows, s1, hD1, hrt, hdat⟩ ⟨rfl, hv⟩
      have hv2 : ((rs.map (·.1)).map V.str)[i]? = some v := hv
      rw [List.getElem?_map, List.getElem?_map] at hv2
      cases hri : rs[i]? with
      | none => rw [hri] at hv2; cases hv2
      | some x =>
      rw [hri] at hv2
      obtain rfl : V.str x.1 = v := Option.some.inj hv2
      obtain ⟨a, hval, ha⟩ := hrs.val ok.knd (List.mem_of_getElem? hri)
      have hsd1 := s1 _ _ hsd
      have dg : DGet H2 sd (kV (Sum.inr x.1)) (some (.ref a)) := by rw [← hval]; exact DGet.k hsd1
      have hlen : rows.length ≤ 24 := by
        have q := congrArg List.length hdat
        rw [List.length_map, List.length_map, List.length_take] at q
        have := ok.kfew
        omega
      refine ⟨rfl, _, rfl, _, rfl, p, CT, dx, _, _, rfl, s1 _ _ hp, cl, nS, pf3_shown _ _ _, _, rfl, sd, _, rfl, dg, by show 2 ≤ sizeLine; decide, fun t ht => ?_⟩
      have ntD : D ≠ t := ne_of_none hD1 ht
      refine ⟨_, by rw [upd_ne ntD]; exact hD1, by rw [List.length_map]; exact small1000 (by omega), rows ++ [⟨t, .str x.1, a, x.2.map V.str⟩], fun c o h => ?_, by rw [upd_same, List.map_append]; rfl, fun r hr => ?_, ?_⟩
      · rw [upd_ne (ne_of_none h hD), upd_ne (ne_of_none (s1 _ _ h) ht)]
        exact s1 _ _ h
      · have keep : ∀ {c : Addr} {ys : List V}, H2 c = some (.tup ys) → upd (upd H2 t (.tup [.str x.1, .ref a])) D (.lst ((rows.map fun r => V.ref r.t) ++ [.ref t])) c = some (.tup ys) := fun {c ys} h => by
          have nD : c ≠ D := fun q => by rw [q, hD1] at h; cases h
          rw [upd_ne nD, upd_ne (ne_of_none h ht)]
          exact h
        rcases List.mem_append.mp hr with h | h
        · exact ⟨keep (hrt r h).pair, keep (hrt r h).tup⟩
        · obtain rfl := List.mem_singleton.mp h
          exact ⟨by rw [upd_ne ntD.symm, upd_same], keep (s1 _ _ ha)⟩
      · have e : rs.take (i + 1) = rs.take i ++ [x] := by rw [List.take_succ, hri]; rfl
        rw [List.map_append, hdat, e, List.map_append]
        rfl
    · rintro H1 ⟨rows, s1, hD1, hrt, hdat⟩
      rw [List.length_map, List.length_map, List.take_length] at hdat
      exact k H1 D rows s1 hD hD1 hrt hdat
end
end Dl

/-! C(e, ..) in a try's body: what the class's __init__ lets out is wished for at the caller's slots; lists of texts as data -/
namespace Dl
open PySem PySem.Spec PyProof.Rows L2
def tMakeS (C : Addr) (sp : Sp) (E : L2.St → XK) (t : TA) : TE := fun σ H Q => t σ H fun vs H1 =>
  ∀ x dx, H1 x = none → H1 dx = none → dx ≠ x → sp (.ref x :: vs) (upd (upd H1 dx (.own x)) x (.ins C dx [])) (fun v H2 => v = .non ∧ Q (.ref x) H2) (E σ)
theorem make_slots {X : Cx} {CX : CXT} {k : Nat} {f C : Addr} {fd : FuncData} {ps : List Str} {sp : Sp} {E : XK} {σ : L2.St} {pins : List (Addr × Obj)} {H : Hp} {s : Shared} {Q : VK} {us : List Value} {vs : List V}
    (M : Mk X.K C f) (F : FnOk X.prog X.w X.K X.mg X.base CX k f fd ps sp) (hr : Room (k + 1) X.A) (hb : Binds X.K fd ps []) (hx : PassesAt CX X σ E) (I : Inv X pins σ H s) (r : Vals vs us)
    (h : ∀ x dx, H x = none → H dx = none → dx ≠ x → sp (.ref x :: vs) (upd (upd H dx (.own x)) x (.ins C dx [])) (fun v H2 => v = .non ∧ Q (.ref x) H2) E) :
    wpAny (model X.prog X.w) X.A (call (.ref C) us) (EP X pins σ Q) X.xe s := by
  have at0 : H s.heap.objs.size = none := I.hok.fresh (Nat.le_refl _)
  have at1 : H (s.heap.objs.size + 1) = none := I.hok.fresh (Nat.le_succ _)
  have want := h _ _ at1 at0 (Nat.ne_of_lt (Nat.lt_succ_self _))
  have J := Inv.made (C := C) I
  have rv : Vals (V.ref (s.heap.objs.size + 1) :: vs) (Value.ref (s.heap.objs.size + 1) :: us) := .cons rfl r
  have len : (Value.ref (s.heap.objs.size + 1) :: us).length = ps.length := by rw [← rv.length]; exact F.len _ _ _ _ want
  have bind := hb _ (Value.ref (s.heap.objs.size + 1) :: us) J.kIn (by rw [List.append_nil]; exact len)
  rw [List.append_nil] at bind
  have body := F.run _ X.stack _ _ ⟨Value.ref (s.heap.objs.size + 1) :: us, []⟩ _ _ _ E (hr.make C us []) (J.env0.make C us []) bind rv want
  apply wpAny_call
  apply make_map (f := f) I.kIn M.makes M.init (beq_iff_eq.mp M.fn)
  apply codeAny_mono body
  intro out s2 hout
  match out, hout with
  | .error er, hout => exact hx pins _ _ er s2 J hout
  | .ok (.ret u), hout =>
    obtain ⟨v, H2, J2, rel, ev, q⟩ := J.after hout
    cases ev
    exact ⟨rel, V.ref (s.heap.objs.size + 1), H2, J2, rfl, q⟩
theorem pe_makeS {X : Cx} {CX : CXT} {k : Nat} {f C : Addr} {fd : FuncData} {ps : List Str} {sp : Sp} {E : L2.St → XK} {x : Str} {p pos : Pos} {e : Expr} {es : List Expr} {t : TA}
    (M : Mk X.K C f) (F : FnOk X.prog X.w X.K X.mg X.base CX k f fd ps sp) (hr : Room (k + 1) X.A) (hg : Gl X x) (hm : X.mg x = some (.ref C)) (hb : Binds X.K fd ps []) (hx : ∀ σ, PassesAt CX X σ (E σ)) (ha : PA X (e :: es) t)
    (hdb : (x == ("__debug__" : Str)) = false := by decide) (he : starEach (e :: es) X.env = (false, eval e X.env) :: starEach es X.env := by rfl) (hpl : (backTo pos (starEach es X.env)).any (·.1) = false := by rfl) :
    PE X (.Call (.Name x p) (e :: es) [] pos) (tMakeS C sp E t) := by
  constructor
  intro pins s σ H Q I h
  apply wpAny_Call_Name_kw
  apply ld_glob I hg hm _ hdb
  apply PySem.W.callWith_K (h₀ := X.base) I.ok.mod.kin M.kp _ he hpl
  apply thn (ha.run pos pins s σ H _ I h)
  rintro us s1 ⟨vs, H1, I1, r, q⟩
  exact ⟨I1.kIn, make_slots M F hr hb (hx σ) I1 r q⟩
/-! ### lists and tuples of texts as data -/
theorem canAll_strs : ∀ {zs : List Str}, (∀ z ∈ zs, PyData.canLay0 (.str z) = true) → PyData.canLayAll0 (zs.map PyData.str) = true
  | [], _ => by simp [PyData.canLayAll0]
  | z :: r, h => by
    rw [List.map_cons, PyData.canLayAll0, Bool.and_eq_true]
    exact ⟨h z (List.mem_cons_self ..), canAll_strs fun y hy => h y (List.mem_cons_of_mem _ hy)⟩
theorem depthAll_strs : ∀ zs : List Str, PyData.depthAll (zs.map PyData.str) = 0
  | [] => by simp [PyData.depthAll]
  | z :: r => by rw [List.map_cons, PyData.depthAll, depthAll_strs r]; simp [PyData.depth]
theorem shaped_strs {zs : List Str} (h : ∀ z ∈ zs, PyData.canLay0 (.str z) = true) : SeqAt.shaped (.list (zs.map PyData.str)) = true := by
  unfold SeqAt.shaped
  rw [Bool.and_eq_true, PyData.canLay0, PyData.depth, depthAll_strs]
  exact ⟨canAll_strs h, by decide⟩
theorem dpAll_strs {K : PySem.W.Frag} {H : Hp} : ∀ zs : List Str, DpAll K H (zs.map V.str) (zs.map PyData.str)
  | [] => .nil
  | z :: r => .cons (.str z) (dpAll_strs r)
theorem eqvAll_strs : ∀ zs ys : List Str, PyData.eqvAll (zs.map PyData.str) (ys.map PyData.str) = decide (zs = ys)
  | [], [] => by simp [PyData.eqvAll]
  | [], _ :: _ => by simp [PyData.eqvAll]
  | _ :: _, [] => by simp [PyData.eqvAll]
  | z :: r, y :: q => by
    rw [List.map_cons, List.map_cons, PyData.eqvAll, eqvAll_strs r q, PyData.eqv]
    by_cases h1 : z = y <;> by_cases h2 : r = q <;> simp [h1, h2]
end Dl

namespace Dl
open PySem PySem.Spec PyProof.Rows L2
/-! ### the drawn names: one to three letters, and the number of the names before where it was there -/
def LT : Str := "abcdefghijklmnopqrstuvwxyz"
def isLet (c : Nat) : Prop := 97 ≤ c ∧ c ≤ 122
def dg (n : Nat) : List Nat := (Str.ofString (toString (n : Int))).cps.toList
theorem lt_facts : ∀ c ∈ LT.cps.toList, 97 ≤ c ∧ c ≤ 122 := by decide +kernel
theorem lt_len : LT.cps.toList.length = 26 := by decide +kernel
theorem dg_facts : ∀ k, k < 25 → dg k ≠ [] ∧ (dg k).length ≤ 2 ∧ ∀ c ∈ dg k, ¬ (97 ≤ c ∧ c ≤ 122) ∧ c ∈ SG.cps.toList ∧ c < 1114112 := by decide +kernel
theorem dg_inj : ∀ j, j < 25 → ∀ k, k < 25 → dg j = dg k → j = k := by decide +kernel
theorem let_sg : ∀ c, c < 123 → 97 ≤ c → c ∈ SG.cps.toList ∧ c < 1114112 := by decide +kernel
theorem sg_small' : ∀ c ∈ SG.cps.toList, c < 1114112 := by decide +kernel
theorem nil_codes : ("" : Str).cps.toList = [] := by decide +kernel
/-- the name that was drawn as number i -/
structure NameAt (i : Nat) (z : Str) : Prop where
  ex : ∃ l : List Nat, l ≠ [] ∧ l.length ≤ 3 ∧ (∀ c ∈ l, isLet c) ∧ (z.cps.toList = l ∨ z.cps.toList = l ++ dg i)
structure NamesOk (zs : List Str) : Prop where
  at_ : ∀ i z, zs[i]? = some z → NameAt i z
  nd : zs.Nodup
  few : zs.length ≤ 24
theorem codes_ext {a b : Str} (h : a.cps.toList = b.cps.toList) : a = b := by
  cases a; cases b
  congr
  exact Array.ext' h
theorem let_dg {l l' : List Nat} {j k : Nat} (hj : j < 25) (hk : k < 25) (hl : ∀ c ∈ l, isLet c) (hl' : ∀ c ∈ l', isLet c) (h : l' ++ dg j = l ++ dg k) : j = k := by
  have tw : ∀ (m d : List Nat), (∀ c ∈ m, isLet c) → (∀ c ∈ d, ¬ isLet c) → (m ++ d).dropWhile (fun c => decide (97 ≤ c ∧ c ≤ 122)) = d := by
    intro m
    induction m with
    | nil =>
      intro d _ hd
      cases d with
      | nil => rfl
      | cons a r =>
        have q : ¬ (97 ≤ a ∧ a ≤ 122) := hd a (List.mem_cons_self ..)
        simp only [List.nil_append, List.dropWhile]
        rw [decide_eq_false q]
    | cons a r ih =>
      intro d hm hd
      have q : 97 ≤ a ∧ a ≤ 122 := hm a (List.mem_cons_self ..)
      rw [List.cons_append, List.dropWhile, decide_eq_true q]
      exact ih d (fun c hc => hm c (List.mem_cons_of_mem _ hc)) hd
  have e := congrArg (List.dropWhile fun c => decide (97 ≤ c ∧ c ≤ 122)) h
  rw [tw l' (dg j) hl' fun c hc => ((dg_facts j hj).2.2 c hc).1, tw l (dg k) hl fun c hc => ((dg_facts k hk).2.2 c hc).1] at e
  exact dg_inj j hj k hk e
theorem fresh_tail {zs : List Str} {l : List Nat} {z : Str} (ok : NamesOk zs) (h23 : zs.length ≤ 23) (hl : ∀ c ∈ l, isLet c) (hz : z.cps.toList = l ++ dg zs.length) : z ∉ zs := by
  intro hm
  obtain ⟨i, hi⟩ := List.getElem?_of_mem hm
  have hlt : i < zs.length := (List.getElem?_eq_some_iff.mp hi).1
  obtain ⟨l', _, _, hl', e⟩ := (ok.at_ i z hi).ex
  rcases e with e | e
  · rw [hz] at e
    have d := dg_facts zs.length (by omega)
    cases hd : dg zs.length with
    | nil => exact d.1 hd
    | cons c r =>
      have m1 : c ∈ l' := by rw [← e, hd]; simp
      have m2 : c ∈ dg zs.length := by rw [hd]; simp
      exact (d.2.2 c m2).1 (hl' c m1)
  · rw [hz] at e
    have := let_dg (by omega) (by omega) hl hl' e.symm
    omega
theorem NameAt.sg {i : Nat} {z : Str} (h : NameAt i z) (hi : i < 25) : (∀ c ∈ z.cps.toList, c ∈ SG.cps.toList) ∧ 1 ≤ z.length ∧ z.length ≤ 5 := by
  obtain ⟨l, h1, h2, h3, h4⟩ := h.ex
  have zl : z.length = z.cps.toList.length := by simp [Str.length]
  have l1 : 1 ≤ l.length := by cases l with | nil => exact absurd rfl h1 | cons _ _ => simp
  have d := dg_facts i hi
  rcases h4 with e | e
  · refine ⟨fun c hc => ?_, by rw [zl, e]; exact l1, by rw [zl, e]; omega⟩
    rw [e] at hc
    exact (let_sg c (by have := (h3 c hc).2; omega) (h3 c hc).1).1
  · refine ⟨fun c hc => ?_, by rw [zl, e, List.length_append]; omega, by rw [zl, e, List.length_append]; omega⟩
    rw [e] at hc
    rcases List.mem_append.mp hc with hc | hc
    · exact (let_sg c (by have := (h3 c hc).2; omega) (h3 c hc).1).1
    · exact (d.2.2 c hc).2.1
theorem NameAt.valid {i : Nat} {z : Str} (h : NameAt i z) (hi : i < 25) : validN z = true := by
  obtain ⟨h1, h2, h3⟩ := h.sg hi
  unfold validN
  rw [decide_eq_true h2, decide_eq_true (show z.length ≤ 12 by omega), List.all_eq_true.mpr fun c hc => decide_eq_true (h1 c hc)]
  rfl
theorem NamesOk.valid {zs : List Str} (ok : NamesOk zs) {z : Str} (hz : z ∈ zs) : validN z = true := by
  obtain ⟨i, hi⟩ := List.getElem?_of_mem hz
  have hlt : i < zs.length := (List.getElem?_eq_some_iff.mp hi).1
  exact (ok.at_ i z hi).valid (by have := ok.few; omega)
theorem valid_small {z : Str} (h : validN z = true) : z.length ≤ 12 ∧ (∀ c ∈ z.cps.toList, c < 1114112) := by
  unfold validN at h
  simp only [Bool.and_eq_true, decide_eq_true_eq] at h
  exact ⟨h.2.1, fun c hc => sg_small' c (of_decide_eq_true (List.all_eq_true.mp h.2.2 c hc))⟩
/-- everything but the bag at b stands -/
def SameB (b : Addr) (H H' : Hp) : Prop := ∀ c o, c ≠ b → H c = some o → H' c = some o
theorem SameB.refl (b : Addr) (H : Hp) : SameB b H H := fun _ _ _ h => h
theorem SameB.trans {b : Addr} {H H1 H2 : Hp} (s : SameB b H H1) (t : SameB b H1 H2) : SameB b H H2 := fun c o n h => t c o n (s c o n h)
theorem SameB.upd {b : Addr} {H : Hp} {o : HO} : SameB b H (upd H b o) := fun c u n h => by rw [upd_ne n]; exact h
theorem SameB.of {b : Addr} {H H' : Hp} (s : Same H H') : SameB b H H' := fun c o _ h => s c o h
theorem SameB.free {b : Addr} {H H' : Hp} (s : SameB b H H') {c : Addr} (n : c ≠ b) (h : H' c = none) : H c = none := by
  cases e : H c with
  | none => rfl
  | some o => rw [s c o n e] at h; cases h
theorem upd_none {H : Hp} {b c : Addr} {o : HO} (h : upd H b o c = none) : H c = none ∧ c ≠ b := by
  by_cases e : c = b
  · subst e; rw [upd_same] at h; cases h
  · rw [upd_ne e] at h; exact ⟨h, e⟩
structure TxtM (mg : Str → Option Value) : Prop where
  range : mg "range" = none
  len : mg "len" = none
  str : mg "str" = none
def spName : Sp := fun vs H Q _ => ∃ (b u : Addr) (L : List Int) (zs : List Str), vs = [.ref b, .ref u] ∧ H b = some (.lst (L.map V.int)) ∧ BagOk L ∧ u ≠ b ∧ H u = some (.lst (zs.map V.str)) ∧ NamesOk zs ∧ zs.length ≤ 23 ∧
  ∀ (L' : List Int) (z : Str), BagOk L' → NameAt zs.length z → z ∉ zs → Q (.str z) (upd H b (.lst (L'.map V.int)))
def spNames : Sp := fun vs H Q _ => ∃ (b : Addr) (L : List Int) (n : Int), vs = [.ref b, .int n] ∧ H b = some (.lst (L.map V.int)) ∧ BagOk L ∧ 0 ≤ n ∧ n ≤ 24 ∧
  ∀ (H' : Hp) (u : Addr) (L' : List Int) (zs : List Str), SameB b H H' → H u = none → H' u = some (.lst (zs.map V.str)) → H' b = some (.lst (L'.map V.int)) → BagOk L' → NamesOk zs → zs.length = n.toNat → Q (.ref u) H'
theorem cat_codes (a b : Str) : (a ++ b).cps.toList = a.cps.toList ++ b.cps.toList := by
  show (a.cps ++ b.cps).toList = _
  simp
theorem cat_len (a b : Str) : (a ++ b).length = a.length + b.length := by
  show (a.cps ++ b.cps).size = _
  rw [Array.size_append]
  rfl
section
variable {P : Program} {w : World} {K : PySem.W.Frag} {mg : Str → Option Value} {base : Heap}
theorem scName : FnScope ["_law_bag_here", "_law_used", "_law_letters", "_law_name_here", "_law_k"] ["_law_bag_here", "_law_used"] (defScope sLawName) := ⟨rfl, rfl, rfl, by decide +kernel, rfl, by decide +kernel, by decide +kernel⟩
theorem ok_name {f : Addr} {fd : FuncData} (F : Fun K "_law_name" "_law_name" sLawName f fd) (T : TxtM mg) (gT : Dfn P w K mg base CX0 1 "_law_take" ["_law_bag_here", "_law_size"] spTake) :
    FnOk P w K mg base CX0 2 f fd ["_law_bag_here", "_law_used"] spName := by
  obtain ⟨fT, dT, mT, kT, bT, GT⟩ := gT
  refine F.ok scName (fun vs H Q E h => ?_) (fun cdv A outer s H vs Q E hr h => ?_)
  · obtain ⟨a, u, L, zs, rfl, _⟩ := h
    rfl
  · obtain ⟨b, u, L, zs, rfl, hb, hok, hub, hu, ok, hlen, k⟩ := h
    have hr1 : Room 1 _ := hr
    refine ⟨_, (pss_cons (ps_set (i := 2) scName.nd rfl (Or.inl rfl) pe_str)
        (pss_cons (ps_set (i := 3) scName.nd rfl (Or.inl rfl) pe_str)
        (pss_cons (ps_for PassesOwn.never rfl (pi_range1 (by rfl) T.range (pa_cons (pe_op op_add pe_int (pe_call GT hr1 (by rfl) mT kT bT .nil pass0 (pa_cons (pv 0) (pa_cons pe_int pa_nil)))) pa_nil)) (pg_name (i := 4) scName.nd rfl (Or.inl rfl)) (pss_one (ps_set (i := 3) scName.nd rfl (Or.inl rfl) (pe_op op_add_str (pv 3) (pe_ix ix_str (pv 2) (pe_call GT hr1 (by rfl) mT kT bT .nil pass0 (pa_cons (pv 0) (pa_cons pe_int pa_nil))) (fun _ _ => rfl))))))
        (pss_cons (ps_if (pt_cmpR op_in_seq (pv 3) (pv 1) (by rfl)) (pss_one (ps_set (i := 3) scName.nd rfl (Or.inl rfl) (pe_op op_add_str (pv 3) (pe_callTy call_str_int (by rfl) T.str (by decide +kernel) (pa_cons (pe_callB call_len_seq (by rfl) T.len PySem.boot_len (pa_cons (pv 1) pa_nil)) pa_nil))))) pss_nil)
        (pss_one (ps_ret (pv 3))))))), ?_⟩
    refine ⟨_, rfl, b, L, 3, rfl, hb, hok, by decide, by decide, fun L1 r ok1 r0 r1 => ⟨_, _, rfl, rfl, _, rfl, by omega, by omega, for_range (n := (1 + r).toNat) (lo := 0)
      (fun i σ H' => ∃ (z : Str) (x : Option V) (L2 : List Int), σ = [some (.ref b), some (.ref u), some (.str LT), some (.str z), x] ∧ H' = upd H b (.lst (L2.map V.int)) ∧ BagOk L2 ∧ z.cps.toList.length = i ∧ ∀ c ∈ z.cps.toList, isLet c)
      ⟨_, none, L1, rfl, rfl, ok1, by decide +kernel, fun c hc => absurd hc (by rw [nil_codes]; exact List.not_mem_nil)⟩ ?_ ?_⟩⟩
    · rintro i σ H2 hi ⟨z, x, L2, rfl, rfl, ok2, hz, hzc⟩
      refine ⟨_, rfl, _, rfl, _, rfl, b, L2, 26, rfl, upd_same, ok2, by decide, by decide, fun L3 q ok3 q0 q1 => ?_⟩
      have hq3 : q.toNat < LT.cps.toList.length := by rw [lt_len]; omega
      refine ⟨LT, q, LT.cps.toList[q.toNat], rfl, rfl, by decide +kernel, ?_, ?_⟩
      · have e := atI_nat (xs := LT.cps.toList) (j := q.toNat) (List.getElem?_eq_getElem hq3)
        rw [Int.toNat_of_nonneg q0] at e
        exact e
      · have ez : z.length = i := hz
        refine ⟨z, _, rfl, rfl, ?_, ?_⟩
        · rw [ez]
          exact Nat.le_of_lt (small1000 (by show i + 1 ≤ 1000; omega))
        · refine ⟨_, _, L3, rfl, upd_upd, ok3, ?_, ?_⟩
          · rw [cat_codes, List.length_append, hz]
            rfl
          · intro c hc
            rw [cat_codes] at hc
            rcases List.mem_append.mp hc with h | h
            · exact hzc c h
            · obtain rfl : c = LT.cps.toList[q.toNat] := by simpa using h
              exact lt_facts _ (List.getElem_mem hq3)
    · rintro σ H2 ⟨z, x, L2, rfl, rfl, ok2, hz, hzc⟩
      have zl : z.length = (1 + r).toNat := hz
      have hne : z.cps.toList ≠ [] := by
        intro e
        rw [e] at hz
        simp at hz
        omega
      have at0 : NameAt zs.length z := ⟨z.cps.toList, hne, by omega, hzc, .inl rfl⟩
      refine ⟨_, rfl, _, rfl, u, _, rfl, .inl (SqL.of (by rw [upd_ne hub]; exact hu)), rfl, flat_strs zs, _, rfl, ?_⟩
      show if (inV (.str z) (zs.map V.str)) = true then _ else _
      rw [inV_str]
      by_cases hm : z ∈ zs
      · rw [decide_eq_true hm]
        refine iteT ⟨_, rfl, _, rfl, u, _, rfl, .inl (SqL.of (by rw [upd_ne hub]; exact hu)), _, rfl, ?_, z, _, rfl, rfl, ?_, _, rfl, ?_⟩
        · rw [List.length_map]
          have : ((zs.length : Nat) : Int).natAbs = zs.length := by simp
          rw [this]
          exact Nat.lt_of_le_of_lt (Nat.log2_le_self _) (by omega)
        · have d := (dg_facts zs.length (by omega)).2.1
          have e : (Str.ofString (toString ((((zs.map V.str).length : Nat) : Int)))).length = (dg zs.length).length := by
            rw [List.length_map]
            simp [dg, Str.length]
          show z.length + (Str.ofString (toString ((((zs.map V.str).length : Nat) : Int)))).length ≤ sizeLine
          rw [e, zl]
          exact Nat.le_of_lt (small1000 (by omega))
        · have ez : (z ++ (Str.ofString (toString ((((zs.map V.str).length : Nat) : Int))))).cps.toList = z.cps.toList ++ dg zs.length := by
            rw [cat_codes, List.length_map]
            rfl
          exact k L2 _ ok2 ⟨z.cps.toList, hne, by omega, hzc, .inr ez⟩ (fresh_tail ok hlen hzc ez)
      · rw [decide_eq_false hm]
        exact iteF ⟨_, rfl, k L2 z ok2 at0 hm⟩
theorem scNames : FnScope ["_law_bag_here", "_law_count", "_law_names_here", "_law_k"] ["_law_bag_here", "_law_count"] (defScope sLawNames) := ⟨rfl, rfl, rfl, by decide +kernel, rfl, by decide +kernel, by decide +kernel⟩
theorem ok_names {f : Addr} {fd : FuncData} (F : Fun K "_law_names" "_law_names" sLawNames f fd) (T : TxtM mg) (gN : Dfn P w K mg base CX0 2 "_law_name" ["_law_bag_here", "_law_used"] spName) :
    FnOk P w K mg base CX0 3 f fd ["_law_bag_here", "_law_count"] spNames := by
  obtain ⟨fNm, dNm, mNm, kNm, bNm, GNm⟩ := gN
  refine F.ok scNames (fun vs H Q E h => ?_) (fun cdv A outer s H vs Q E hr h => ?_)
  · obtain ⟨a, L, n, rfl, _⟩ := h
    rfl
  · obtain ⟨b, L, n, rfl, hb, hok, hn0, hn1, k⟩ := h
    have hr2 : Room 2 _ := hr
    refine ⟨_, (pss_cons (ps_set (i := 2) scNames.nd rfl (Or.inl rfl) (pe_lst pa_nil))
        (pss_cons (ps_for PassesOwn.never rfl (pi_range1 (by rfl) T.range (pa_cons (pv 1) pa_nil)) (pg_name (i := 3) scNames.nd rfl (Or.inl rfl)) (pss_one (ps_expr (pe_bm PySem.F.plainAttrs_list PySem.F.slot_list_append PySem.F.type_list_append mt_append (pv 2) (pa_cons (pe_call GNm hr2 (by rfl) mNm kNm bNm .nil pass0 (pa_cons (pv 0) (pa_cons (pv 2) pa_nil))) pa_nil)))))
        (pss_one (ps_ret (pv 2))))), ?_⟩
    refine ⟨Nat.zero_le _, fun u hu => ?_⟩
    have nub : u ≠ b := fun e => by rw [e, hb] at hu; cases hu
    refine ⟨_, rfl, _, rfl, by omega, by omega, for_range (n := n.toNat) (lo := 0)
      (fun i σ H' => ∃ (zs : List Str) (x : Option V) (L2 : List Int), σ = [some (.ref b), some (.int n), some (.ref u), x] ∧ SameB b H H' ∧ H' b = some (.lst (L2.map V.int)) ∧ BagOk L2 ∧ H' u = some (.lst (zs.map V.str)) ∧ NamesOk zs ∧ zs.length = i)
      ⟨[], none, L, rfl, SameB.of (Same.upd_new hu), by rw [upd_ne nub.symm]; exact hb, hok, upd_same, ⟨fun i z h => by simp at h, by simp, by simp⟩, rfl⟩ ?_ ?_⟩
    · rintro i σ H2 hi ⟨zs, x, L2, rfl, s2, hb2, ok2, hu2, okz, hz⟩
      refine ⟨_, rfl, .inl ⟨rfl, _, SqL.of hu2⟩, _, rfl, _, rfl, b, u, L2, zs, rfl, hb2, ok2, nub, hu2, okz, by omega, fun L3 z ok3 hat hnz => ?_⟩
      refine ⟨u, _, _, rfl, rfl, by rw [upd_ne nub]; exact hu2, ?_, ?_⟩
      · rw [List.length_map]
        exact small1000 (by omega)
      · refine ⟨zs ++ [z], _, L3, rfl, fun c o n h => ?_, ?_, ok3, ?_, ⟨fun j y h => ?_, ?_, ?_⟩, ?_⟩
        · have ncu : c ≠ u := ne_of_none h hu
          rw [upd_ne ncu, upd_ne n]
          exact s2 c o n h
        · rw [upd_ne nub.symm, upd_same]
        · rw [upd_same, List.map_append]
          rfl
        · by_cases hj : j < zs.length
          · rw [List.getElem?_append_left hj] at h
            exact okz.at_ j y h
          · rw [List.getElem?_append_right (by omega)] at h
            have hj0 : j - zs.length = 0 := by
              have := (List.getElem?_eq_some_iff.mp h).1
              simp at this
              omega
            rw [hj0] at h
            obtain rfl : z = y := by simpa using h
            have : j = zs.length := by omega
            rw [this]
            exact hat
        · rw [List.nodup_append]
          refine ⟨okz.nd, by simp, fun a ha c hc => ?_⟩
          obtain rfl := List.mem_singleton.mp hc
          exact fun e => hnz (e ▸ ha)
        · rw [List.length_append]
          simp
          omega
        · rw [List.length_append, hz]
          rfl
    · rintro σ H2 ⟨zs, x, L2, rfl, s2, hb2, ok2, hu2, okz, hz⟩
      exact ⟨_, rfl, k H2 u L2 zs s2 hu hu2 hb2 ok2 okz hz⟩
end
end Dl

namespace Dl
open PySem PySem.Spec PyProof.Rows L2
/-! ### texts: what is a valid name -/
theorem len_pos {z : Str} (h : ¬ z = ("" : Str)) : 1 ≤ z.length := by
  have e0 : ("" : Str) = ⟨#[]⟩ := by decide +kernel
  cases z with
  | mk cps =>
    by_cases q : cps.size = 0
    · exfalso
      apply h
      rw [e0, Array.eq_empty_of_size_eq_zero q]
    · show 1 ≤ cps.size
      omega
theorem valid_of {z : Str} (h1 : 1 ≤ z.length) (h : ∀ c ∈ z.cps.toList, c ∈ SG.cps.toList) : validN z = decide (z.length ≤ 12) := by
  unfold validN
  rw [decide_eq_true h1, List.all_eq_true.mpr fun c hc => decide_eq_true (h c hc)]
  simp
theorem invalid_of {z : Str} {c : Nat} (hc : c ∈ z.cps.toList) (h : c ∉ SG.cps.toList) : validN z = false := by
  unfold validN
  have q : (z.cps.toList.all fun c => decide (c ∈ SG.cps.toList)) = false := by
    rw [List.all_eq_false]
    exact ⟨c, hc, by simpa using h⟩
  rw [q]
  simp
end Dl

namespace Dl
open PySem PySem.Spec PyProof.Rows L2
/-! ### names and texts as data -/
def canS (z : Str) : Prop := PyData.canLay0 (.str z) = true
theorem can_of {z : Str} (h : ∀ c ∈ z.cps.toList, c < 1114112) : canS z := by
  unfold canS PyData.canLay0 PyData.strOk
  rw [Array.all_eq_true]
  intro i hi
  exact decide_eq_true (h _ (by simp))
/-- a value that is passed as a name, as data -/
def NmD (H : Hp) : V → Prop
  | .str z => canS z ∧ z.length ≤ 1000
  | .int _ => True
  | .non => True
  | .ref p => ∃ zs : List Str, H p = some (.lst (zs.map V.str)) ∧ ∀ z ∈ zs, canS z
  | _ => False
theorem NmD.ok {H : Hp} {v : V} (h : NmD H v) : NmOk H v := by
  cases v with
  | str z => exact Nat.le_of_lt (small1000 h.2)
  | int i => trivial
  | non => trivial
  | ref p => obtain ⟨zs, e, _⟩ := h; exact ⟨_, e⟩
  | bl _ => exact h.elim
  | byt _ => exact h.elim
  | flt _ => exact h.elim
  | ty _ => exact h.elim
theorem NmD.of {H H' : Hp} {v : V} (s : Same H H') (h : NmD H v) : NmD H' v := by
  cases v with
  | str z => exact h
  | int i => trivial
  | non => trivial
  | ref p => obtain ⟨zs, e, q⟩ := h; exact ⟨zs, s _ _ e, q⟩
  | bl _ => exact h.elim
  | byt _ => exact h.elim
  | flt _ => exact h.elim
  | ty _ => exact h.elim
theorem any_str (es : List Str) (y : Str) : (es.map PyData.str).any (fun z => PyData.eqv z (.str y)) = decide (y ∈ es) := by
  rw [List.any_map]
  induction es with
  | nil => simp
  | cons a r ih =>
    rw [List.any_cons, ih]
    show (PyData.eqv (.str a) (.str y) || decide (y ∈ r)) = _
    rw [PyData.eqv]
    by_cases h : a = y
    · subst h; simp
    · have h2 : ¬ y = a := fun q => h q.symm
      simp [h, h2]
theorem any_no (es : List Str) {d : PyData} (h : ∀ z : Str, PyData.eqv (.str z) d = false) : (es.map PyData.str).any (fun z => PyData.eqv z d) = false := by
  rw [List.any_map, List.any_eq_false]
  intro z _
  show ¬ PyData.eqv (.str z) d = true
  rw [h z]
  decide
/-- the data of a name -/
theorem NmD.dat (K : PySem.W.Frag) {H : Hp} {v : V} (h : NmD H v) : ∃ d, Dp K H v d ∧ PyData.canLay0 d = true ∧ d.depth ≤ 1 ∧ ∀ es : List Str, (es.map PyData.str).any (fun z => PyData.eqv z d) = knows v es := by
  cases v with
  | str z => exact ⟨.str z, .str z, h.1, by simp [PyData.depth], fun es => any_str es z⟩
  | int i => exact ⟨.int i, .int i, by simp [PyData.canLay0], by simp [PyData.depth], fun es => any_no es fun z => by rw [PyData.eqv]⟩
  | non => exact ⟨.none, .non, by simp [PyData.canLay0], by simp [PyData.depth], fun es => any_no es fun z => by rw [PyData.eqv]⟩
  | ref p =>
    obtain ⟨zs, e, q⟩ := h
    refine ⟨.list (zs.map PyData.str), .lst (SqL.of e) (dpAll_strs zs), ?_, ?_, fun es => any_no es fun z => by rw [PyData.eqv]⟩
    · rw [PyData.canLay0]; exact canAll_strs q
    · rw [PyData.depth, depthAll_strs]; decide
  | bl _ => exact h.elim
  | byt _ => exact h.elim
  | flt _ => exact h.elim
  | ty _ => exact h.elim
theorem shaped_of {d : PyData} (h : PyData.canLay0 d = true) (h2 : d.depth ≤ 1) : SeqAt.shaped d = true := by
  unfold SeqAt.shaped
  rw [h, Bool.true_and]
  exact decide_eq_true (by omega)
theorem room65 {k : Nat} {A : Around} (r : Room k A) : A.units + 65 < cLine := by
  have := r.un
  omega
theorem valid_can {z : Str} (h : validN z = true) : canS z := can_of (valid_small h).2
end Dl

namespace Dl
open PySem L2
/-! ### a table of good names is made -/
theorem chosen_sub {sh ls : List Str} (h : sh.Sublist ls) (nd : ls.Nodup) : chosen ls sh = sh := by
  unfold chosen
  induction h with
  | slnil => rfl
  | @cons sh ls a h ih =>
    rw [List.nodup_cons] at nd
    have na : ¬ a ∈ sh := fun m => nd.1 (h.subset m)
    rw [List.filter_cons_of_neg (by simpa using na)]
    exact ih nd.2
  | @cons_cons sh ls a h ih =>
    rw [List.nodup_cons] at nd
    rw [List.filter_cons_of_pos (by simp)]
    congr 1
    rw [← ih nd.2]
    apply List.filter_congr
    intro z hz
    have nz : z ≠ a := fun e => nd.1 (e ▸ hz)
    rw [ih nd.2]
    simp [nz]
theorem names_ok' : ∀ {zs acc : List Str}, zs.Nodup → (∀ z ∈ zs, validN z = true ∧ z ∉ acc) → chkNames (zs.map V.str) acc = .ok (acc ++ zs)
  | [], acc, _, _ => by simp [chkNames]
  | z :: r, acc, nd, h => by
    rw [List.nodup_cons] at nd
    have hz := h z (List.mem_cons_self ..)
    have e : chkNew (.str z) acc = none := by simp [chkNew, hz.1, hz.2]
    rw [List.map_cons, chkNames, e]
    show chkNames (r.map V.str) (acc ++ [z]) = _
    rw [names_ok' nd.2 fun y hy => ⟨(h y (List.mem_cons_of_mem _ hy)).1, fun m => by
      rcases List.mem_append.mp m with m | m
      · exact (h y (List.mem_cons_of_mem _ hy)).2 m
      · obtain rfl := List.mem_singleton.mp m
        exact nd.1 hy⟩]
    simp
theorem names_ok {zs : List Str} (nd : zs.Nodup) (h : ∀ z ∈ zs, validN z = true) : chkNames (zs.map V.str) [] = .ok zs := by
  rw [names_ok' nd fun z hz => ⟨h z hz, by simp⟩]
  simp
theorem shown_ok' : ∀ {zs ls prev : List Str}, zs.Nodup → (∀ z ∈ zs, z ∈ ls ∧ z ∉ prev) → chkShown (zs.map V.str) ls prev = none
  | [], _, _, _, _ => by simp [chkShown]
  | z :: r, ls, prev, nd, h => by
    rw [List.nodup_cons] at nd
    have hz := h z (List.mem_cons_self ..)
    rw [List.map_cons, chkShown, if_pos (show knows (.str z) ls = true by simp [knows, hz.1]), if_neg (show ¬ strOf (.str z) ∈ prev from hz.2)]
    refine shown_ok' nd.2 fun y hy => ⟨(h y (List.mem_cons_of_mem _ hy)).1, fun m => ?_⟩
    rcases List.mem_append.mp m with m | m
    · exact (h y (List.mem_cons_of_mem _ hy)).2 m
    · have e : y = z := List.mem_singleton.mp m
      exact nd.1 (e ▸ hy)
theorem rows_ok' {ls : List Str} (lnd : ls.Nodup) : ∀ {xs acc : List (Str × List Str)}, (xs.map (·.1)).Nodup → (∀ x ∈ xs, validN x.1 = true ∧ x.2.Sublist ls ∧ x.1 ∉ acc.map (·.1)) → initRows ls (xs.map fun x => (V.str x.1, x.2.map V.str)) acc = .ok (acc ++ xs)
  | [], acc, _, _ => by simp [initRows]
  | x :: r, acc, nd, h => by
    rw [List.map_cons, List.nodup_cons] at nd
    obtain ⟨h1, h2, h3⟩ := h x (List.mem_cons_self ..)
    have e : chkNew (.str x.1) (acc.map (·.1)) = none := by simp only [chkNew, h1, if_true]; rw [if_neg h3]
    have e2 : chkShown (x.2.map V.str) ls [] = none := shown_ok' (h2.nodup lnd) fun z hz => ⟨h2.subset hz, by simp⟩
    have e3 : (x.2.map V.str).map strOf = x.2 := by rw [List.map_map]; exact List.map_id _
    rw [List.map_cons, initRows, e, e2]
    show initRows ls _ (acc ++ [(x.1, chosen ls ((x.2.map V.str).map strOf))]) = _
    rw [e3, chosen_sub h2 lnd, rows_ok' lnd nd.2 fun y hy => ⟨(h y (List.mem_cons_of_mem _ hy)).1, (h y (List.mem_cons_of_mem _ hy)).2.1, fun m => by
      rw [List.map_append] at m
      rcases List.mem_append.mp m with m | m
      · exact (h y (List.mem_cons_of_mem _ hy)).2.2 m
      · have q : y.1 = x.1 := by simpa using m
        exact nd.1 (by rw [← q]; exact List.mem_map.mpr ⟨y, hy, rfl⟩)⟩]
    simp
theorem init_ok {ls : List Str} {rs : List (Str × List Str)} (ok : TabOk ls rs) : initT (ls.map V.str) (rs.map rdat) = .ok (ls, rs) := by
  unfold initT
  rw [if_neg (by rw [List.length_map, List.length_map]; have := ok.lfew; have := ok.kfew; omega), names_ok ok.lnd ok.lval]
  have e : initRows ls (rs.map rdat) [] = .ok rs := by
    have q := rows_ok' ok.lnd (xs := rs) (acc := []) ok.knd fun x hx => ⟨ok.kval x hx, ok.sub x hx, by simp⟩
    rw [List.nil_append] at q
    exact q
  simp only [e]
end Dl

namespace Dl
open PySem PySem.Spec PyProof.Rows L2
theorem TabOk.lampsNm {ls : List Str} {rs : List (Str × List Str)} (ok : TabOk ls rs) {H : Hp} : ∀ v ∈ ls.map V.str, NmOk H v := fun v hv => by
  obtain ⟨z, hz, rfl⟩ := List.mem_map.mp hv
  have h := ok.lval z hz
  unfold validN at h
  simp only [Bool.and_eq_true, decide_eq_true_eq] at h
  exact Nat.le_of_lt (small1000 (by have := h.2.1; omega))
theorem validN_nm {z : Str} (h : validN z = true) {H : Hp} : NmOk H (.str z) := by
  unfold validN at h
  simp only [Bool.and_eq_true, decide_eq_true_eq] at h
  exact Nat.le_of_lt (small1000 (by have := h.2.1; omega))
theorem TableAt.of {CT : Addr} {H H' : Hp} {p : Addr} {ls : List Str} {rs : List (Str × List Str)} (s : Same H H') (h : TableAt CT H p ls rs) : TableAt CT H' p ls rs := by
  obtain ⟨dx, lt, sd, kt, kvs, hp, hlt, hsd, hkt, hrs⟩ := h
  exact ⟨dx, lt, sd, kt, kvs, s _ _ hp, s _ _ hlt, s _ _ hsd, s _ _ hkt, hrs.of fun b ys e => s _ _ e⟩
theorem strs_back (zs : List Str) : (zs.map V.str).map strOf = zs := by rw [List.map_map]; exact List.map_id _
theorem strs_nm {zs : List Str} (h : ∀ z ∈ zs, validN z = true) {H : Hp} : ∀ v ∈ zs.map V.str, NmOk H v := fun v hv => by
  obtain ⟨z, hz, rfl⟩ := List.mem_map.mp hv
  exact validN_nm (h z hz)
end Dl

namespace Dl
open PySem PySem.Spec PyProof.Rows L2
theorem int_nd {i j : Int} (h : i ≠ j) : decide (V.int i = V.int j) = false := decide_eq_false fun q => h (V.int.inj q)
theorem int_yd {i : Int} : decide (V.int i = V.int i) = true := decide_eq_true rfl
theorem iteY {c : Bool} {A B : Prop} (e : c = true) (h : A) : if c = true then A else B := by rw [if_pos e]; exact h
theorem iteZ {c : Bool} {A B : Prop} (e : c = false) (h : B) : if c = true then A else B := by rw [if_neg (by rw [e]; decide)]; exact h
end Dl

/-! == of two dicts of tuples of texts with the same keys; == by an own __eq__, both ways -/
namespace Dl
open PySem PySem.Spec PyProof.Rows L2
theorem eqAllS (xs ys : List Str) : PyData.eqvAll (xs.map PyData.str) (ys.map PyData.str) = decide (xs = ys) := eqvAll_strs xs ys
theorem eqv_tups (xs ys : List Str) : PyData.eqv (.tuple (xs.map PyData.str)) (.tuple (ys.map PyData.str)) = decide (xs = ys) := by
  rw [PyData.eqv]
  exact eqAllS xs ys
theorem eqv_lists (xs ys : List Str) : PyData.eqv (.list (xs.map PyData.str)) (.list (ys.map PyData.str)) = decide (xs = ys) := by
  rw [PyData.eqv]
  exact eqAllS xs ys
theorem shaped_tups {zs : List Str} (h : ∀ z ∈ zs, PyData.canLay0 (.str z) = true) : SeqAt.shaped (.tuple (zs.map PyData.str)) = true := by
  unfold SeqAt.shaped
  rw [Bool.and_eq_true, PyData.canLay0, PyData.depth, depthAll_strs]
  exact ⟨canAll_strs h, by decide⟩
theorem room66 {k : Nat} {A : Around} (r : Room k A) : A.units + 66 < cLine := by
  have := r.un
  omega
section
variable {X : Cx}
def rEqRows : R2 := fun x y H Q => ∃ a b ks ls rs ss, x = .ref a ∧ y = .ref b ∧ H a = some (.dK ks) ∧ H b = some (.dK ls) ∧ RowsAt H rs ks ∧ RowsAt H ss ls ∧ rs.map Prod.fst = ss.map Prod.fst ∧ (rs.map Prod.fst).Nodup ∧
  (∀ x ∈ rs, ∀ z ∈ x.2, canS z) ∧ (∀ x ∈ ss, ∀ z ∈ x.2, canS z) ∧ Q (.bl (decide (rs = ss))) H
theorem hits_rows {P : Program} {w : World} {A : Around} {s : Shared} {H : Hp} (ih : ∀ a b (xs ys : List Str), H a = some (.tup (xs.map V.str)) → H b = some (.tup (ys.map V.str)) → (∀ z ∈ xs, canS z) → (∀ z ∈ ys, canS z) → SeqAt.EqP P w A s (.ref a) (.ref b) (decide (xs = ys)))
    {vb : List (Key × Value)} : ∀ {rs ss : List (Str × List Str)} {ks ls : List (Key × V)} {va : List (Key × Value)}, RowsAt H rs ks → RowsAt H ss ls → KV ks va → rs.map Prod.fst = ss.map Prod.fst → (∀ x ∈ rs, ∀ z ∈ x.2, canS z) → (∀ x ∈ ss, ∀ z ∈ x.2, canS z) →
      (∀ p ∈ ls, ∃ u, valueAt vb p.1 = some u ∧ RelV p.2 u) → PySem.W.KeqHitsP P w A s vb va (decide (rs = ss))
  | [], ss, ks, ls, va, hr, hs, hk, e, _, _, _ => by
    cases ss with
    | cons _ _ => cases e
    | nil =>
      cases hr
      unfold KV at hk
      cases hk
      rw [decide_eq_true rfl]
      exact .nil
  | (k, xs) :: rs, ss, ks, ls, va, hr, hs, hk, e, c1, c2, hv => by
    cases ss with
    | nil => cases e
    | cons y ss =>
      obtain ⟨k2, ys⟩ := y
      rw [List.map_cons, List.map_cons] at e
      injection e with e1 e2
      have e1' : k = k2 := e1
      subst e1'
      cases hr with
      | @cons _ _ a _ kvs ha hr =>
      cases hs with
      | @cons _ _ b _ lvs hb hs =>
      unfold KV at hk
      cases hk with
      | @cons p q ps qs h t =>
      obtain ⟨h1, h2⟩ := h
      obtain ⟨key, v⟩ := q
      have h1' : Sum.inr k = key := h1
      subst h1'
      cases h2
      obtain ⟨u, hu, ru⟩ := hv _ (List.mem_cons_self ..)
      cases ru
      have d : decide ((k, xs) :: rs = (k, ys) :: ss) = (decide (xs = ys) && decide (rs = ss)) := by
        by_cases q1 : xs = ys <;> by_cases q2 : rs = ss <;> simp [q1, q2]
      rw [d]
      exact .hit hu (ih a b xs ys ha hb (c1 _ (List.mem_cons_self ..)) (c2 _ (List.mem_cons_self ..)))
        (hits_rows ih hr hs t e2 (fun x hx => c1 x (List.mem_cons_of_mem _ hx)) (fun x hx => c2 x (List.mem_cons_of_mem _ hx)) (fun p hp => hv p (List.mem_cons_of_mem _ hp)))
theorem vals_rows {H : Hp} {ls : List (Key × V)} {vb : List (Key × Value)} (rb : KV ls vb) {ss : List (Str × List Str)} (hs : RowsAt H ss ls) (nd : (ss.map Prod.fst).Nodup) : ∀ p ∈ ls, ∃ u, valueAt vb p.1 = some u ∧ RelV p.2 u := fun p hp => by
  have nk : (ls.map (·.1)).Nodup := by
    rw [hs.keys]
    exact List.Pairwise.map Sum.inr (fun a b h e => h (Sum.inr.inj e)) nd
  have hv : valV ls p.1 = some p.2 := by
    clear hs rb
    unfold valV
    induction ls with
    | nil => cases hp
    | cons q r ih =>
      rw [List.map_cons, List.nodup_cons] at nk
      rcases List.mem_cons.mp hp with h | h
      · subst h
        simp
      · have ne : ¬ q.1 = p.1 := fun e => nk.1 (by rw [e]; exact List.mem_map.mpr ⟨p, h, rfl⟩)
        rw [List.find?_cons_of_neg (by simpa using ne)]
        exact ih h nk.2
  have rr : RelO (some p.2) (valueAt vb p.1) := by rw [← hv]; exact rb.val p.1
  obtain ⟨y, hy, ry⟩ := rr.some_of
  exact ⟨y, hy, ry⟩
theorem op_eqRows (hu : X.A.units + 66 < cLine) : OpR X (compareOp .Eq) rEqRows := by
  intro pins s σ H x y v u Q I rx ry h
  obtain ⟨a, b, ks, ls, rs, ss, rfl, rfl, ha, hb, hr, hs, e, nd, c1, c2, q⟩ := h
  cases rx
  cases ry
  obtain ⟨_, ya, va, ra, da⟩ := (show ObjOk X.prog X.w H s.heap a (.dK ks) from I.hok a _ ha)
  obtain ⟨_, yb, vb, rb, db⟩ := (show ObjOk X.prog X.w H s.heap b (.dK ls) from I.hok b _ hb)
  have hl : va.length = vb.length := by
    rw [← ra.length, ← rb.length, hr.length, hs.length]
    have := congrArg List.length e
    rw [List.length_map, List.length_map] at this
    exact this
  have ih : ∀ a b (xs ys : List Str), H a = some (.tup (xs.map V.str)) → H b = some (.tup (ys.map V.str)) → (∀ z ∈ xs, canS z) → (∀ z ∈ ys, canS z) → SeqAt.EqP X.prog X.w X.A.in1 s (.ref a) (.ref b) (decide (xs = ys)) := fun a b xs ys ha hb ca cb => by
    by_cases ab : a = b
    · subst ab
      rw [ha] at hb
      have exy : xs = ys := by
        have e : xs.map V.str = ys.map V.str := by
          injection hb with h1
          injection h1
        exact (List.map_inj_right (f := V.str) fun _ _ h => by cases h; rfl).mp e
      rw [decide_eq_true exy]
      exact (SeqAt.EqAt.same _).eqP
    · refine SeqAt.eqP_refs ab fun E Q q => ?_
      obtain ⟨as, r1⟩ := Dp.reads I (.tuple (xs.map PyData.str)) (.ref a) (.ref a) (.tup (SqT.of ha) (dpAll_strs xs)) rfl
      obtain ⟨bs, r2⟩ := Dp.reads I (.tuple (ys.map PyData.str)) (.ref b) (.ref b) (.tup (SqT.of hb) (dpAll_strs ys)) rfl
      exact SeqAt.compareEq_shaped r1 r2 (shaped_tups ca) (shaped_tups cb) (by show X.A.units + 1 + 64 < cLine; omega) (by rw [eqv_tups]; exact q)
  show wpAny (model X.prog X.w) X.A (richCompare .Eq (.ref a) (.ref b)) _ _ s
  refine PySem.W.rcP_dicts (knd := mixKind X.prog X.w) (r := decide (rs = ss)) ya yb da db (by omega) (fun _ => hits_rows ih hr hs ra e c1 c2 (vals_rows rb hs (by rw [← e]; exact nd))) _ _ ?_
  rw [show (va.length == vb.length && decide (rs = ss)) = decide (rs = ss) from by rw [hl]; simp]
  exact ⟨.bl _, H, I, rfl, q⟩
/-- a == b by the own __eq__ of a's class -/
def rEqOwn (C : Addr) (sp : Sp) (E : XK) : R2 := fun x y H Q => ∃ a b dx dy fs gs, x = .ref a ∧ y = .ref b ∧ H a = some (.ins C dx fs) ∧ H b = some (.ins C dy gs) ∧ sp [.ref a, .ref b] H (fun v H' => ∃ t, v = .bl t ∧ Q (.bl t) H') E
theorem op_eqOwn {CX : CXT} {k : Nat} {C f : Addr} {fd : FuncData} {ps : List Str} {sp : Sp} {E : XK} (F : FnOk X.prog X.w X.K X.mg X.base CX k f fd ps sp) (hs : PySem.W.findIn X.K (.ref C) "__eq__" = some (some (.ref f))) (hf : PySem.W.isFn X.K (.ref f) = true)
    (hr : Room k X.A) (hb : Binds X.K fd ps []) (hx : Passes CX X E) : OpR X (compareOp .Eq) (rEqOwn C sp E) := by
  intro pins s σ H x y v u Q I rx ry h
  obtain ⟨a, b, dx, dy, fs, gs, rfl, rfl, ha, hb', hsp⟩ := h
  cases rx
  cases ry
  obtain ⟨mA, J, _⟩ := ins_get I.hok ha
  obtain ⟨mB, J', _⟩ := ins_get I.hok hb'
  obtain ⟨od, J, _⟩ := J.look
  obtain ⟨od', J', _⟩ := J'.look
  obtain ⟨m, hF⟩ := I.fr
  show wpAny (model X.prog X.w) X.A (richCompare .Eq (.ref a) (.ref b)) (EP X pins σ Q) X.xe s
  refine PySem.W.cmp_K (op := .Eq) (tb := .ref C) hr.units0 hF I.ok.mod.kin J J'.type (by simp [PySem.W.notFirst]) hs hf ?_
  refine wpAny_mono (run_at (A := X.A) rfl F hr hb hx I (show Vals [V.ref a, V.ref b] [Value.ref a, Value.ref b] from .cons rfl (.cons rfl .nil)) hsp) (fun v s' hv => ?_) fun _ _ y => y
  obtain ⟨z, H', I', rz, t, ez, q⟩ := hv
  subst ez
  cases rz
  exact ⟨.bl t, H', I', rfl, q⟩
end
end Dl

namespace Dl
open PySem PySem.Spec PyProof.Rows L2
/-! Table: shown, alike, [..], len -/
structure TabT (P : Program) (w : World) (K : PySem.W.Frag) (mg : Str → Option Value) (base : Heap) (CT : Addr) (C : Cs) : Prop where
  cl : Cls K CT
  nL : NoAttr K CT "lamps"
  nK : NoAttr K CT "looks"
  nS : NoAttr K CT "_shown"
  tuple : mg "tuple" = none
  len : mg "len" = none
  known : Dfn P w K mg base (L2.CX P w) 4 "check_known" ["name", "names"] (spKnown K C)
def keysOf (rs : List (Str × List Str)) : List Str := rs.map fun x : Str × List Str => x.1
theorem knows_row {v : V} {rs : List (Str × List Str)} (h : knows v (keysOf rs) = true) : ∃ x ∈ rs, v = .str x.1 := by
  cases v <;> simp only [knows] at h <;> first | cases h; done | skip
  rename_i z
  obtain ⟨x, hx, e⟩ := List.mem_map.mp (of_decide_eq_true h)
  exact ⟨x, hx, by rw [← e]⟩
def seenOf (rs : List (Str × List Str)) (z : Str) : List Str := (rs.filter fun x : Str × List Str => decide (z ∈ x.2)).map fun x : Str × List Str => x.1
theorem seen_step {rs : List (Str × List Str)} {z : Str} {i : Nat} {x : Str × List Str} (h : rs[i]? = some x) : seenOf (rs.take (i + 1)) z = seenOf (rs.take i) z ++ (if decide (z ∈ x.2) = true then [x.1] else []) := by
  unfold seenOf
  have e : rs.take (i + 1) = rs.take i ++ [x] := by rw [List.take_succ, h]; rfl
  rw [e, List.filter_append, List.map_append]
  by_cases q : z ∈ x.2 <;> simp [q]
theorem seen_len {rs : List (Str × List Str)} {z : Str} {i : Nat} : (seenOf (rs.take i) z).length ≤ i := by
  unfold seenOf
  rw [List.length_map]
  exact Nat.le_trans (List.length_filter_le _ _) (by rw [List.length_take]; omega)
def spTShown (K : PySem.W.Frag) (CT : Addr) (C : Cs) : Sp := fun vs H Q E => ∃ (p : Addr) (v : V) (ls : List Str) (rs : List (Str × List Str)), vs = [.ref p, v] ∧ TableAt CT H p ls rs ∧ TabOk ls rs ∧ NmOk H v ∧
  (∀ x ∈ rs, v = .str x.1 → ∀ a, H a = some (.tup (x.2.map V.str)) → Q (.ref a) H) ∧ (knows v (keysOf rs) = false → Out1 C.unk "name" v H E)
def spTAlike (K : PySem.W.Frag) (CT : Addr) (C : Cs) : Sp := fun vs H Q E => ∃ (p : Addr) (v u : V) (ls : List Str) (rs : List (Str × List Str)), vs = [.ref p, v, u] ∧ TableAt CT H p ls rs ∧ TabOk ls rs ∧ NmOk H v ∧ NmOk H u ∧
  (∀ x ∈ rs, ∀ y ∈ rs, v = .str x.1 → u = .str y.1 → Q (.bl (decide (x.2 = y.2))) H) ∧ (knows v (keysOf rs) = false → Out1 C.unk "name" v H E) ∧ (knows v (keysOf rs) = true → knows u (keysOf rs) = false → Out1 C.unk "name" u H E)
def spTGet (K : PySem.W.Frag) (CT : Addr) (C : Cs) : Sp := fun vs H Q E => ∃ (p q : Addr) (v u : V) (ls : List Str) (rs : List (Str × List Str)), vs = [.ref p, .ref q] ∧ TableAt CT H p ls rs ∧ TabOk ls rs ∧ H q = some (.tup [v, u]) ∧ NmOk H v ∧ NmOk H u ∧
  (∀ z ∈ ls, ∀ x ∈ rs, v = .str z → u = .str x.1 → Q (.bl (decide (z ∈ x.2))) H) ∧ (knows v ls = false → Out1 C.unk "name" v H E) ∧ (knows v ls = true → knows u (keysOf rs) = false → Out1 C.unk "name" u H E)
def spTSeen (K : PySem.W.Frag) (CT : Addr) (C : Cs) : Sp := fun vs H Q E => ∃ (p : Addr) (v : V) (ls : List Str) (rs : List (Str × List Str)), vs = [.ref p, v] ∧ TableAt CT H p ls rs ∧ TabOk ls rs ∧ NmOk H v ∧
  (∀ z ∈ ls, v = .str z → ∀ H' a, Same H H' → H a = none → H' a = some (.tup ((seenOf rs z).map V.str)) → Q (.ref a) H') ∧ (knows v ls = false → Out1 C.unk "name" v H E)
def spTLen (CT : Addr) : Sp := fun vs H Q _ => ∃ (p : Addr) (ls : List Str) (rs : List (Str × List Str)), vs = [.ref p] ∧ TableAt CT H p ls rs ∧ Q (.int (rs.length : Int)) H
section
variable {P : Program} {w : World} {K : PySem.W.Frag} {mg : Str → Option Value} {base : Heap} {C : Cs} {CT : Addr}
theorem scTShown : FnScope ["self", "look"] ["self", "look"] (defScope sTableShown) := ⟨rfl, rfl, rfl, by decide +kernel, rfl, by decide +kernel, by decide +kernel⟩
theorem ok_tshown {f : Addr} {fd : FuncData} (F : Fun K "shown" "Table.shown" sTableShown f fd) (T : TabT P w K mg base CT C) : FnOk P w K mg base (L2.CX P w) 5 f fd ["self", "look"] (spTShown K CT C) := by
  obtain ⟨fK, dK, mK, kK, bK, GK⟩ := T.known
  refine F.okX scTShown (fun vs H Q E h => ?_) (fun cdv A outer s H vs Q E hr h => ?_)
  · obtain ⟨p, v, ls, rs, rfl, _⟩ := h
    rfl
  · obtain ⟨p, v, ls, rs, rfl, ⟨dx, lt, sd, kt, kvs, hp, hlt, hsd, hkt, hrs⟩, ok, hv, k, kx⟩ := h
    have hr4 : Room 4 _ := hr
    refine ⟨_, (pss_cons (ps_expr (pe_call GK hr4 (by rfl) mK kK bK .nil (passes_call (takes_of rfl rfl rfl rfl) (fun _ _ _ _ h => h)) (pa_cons (pv 1) (pa_cons (pe_fld (pv 0) rfl) pa_nil))))
        (pss_one (ps_ret (pe_dget (hu_of hr) (pe_fld (pv 0) rfl) (pv 1) (fun _ _ => rfl))))), ?_⟩
    refine ⟨_, rfl, _, rfl, p, CT, dx, _, _, rfl, hp, T.cl, T.nK, pf3_looks _ _ _, v, kt, keysOf rs, rfl, hv, SqT.of hkt, fun hk => ?_, fun hk => kx hk⟩
    obtain ⟨x, hx, rfl⟩ := knows_row hk
    obtain ⟨a, hval, ha⟩ := hrs.val ok.knd hx
    have dg : DGet H sd (kV (Sum.inr x.1)) (some (.ref a)) := by rw [← hval]; exact DGet.k hsd
    exact ⟨_, rfl, p, CT, dx, _, _, rfl, hp, T.cl, T.nS, pf3_shown _ _ _, _, rfl, sd, _, rfl, dg, k x hx rfl a ha⟩
theorem scTGet : FnScope ["self", "at", "lamp", "look"] ["self", "at"] (defScope sTableGetitem) := ⟨rfl, rfl, rfl, by decide +kernel, rfl, by decide +kernel, by decide +kernel⟩
theorem ok_tget {f : Addr} {fd : FuncData} (F : Fun K "__getitem__" "Table.__getitem__" sTableGetitem f fd) (T : TabT P w K mg base CT C) : FnOk P w K mg base (L2.CX P w) 5 f fd ["self", "at"] (spTGet K CT C) := by
  obtain ⟨fK, dK, mK, kK, bK, GK⟩ := T.known
  refine F.okX scTGet (fun vs H Q E h => ?_) (fun cdv A outer s H vs Q E hr h => ?_)
  · obtain ⟨p, q, v, u, ls, rs, rfl, _⟩ := h
    rfl
  · obtain ⟨p, q, v, u, ls, rs, rfl, ⟨dx, lt, sd, kt, kvs, hp, hlt, hsd, hkt, hrs⟩, ok, hq, hv, hu, k, kx, ky⟩ := h
    have hr4 : Room 4 _ := hr
    refine ⟨_, (pss_cons (ps_asg (pv 1) (pg_tup rfl (pgs_cons (pg_name (i := 2) scTGet.nd rfl (Or.inl rfl)) (pgs_cons (pg_name (i := 3) scTGet.nd rfl (Or.inl rfl)) pgs_nil))))
        (pss_cons (ps_expr (pe_call GK hr4 (by rfl) mK kK bK .nil (passes_call (takes_of rfl rfl rfl rfl) (fun _ _ _ _ h => h)) (pa_cons (pv 2) (pa_cons (pe_fld (pv 0) rfl) pa_nil))))
        (pss_cons (ps_expr (pe_call GK hr4 (by rfl) mK kK bK .nil (passes_call (takes_of rfl rfl rfl rfl) (fun _ _ _ _ h => h)) (pa_cons (pv 3) (pa_cons (pe_fld (pv 0) rfl) pa_nil))))
        (pss_one (ps_ret (pe_cmpR op_in_seq (pv 2) (pe_dget (hu_of hr) (pe_fld (pv 0) rfl) (pv 3) (fun _ _ => rfl)) (by rfl))))))), ?_⟩
    refine ⟨_, rfl, q, _, rfl, SqT.of hq, rfl, _, _, rfl, _, _, rfl, rfl, ?_⟩
    refine ⟨_, rfl, _, rfl, p, CT, dx, _, _, rfl, hp, T.cl, T.nL, pf3_lamps _ _ _, v, lt, ls, rfl, hv, SqT.of hlt, fun hk => ?_, fun hk => kx hk⟩
    refine ⟨_, rfl, _, rfl, p, CT, dx, _, _, rfl, hp, T.cl, T.nK, pf3_looks _ _ _, u, kt, keysOf rs, rfl, hu, SqT.of hkt, fun hk2 => ?_, fun hk2 => ky hk hk2⟩
    obtain ⟨z, rfl, hz⟩ := knows_str hk
    obtain ⟨x, hx, rfl⟩ := knows_row hk2
    obtain ⟨a, hval, ha⟩ := hrs.val ok.knd hx
    have dg : DGet H sd (kV (Sum.inr x.1)) (some (.ref a)) := by rw [← hval]; exact DGet.k hsd
    refine ⟨_, rfl, _, rfl, p, CT, dx, _, _, rfl, hp, T.cl, T.nS, pf3_shown _ _ _, _, rfl, sd, _, rfl, dg, a, _, rfl, .inr (SqT.of ha), rfl, flat_strs _, ?_⟩
    rw [inV_str]
    exact k z hz x hx rfl rfl
theorem scTSeen : FnScope ["self", "lamp", "look"] ["self", "lamp"] (defScope sTableSeen) := ⟨rfl, rfl, rfl, by decide +kernel, rfl, by decide +kernel, by decide +kernel⟩
theorem ok_tseen {f : Addr} {fd : FuncData} (F : Fun K "seen" "Table.seen" sTableSeen f fd) (T : TabT P w K mg base CT C) : FnOk P w K mg base (L2.CX P w) 5 f fd ["self", "lamp"] (spTSeen K CT C) := by
  obtain ⟨fK, dK, mK, kK, bK, GK⟩ := T.known
  refine F.okX scTSeen (fun vs H Q E h => ?_) (fun cdv A outer s H vs Q E hr h => ?_)
  · obtain ⟨p, v, ls, rs, rfl, _⟩ := h
    rfl
  · obtain ⟨p, v, ls, rs, rfl, ⟨dx, lt, sd, kt, kvs, hp, hlt, hsd, hkt, hrs⟩, ok, hv, k, kx⟩ := h
    have hr4 : Room 4 _ := hr
    refine ⟨_, (pss_cons (ps_expr (pe_call GK hr4 (by rfl) mK kK bK .nil (passes_call (takes_of rfl rfl rfl rfl) (fun _ _ _ _ h => h)) (pa_cons (pv 1) (pa_cons (pe_fld (pv 0) rfl) pa_nil))))
        (pss_one (ps_ret (pe_callTy call_tuple_of (by rfl) T.tuple (by decide +kernel) (pa_cons (pe_lc (own := [("look", 2)]) (g := gName 2) (tt := tTest (tOp (rIn K false) (tVar 1) (tDGet (tFld K (tVar 0) "_shown") (tVar 2)))) rfl scTSeen.nd (pi_tup (pe_fld (pv 0) rfl)) (blkOk_by (N := ["self", "lamp", "look"]) (sc := defScope sTableSeen) (by decide +kernel)) (fun _ _ _ _ _ => (pg_name (i := 2) scTSeen.nd rfl (Or.inl rfl))) (fun _ _ _ _ _ => (pts_one (pt_cmpR (by exact op_in_seq : OpR _ _ (rIn K false)) (pv 1) (pe_dget (hu_of hr) (pe_fld (pv 0) rfl) (pv 2) (fun _ _ => rfl)) (by rfl)))) (fun _ _ _ _ _ => (pv 2))) pa_nil))))), ?_⟩
    refine ⟨_, rfl, _, rfl, p, CT, dx, _, _, rfl, hp, T.cl, T.nL, pf3_lamps _ _ _, v, lt, ls, rfl, hv, SqT.of hlt, fun hk => ?_, fun hk => kx hk⟩
    obtain ⟨z, rfl, hz⟩ := knows_str hk
    refine ⟨_, rfl, p, CT, dx, _, _, rfl, hp, T.cl, T.nK, pf3_looks _ _ _, kt, rfl, ⟨_, SqT.of hkt⟩, fun D hD => lc_it (walk_tup (K := K) (a := kt) (xs := (rs.map (·.1)).map V.str)) (fun i H' => H' = upd H D (.lst ((seenOf (rs.take i) z).map V.str))) rfl (fun i H' _ e => by rw [e]; exact SqT.of (Same.upd_new hD _ _ hkt)) ?_ ?_⟩
    · rintro i v H1 H2 hi rfl ⟨rfl, hv2⟩
      have hv2 : ((rs.map (·.1)).map V.str)[i]? = some v := hv2
      rw [List.getElem?_map, List.getElem?_map] at hv2
      cases hri : rs[i]? with
      | none => rw [hri] at hv2; cases hv2
      | some x =>
      rw [hri] at hv2
      obtain rfl : V.str x.1 = v := Option.some.inj hv2
      have s1 : Same H (upd H D (.lst ((seenOf (rs.take i) z).map V.str))) := Same.upd_new hD
      obtain ⟨a, hval, ha⟩ := hrs.val ok.knd (List.mem_of_getElem? hri)
      have hsd1 := s1 _ _ hsd
      have dg : DGet (upd H D (.lst ((seenOf (rs.take i) z).map V.str))) sd (kV (Sum.inr x.1)) (some (.ref a)) := by rw [← hval]; exact DGet.k hsd1
      refine ⟨rfl, _, rfl, _, rfl, p, CT, dx, _, _, rfl, s1 _ _ hp, T.cl, T.nS, pf3_shown _ _ _, _, rfl, sd, _, rfl, dg, a, _, rfl, .inr (SqT.of (s1 _ _ ha)), rfl, flat_strs _, _, rfl, ?_⟩
      rw [inV_str]
      by_cases q : z ∈ x.2
      · rw [decide_eq_true q]
        refine iteT ⟨_, rfl, _, upd_same, ?_, ?_⟩
        · have q1 := seen_len (rs := rs) (z := z) (i := i)
          have q2 := (List.getElem?_eq_some_iff.mp hri).1
          have q3 := ok.kfew
          rw [List.length_map]
          exact small1000 (by omega)
        · rw [upd_upd, seen_step hri, decide_eq_true q, if_pos rfl, List.map_append]
          rfl
      · rw [decide_eq_false q]
        refine iteF ?_
        rw [seen_step hri, decide_eq_false q, if_neg (by decide), List.append_nil]
    · rintro H1 rfl
      rw [List.length_map, List.length_map, List.take_length]
      refine ⟨D, _, rfl, .inl ⟨SqL.of upd_same, fun t ht => ?_⟩⟩
      have ht' : (upd H D (.lst ((seenOf rs z).map V.str))) t = none := ht
      exact k z hz rfl _ t ((Same.upd_new hD).trans (Same.upd_new ht')) ((Same.upd_new hD).free ht') upd_same
theorem scTLen : FnScope ["self"] ["self"] (defScope sTableLen) := ⟨rfl, rfl, rfl, by decide +kernel, rfl, by decide +kernel, by decide +kernel⟩
theorem ok_tlen {f : Addr} {fd : FuncData} (F : Fun K "__len__" "Table.__len__" sTableLen f fd) (T : TabT P w K mg base CT C) : FnOk P w K mg base CX0 1 f fd ["self"] (spTLen CT) := by
  refine F.ok scTLen (fun vs H Q E h => ?_) (fun cdv A outer s H vs Q E hr h => ?_)
  · obtain ⟨p, ls, rs, rfl, _⟩ := h
    rfl
  · obtain ⟨p, ls, rs, rfl, ⟨dx, lt, sd, kt, kvs, hp, hlt, hsd, hkt, hrs⟩, k⟩ := h
    refine ⟨_, (pss_one (ps_ret (pe_callB call_len_seq (by rfl) T.len PySem.boot_len (pa_cons (pe_fld (pv 0) rfl) pa_nil)))), ?_⟩
    refine ⟨_, rfl, p, CT, dx, _, _, rfl, hp, T.cl, T.nK, pf3_looks _ _ _, kt, _, rfl, .inr (SqT.of hkt), ?_⟩
    rw [List.length_map, List.length_map]
    exact k
end
end Dl

namespace Dl
open PySem PySem.Spec PyProof.Rows L2
/-! ### drawn rows: a list of pairs of a look and a list of some of the lamps -/
def BagIn (H : Hp) (b : Addr) : Prop := ∃ L : List Int, H b = some (.lst (L.map V.int)) ∧ BagOk L
theorem BagIn.lst {H : Hp} {b : Addr} (h : BagIn H b) : ∃ xs, H b = some (.lst xs) := let ⟨L, e, _⟩ := h; ⟨_, e⟩
theorem BagIn.upd {H : Hp} {b : Addr} {L : List Int} (h : BagOk L) : BagIn (upd H b (.lst (L.map V.int))) b := ⟨L, upd_same, h⟩
theorem BagIn.of {H H' : Hp} {b : Addr} (s : Same H H') (h : BagIn H b) : BagIn H' b := let ⟨L, e, o⟩ := h; ⟨L, s _ _ e, o⟩
structure RowD (b : Addr) (lamps : List Str) (H : Hp) (r : RowIn) : Prop where
  look : ∃ k, r.look = .str k
  pair : H r.t = some (.tup [r.look, .ref r.s])
  ns : r.s ≠ b
  lst : H r.s = some (.lst r.xs)
  sub : ∃ sh : List Str, r.xs = sh.map V.str ∧ sh.Sublist lamps
theorem ne_tup_lst {H : Hp} {a c : Addr} {xs ys : List V} (h1 : H a = some (.tup xs)) (h2 : H c = some (.lst ys)) : a ≠ c := fun e => by
  rw [e, h2] at h1; cases h1
theorem RowD.of {b : Addr} {lamps : List Str} {H H' : Hp} {r : RowIn} (hb : ∃ xs, H b = some (.lst xs)) (s : SameB b H H') (h : RowD b lamps H r) : RowD b lamps H' r :=
  ⟨h.look, s _ _ (let ⟨_, e⟩ := hb; ne_tup_lst h.pair e) h.pair, h.ns, s _ _ h.ns h.lst, h.sub⟩
def refsOf (rows : List RowIn) : List V := rows.map fun r => V.ref r.t
/-- the rows stand at R -/
structure RowsD (b : Addr) (lamps ks : List Str) (H : Hp) (R : Addr) (rows : List RowIn) : Prop where
  nR : R ≠ b
  lst : H R = some (.lst (refsOf rows))
  all : ∀ r ∈ rows, RowD b lamps H r
  looks : rows.map (·.look) = ks.map V.str
theorem RowsD.of {b : Addr} {lamps ks : List Str} {H H' : Hp} {R : Addr} {rows : List RowIn} (hb : ∃ xs, H b = some (.lst xs)) (s : SameB b H H') (h : RowsD b lamps ks H R rows) : RowsD b lamps ks H' R rows :=
  ⟨h.nR, s _ _ h.nR h.lst, fun r hr => (h.all r hr).of hb s, h.looks⟩
theorem RowsD.length {b : Addr} {lamps ks : List Str} {H : Hp} {R : Addr} {rows : List RowIn} (h : RowsD b lamps ks H R rows) : rows.length = ks.length := by
  have q := congrArg List.length h.looks
  rw [List.length_map, List.length_map] at q
  exact q
/-- a draw keeps everything but the bag -/
theorem draw_same {b : Addr} {H : Hp} {L : List Int} : SameB b H (upd H b (.lst (L.map V.int))) := SameB.upd
def spRows3 : Sp := fun vs H Q _ => ∃ (b a c : Addr) (ls ks : List Str), vs = [.ref b, .ref a, .ref c] ∧ BagIn H b ∧ a ≠ b ∧ c ≠ b ∧ H a = some (.lst (ls.map V.str)) ∧ H c = some (.lst (ks.map V.str)) ∧ ls.length ≤ 24 ∧ ks.length ≤ 24 ∧
  ∀ (H' : Hp) (R : Addr) (rows : List RowIn), SameB b H H' → BagIn H' b → RowsD b ls ks H' R rows → Q (.ref R) H'
theorem map_at {α β : Type} {l : List α} {f : α → β} {i : Nat} {v : β} (h : (l.map f)[i]? = some v) : ∃ x, l[i]? = some x ∧ v = f x := by
  rw [List.getElem?_map] at h
  cases e : l[i]? with
  | none => rw [e] at h; cases h
  | some x => rw [e] at h; exact ⟨x, rfl, (Option.some.inj h).symm⟩
theorem take_at {α : Type} {l : List α} {i : Nat} {x : α} (h : l[i]? = some x) : l.take (i + 1) = l.take i ++ [x] := by
  rw [List.take_succ, h]
  rfl
theorem sub_short {b : Addr} {lamps : List Str} {H : Hp} {r : RowIn} (h : RowD b lamps H r) (n : Nat) (hn : lamps.length ≤ n) : r.xs.length ≤ n := by
  obtain ⟨sh, e, s⟩ := h.sub
  rw [e, List.length_map]
  exact Nat.le_trans s.length_le hn
section
variable {P : Program} {w : World} {K : PySem.W.Frag} {mg : Str → Option Value} {base : Heap}
theorem scFree : FnScope ["_law_bag_here", "_law_lamps", "_law_looks", "_law_rows_here", "_law_look", "_law_shown", "_law_lamp"] ["_law_bag_here", "_law_lamps", "_law_looks"] (defScope sLawFreeRows) := ⟨rfl, rfl, rfl, by decide +kernel, rfl, by decide +kernel, by decide +kernel⟩
theorem ok_free {f : Addr} {fd : FuncData} (F : Fun K "_law_free_rows" "_law_free_rows" sLawFreeRows f fd) (gT : Dfn P w K mg base CX0 1 "_law_take" ["_law_bag_here", "_law_size"] spTake) :
    FnOk P w K mg base CX0 2 f fd ["_law_bag_here", "_law_lamps", "_law_looks"] spRows3 := by
  obtain ⟨fT, dT, mT, kT, bT, GT⟩ := gT
  refine F.ok scFree (fun vs H Q E h => ?_) (fun cdv A outer s H vs Q E hr h => ?_)
  · obtain ⟨a, b, c, ls, ks, rfl, _⟩ := h
    rfl
  · obtain ⟨b, a, c, ls, ks, rfl, hb, hab, hcb, ha, hc, hll, hkl, k⟩ := h
    have hr1 : Room 1 _ := hr
    refine ⟨_, (pss_cons (ps_set (i := 3) scFree.nd rfl (Or.inl rfl) (pe_lst pa_nil))
        (pss_cons (ps_for PassesOwn.never rfl (pi_list (pv 2)) (pg_name (i := 4) scFree.nd rfl (Or.inl rfl)) (pss_cons (ps_set (i := 5) scFree.nd rfl (Or.inl rfl) (pe_lst pa_nil))
        (pss_cons (ps_for PassesOwn.never rfl (pi_list (pv 1)) (pg_name (i := 6) scFree.nd rfl (Or.inl rfl)) (pss_one (ps_if (pt_cmpR op_eq (pe_call GT hr1 (by rfl) mT kT bT .nil pass0 (pa_cons (pv 0) (pa_cons pe_int pa_nil))) pe_int (nomark _)) (pss_one (ps_expr (pe_bm PySem.F.plainAttrs_list PySem.F.slot_list_append PySem.F.type_list_append mt_append (pv 5) (pa_cons (pv 6) pa_nil)))) pss_nil)))
        (pss_one (ps_expr (pe_bm PySem.F.plainAttrs_list PySem.F.slot_list_append PySem.F.type_list_append mt_append (pv 3) (pa_cons (pe_tup (pa_cons (pv 4) (pa_cons (pv 5) pa_nil))) pa_nil)))))))
        (pss_one (ps_ret (pv 3))))), ?_⟩
    refine ⟨Nat.zero_le _, fun R hR => ?_⟩
    obtain ⟨xb, hxb⟩ := hb.lst
    have nRb : R ≠ b := fun e => by rw [e, hxb] at hR; cases hR
    have s0 : Same H (upd H R (.lst [])) := Same.upd_new hR
    refine ⟨_, rfl, c, rfl, ⟨_, SqL.of (s0 _ _ hc)⟩, for_it (walk_list (K := K) (a := c) (xs := ks.map V.str)) (fun i σ H' => ∃ (x4 x5 x6 : Option V) (rows : List RowIn), σ = [some (.ref b), some (.ref a), some (.ref c), some (.ref R), x4, x5, x6] ∧
        SameB b H H' ∧ BagIn H' b ∧ H' R = some (.lst (refsOf rows)) ∧ (∀ r ∈ rows, RowD b ls H' r ∧ r.s ≠ R) ∧ rows.map (·.look) = (ks.take i).map V.str)
      ⟨none, none, none, [], rfl, SameB.of s0, hb.of s0, upd_same, fun r hr => absurd hr (by simp), rfl⟩ (fun i σ H' _ ⟨_, _, _, _, _, s1, _⟩ => SqL.of (s1 _ _ hcb hc)) ?_ ?_⟩
    · rintro i v σ H1 H2 hi ⟨x4, x5, x6, rows, rfl, s1, hb1, hR1, hrs, hlk⟩ ⟨rfl, hv⟩
      obtain ⟨z, hz, rfl⟩ := map_at hv
      refine ⟨Nat.zero_le _, fun u hu => ?_⟩
      have s2 : Same H2 (upd H2 u (.lst [])) := Same.upd_new hu
      obtain ⟨xb1, hxb1⟩ := hb1.lst
      have nub : u ≠ b := fun e => by rw [e, hxb1] at hu; cases hu
      refine ⟨_, rfl, a, rfl, ⟨_, SqL.of (s2 _ _ (s1 _ _ hab ha))⟩, for_it (walk_list (K := K) (a := a) (xs := ls.map V.str)) (fun j σ H' => ∃ (x6 : Option V) (sh : List Str), σ = [some (.ref b), some (.ref a), some (.ref c), some (.ref R), some (.str z), some (.ref u), x6] ∧
          SameB b H2 H' ∧ BagIn H' b ∧ H' u = some (.lst (sh.map V.str)) ∧ sh.Sublist (ls.take j))
        ⟨x6, [], rfl, SameB.of s2, hb1.of s2, upd_same, List.nil_sublist _⟩ (fun j σ H' _ ⟨_, _, _, s3, _⟩ => SqL.of (s3 _ _ hab (s1 _ _ hab ha))) ?_ ?_⟩
      · rintro j y σ H3 H4 hj ⟨x6', sh, rfl, s3, ⟨L3, hb3, ok3⟩, hu3, hsub⟩ ⟨rfl, hy⟩
        obtain ⟨l, hl, rfl⟩ := map_at hy
        refine ⟨_, rfl, b, L3, 2, rfl, hb3, ok3, by decide, by decide, fun L4 r ok4 r0 r1 => ⟨rfl, _, rfl, ?_⟩⟩
        have hlen : sh.length ≤ 24 := Nat.le_trans hsub.length_le (Nat.le_trans (by rw [List.length_take]; omega) hll)
        refine ite2 (fun _ => ?_) (fun _ => ?_)
        · refine ⟨_, rfl, .inl ⟨rfl, _, SqL.of (by rw [upd_ne nub]; exact hu3)⟩, _, rfl, u, _, _, rfl, rfl, by rw [upd_ne nub]; exact hu3, ?_, ?_⟩
          · rw [List.length_map]
            exact small1000 (by omega)
          · refine ⟨_, sh ++ [l], rfl, fun d o n h => ?_, ?_, ?_, ?_⟩
            · rw [upd_ne (ne_of_none h hu), upd_ne n]
              exact s3 d o n h
            · exact ⟨L4, by rw [upd_ne nub.symm, upd_same], ok4⟩
            · rw [upd_same, List.map_append]; rfl
            · rw [take_at hl]
              exact hsub.append (List.Sublist.refl _)
        · refine ⟨_, sh, rfl, s3.trans draw_same, BagIn.upd ok4, by rw [upd_ne nub]; exact hu3, ?_⟩
          rw [take_at hl]
          exact hsub.trans (List.sublist_append_left _ _)
      · rintro σ H3 ⟨x6', sh, rfl, s3, hb3, hu3, hsub⟩
        rw [List.length_map, List.take_length] at hsub
        have hR3 := s3 _ _ nRb hR1
        have nuR : u ≠ R := fun e => by rw [e, hR1] at hu; cases hu
        refine ⟨_, rfl, .inl ⟨rfl, _, SqL.of hR3⟩, _, rfl, _, rfl, by show 2 ≤ sizeLine; decide, fun t ht => ?_⟩
        have ntR : R ≠ t := ne_of_none hR3 ht
        have htl : refsOf rows = (refsOf rows) := rfl
        have hrl : rows.length ≤ 24 := by
          have q := congrArg List.length hlk
          rw [List.length_map, List.length_map, List.length_take] at q
          omega
        refine ⟨R, _, _, rfl, rfl, by rw [upd_ne ntR]; exact hR3, ?_, ?_⟩
        · unfold refsOf
          rw [List.length_map]
          exact small1000 (by omega)
        · have s4 : SameB b H3 (upd H3 t (.tup [.str z, .ref u])) := SameB.of (Same.upd_new ht)
          have ntb : b ≠ t := by obtain ⟨x, hx⟩ := hb3.lst; exact ne_of_none hx ht
          have keepR : ∀ {d : Addr} {o : HO}, d ≠ R → upd H3 t (.tup [.str z, .ref u]) d = some o → upd (upd H3 t (.tup [.str z, .ref u])) R (.lst (refsOf rows ++ [.ref t])) d = some o := fun n h => by
            rw [upd_ne n]; exact h
          refine ⟨_, _, _, rows ++ [⟨t, .str z, u, sh.map V.str⟩], rfl, fun d o n h => ?_, ?_, ?_, fun r hr => ?_, ?_⟩
          · have ndR : d ≠ R := ne_of_none h hR
            exact keepR ndR (s4 _ _ n (s3 _ _ n (s1 _ _ n h)))
          · obtain ⟨L3, e3, o3⟩ := hb3
            exact ⟨L3, keepR nRb.symm (by rw [upd_ne ntb]; exact e3), o3⟩
          · rw [upd_same]
            unfold refsOf
            rw [List.map_append]
            rfl
          · rcases List.mem_append.mp hr with h | h
            · obtain ⟨D, nsR⟩ := hrs r h
              have D4 := (D.of hb1.lst s3).of hb3.lst s4
              exact ⟨⟨D4.look, keepR (ne_tup_lst D.pair hR1) D4.pair, D4.ns, keepR nsR D4.lst, D4.sub⟩, nsR⟩
            · obtain rfl := List.mem_singleton.mp h
              have hu4 : upd H3 t (.tup [.str z, .ref u]) u = some (.lst (sh.map V.str)) := by rw [upd_ne (ne_of_none hu3 ht)]; exact hu3
              exact ⟨⟨⟨z, rfl⟩, keepR ntR.symm upd_same, nub, keepR nuR hu4, ⟨sh, rfl, hsub⟩⟩, nuR⟩
          · rw [List.map_append, hlk, take_at hz, List.map_append]
            rfl
    · rintro σ H1 ⟨x4, x5, x6, rows, rfl, s1, hb1, hR1, hrs, hlk⟩
      rw [List.length_map, List.take_length] at hlk
      exact ⟨_, rfl, k H1 R rows s1 hb1 ⟨nRb, hR1, fun r hr => (hrs r hr).1, hlk⟩⟩
end
end Dl

namespace Dl
open PySem PySem.Spec PyProof.Rows L2
structure TxtR (mg : Str → Option Value) : Prop where
  range : mg "range" = none
  len : mg "len" = none
  list : mg "list" = none
theorem atI0 {α : Type} {xs : List α} {i : Nat} {v : α} (h : xs[i]? = some v) : atI xs (0 + (i : Int)) = some v := by
  rw [Int.zero_add]
  exact atI_nat h
structure EndsD (H : Hp) (e : Addr × Int × Int) : Prop where
  at_ : H e.1 = some (.tup [.int e.2.1, .int e.2.2])
section
variable {P : Program} {w : World} {K : PySem.W.Frag} {mg : Str → Option Value} {base : Heap}
theorem scPlanted : FnScope ["_law_bag_here", "_law_lamps", "_law_looks", "_law_settings", "_law_look", "_law_ends", "_law_lamp", "_law_low", "_law_rows_here", "_law_k", "_law_shown", "_law_j"] ["_law_bag_here", "_law_lamps", "_law_looks"] (defScope sLawPlantedRows) := ⟨rfl, rfl, rfl, by decide +kernel, rfl, by decide +kernel, by decide +kernel⟩
theorem ok_planted {f : Addr} {fd : FuncData} (F : Fun K "_law_planted_rows" "_law_planted_rows" sLawPlantedRows f fd) (T : TxtR mg) (gT : Dfn P w K mg base CX0 1 "_law_take" ["_law_bag_here", "_law_size"] spTake) :
    FnOk P w K mg base CX0 2 f fd ["_law_bag_here", "_law_lamps", "_law_looks"] spRows3 := by
  obtain ⟨fT, dT, mT, kT, bT, GT⟩ := gT
  refine F.ok scPlanted (fun vs H Q E h => ?_) (fun cdv A outer s H vs Q E hr h => ?_)
  · obtain ⟨a, b, c, ls, ks, rfl, _⟩ := h
    rfl
  · obtain ⟨b, a, c, ls, ks, rfl, hb, hab, hcb, ha, hc, hll, hkl, k⟩ := h
    have hr1 : Room 1 _ := hr
    refine ⟨_, (pss_cons (ps_set (i := 3) scPlanted.nd rfl (Or.inr rfl) (pe_lst pa_nil))
        (pss_cons (ps_for PassesOwn.never rfl (pi_list (pv 2)) (pg_name (i := 4) scPlanted.nd rfl (Or.inl rfl)) (pss_one (ps_expr (pe_bm PySem.F.plainAttrs_list PySem.F.slot_list_append PySem.F.type_list_append mt_append (pv 3) (pa_cons (pe_call GT hr1 (by rfl) mT kT bT .nil pass0 (pa_cons (pv 0) (pa_cons pe_int pa_nil))) pa_nil)))))
        (pss_cons (ps_set (i := 5) scPlanted.nd rfl (Or.inr rfl) (pe_lst pa_nil))
        (pss_cons (ps_for PassesOwn.never rfl (pi_list (pv 1)) (pg_name (i := 6) scPlanted.nd rfl (Or.inl rfl)) (pss_cons (ps_set (i := 7) scPlanted.nd rfl (Or.inl rfl) (pe_call GT hr1 (by rfl) mT kT bT .nil pass0 (pa_cons (pv 0) (pa_cons pe_int pa_nil))))
        (pss_one (ps_expr (pe_bm PySem.F.plainAttrs_list PySem.F.slot_list_append PySem.F.type_list_append mt_append (pv 5) (pa_cons (pe_tup (pa_cons (pv 7) (pa_cons (pe_op op_sub (pe_op op_add (pv 7) (pe_call GT hr1 (by rfl) mT kT bT .nil pass0 (pa_cons (pv 0) (pa_cons pe_int pa_nil)))) pe_int) pa_nil))) pa_nil))))))
        (pss_cons (ps_set (i := 8) scPlanted.nd rfl (Or.inl rfl) (pe_lst pa_nil))
        (pss_cons (ps_for PassesOwn.never rfl (pi_range1 (by rfl) T.range (pa_cons (pe_callB call_len_seq (by rfl) T.len PySem.boot_len (pa_cons (pv 2) pa_nil)) pa_nil)) (pg_name (i := 9) scPlanted.nd rfl (Or.inr rfl)) (pss_cons (ps_setLc (i := 10) (own := [("_law_j", 11)]) (g := gName 11) rfl scPlanted.nd rfl rfl (sw_true rfl rfl rfl (by decide +kernel)) (pi_range1 (by rfl) T.range (pa_cons (pe_callB call_len_seq (by rfl) T.len PySem.boot_len (pa_cons (pv 1) pa_nil)) pa_nil)) (blkOk_by (N := ["_law_bag_here", "_law_lamps", "_law_looks", "_law_settings", "_law_look", "_law_ends", "_law_lamp", "_law_low", "_law_rows_here", "_law_k", "_law_shown", "_law_j"]) (sc := defScope sLawPlantedRows) (by decide +kernel)) (fun _ _ _ _ _ => (pg_name (i := 11) scPlanted.nd rfl (Or.inl rfl))) (fun _ _ _ _ _ => (pts_one (PW.pt (pw_and (pt_cmpR op_le (pe_ix (by exact ix_tup : IxR _ (rIxT K)) (pe_ix (by exact ix_list : IxR _ (rIxL K)) (pv 5) (pv 11) (fun _ _ => rfl)) pe_int (fun _ _ => rfl)) (pe_ix (by exact ix_list : IxR _ (rIxL K)) (pv 3) (pv 9) (fun _ _ => rfl)) (nomark _)) (pw_and1 (pt_cmpR op_le (pe_ix (by exact ix_list : IxR _ (rIxL K)) (pv 3) (pv 9) (fun _ _ => rfl)) (pe_ix (by exact ix_tup : IxR _ (rIxT K)) (pe_ix (by exact ix_list : IxR _ (rIxL K)) (pv 5) (pv 11) (fun _ _ => rfl)) pe_int (fun _ _ => rfl)) (nomark _))))))) (fun _ _ _ _ _ => (pe_ix (by exact ix_list : IxR _ (rIxL K)) (pv 1) (pv 11) (fun _ _ => rfl))))
        (pss_one (ps_expr (pe_bm PySem.F.plainAttrs_list PySem.F.slot_list_append PySem.F.type_list_append mt_append (pv 8) (pa_cons (pe_tup (pa_cons (pe_ix ix_list (pv 2) (pv 9) (fun _ _ => rfl)) (pa_cons (pv 10) pa_nil))) pa_nil))))))
        (pss_one (ps_ret (pv 8))))))))), ?_⟩
    -- settings
    refine ⟨Nat.zero_le _, fun st hst => ?_⟩
    obtain ⟨xb, hxb⟩ := hb.lst
    have nsb : st ≠ b := fun e => by rw [e, hxb] at hst; cases hst
    have s0 : Same H (upd H st (.lst [])) := Same.upd_new hst
    refine ⟨_, rfl, c, rfl, ⟨_, SqL.of (s0 _ _ hc)⟩, for_it (walk_list (K := K) (a := c) (xs := ks.map V.str)) (fun i σ H' => ∃ (x4 : Option V) (S : List Int), σ = [some (.ref b), some (.ref a), some (.ref c), some (.ref st), x4, none, none, none, none, none, none, none] ∧
        SameB b H H' ∧ BagIn H' b ∧ H' st = some (.lst (S.map V.int)) ∧ S.length = i)
      ⟨none, [], rfl, SameB.of s0, hb.of s0, upd_same, rfl⟩ (fun i σ H' _ ⟨_, _, _, s1, _⟩ => SqL.of (s1 _ _ hcb hc)) ?_ ?_⟩
    · rintro i v σ H1 H2 hi ⟨x4, S, rfl, s1, ⟨L1, hb1, ok1⟩, hS, hlS⟩ ⟨rfl, hv⟩
      rw [List.length_map] at hi
      refine ⟨_, rfl, .inl ⟨rfl, _, SqL.of hS⟩, _, rfl, b, L1, 9, rfl, hb1, ok1, by decide, by decide, fun L2 r ok2 r0 r1 => ?_⟩
      refine ⟨st, _, _, rfl, rfl, by rw [upd_ne nsb]; exact hS, ?_, ?_⟩
      · rw [List.length_map]
        exact small1000 (by omega)
      · refine ⟨_, S ++ [r], rfl, fun d o n h => ?_, ⟨L2, by rw [upd_ne nsb.symm, upd_same], ok2⟩, by rw [upd_same, List.map_append]; rfl, by rw [List.length_append, hlS]; rfl⟩
        rw [upd_ne (ne_of_none h hst), upd_ne n]
        exact s1 d o n h
    rintro σ H1 ⟨x4, S, rfl, s1, hb1, hS, hlS⟩
    rw [List.length_map] at hlS
    -- ends
    refine ⟨Nat.zero_le _, fun en hen => ?_⟩
    obtain ⟨xb1, hxb1⟩ := hb1.lst
    have neb : en ≠ b := fun e => by rw [e, hxb1] at hen; cases hen
    have s2 : Same H1 (upd H1 en (.lst [])) := Same.upd_new hen
    refine ⟨_, rfl, a, rfl, ⟨_, SqL.of (s2 _ _ (s1 _ _ hab ha))⟩, for_it (walk_list (K := K) (a := a) (xs := ls.map V.str)) (fun i σ H' => ∃ (x6 x7 : Option V) (es : List (Addr × Int × Int)),
        σ = [some (.ref b), some (.ref a), some (.ref c), some (.ref st), x4, some (.ref en), x6, x7, none, none, none, none] ∧
        SameB b H1 H' ∧ BagIn H' b ∧ H' en = some (.lst (es.map fun e => V.ref e.1)) ∧ (∀ e ∈ es, EndsD H' e) ∧ es.length = i)
      ⟨none, none, [], rfl, SameB.of s2, hb1.of s2, upd_same, fun e he => absurd he (by simp), rfl⟩ (fun i σ H' _ ⟨_, _, _, _, s3, _⟩ => SqL.of (s3 _ _ hab (s1 _ _ hab ha))) ?_ ?_⟩
    · rintro i v σ H2 H3 hi ⟨x6, x7, es, rfl, s3, ⟨L3, hb3, ok3⟩, hE, hes, hle⟩ ⟨rfl, hv⟩
      rw [List.length_map] at hi
      refine ⟨_, rfl, b, L3, 9, rfl, hb3, ok3, by decide, by decide, fun L4 lo ok4 lo0 lo1 => ?_⟩
      refine ⟨_, rfl, .inl ⟨rfl, _, SqL.of (by rw [upd_ne neb]; exact hE)⟩, _, rfl, _, rfl, _, rfl, b, L4, 7, rfl, upd_same, ok4, by decide, by decide, fun L5 q ok5 q0 q1 => ?_⟩
      refine ⟨_, _, rfl, rfl, _, _, rfl, rfl, by show 2 ≤ sizeLine; decide, fun t ht => ?_⟩
      obtain ⟨ht0, ntb⟩ := upd_none ht
      have ht1 : H3 t = none := (upd_none ht0).1
      have net : en ≠ t := ne_of_none hE ht1
      refine ⟨en, _, _, rfl, rfl, by rw [upd_ne net, upd_ne neb, upd_ne neb]; exact hE, ?_, ?_⟩
      · rw [List.length_map]
        exact small1000 (by omega)
      · have keep : ∀ {d : Addr} {o : HO}, d ≠ b → d ≠ en → H3 d = some o → upd (upd (upd (upd H3 b (.lst (L4.map V.int))) b (.lst (L5.map V.int))) t (.tup [.int lo, .int (lo + q - 1)])) en (.lst ((es.map fun e => V.ref e.1) ++ [.ref t])) d = some o := fun nb ne h => by
          rw [upd_ne ne, upd_ne (ne_of_none h ht1), upd_ne nb, upd_ne nb]; exact h
        refine ⟨_, _, es ++ [(t, lo, lo + q - 1)], rfl, fun d o n h => ?_, ⟨L5, ?_, ok5⟩, ?_, fun e he => ?_, by rw [List.length_append, hle]; rfl⟩
        · exact keep n (ne_of_none h hen) (s3 d o n h)
        · rw [upd_ne neb.symm, upd_ne ntb.symm, upd_same]
        · rw [upd_same, List.map_append]; rfl
        · rcases List.mem_append.mp he with h | h
          · have q := (hes e h).at_
            exact ⟨keep (ne_tup_lst q hb3) (ne_tup_lst q hE) q⟩
          · obtain rfl := List.mem_singleton.mp h
            exact ⟨by rw [upd_ne net.symm, upd_same]⟩
    rintro σ H2 ⟨x6, x7, es, rfl, s3, hb3, hE, hes, hle⟩
    rw [List.length_map] at hle
    have s13 : SameB b H H2 := s1.trans s3
    have ha2 := s13 _ _ hab ha
    have hc2 := s13 _ _ hcb hc
    have hS2 := s3 _ _ nsb hS
    -- rows
    refine ⟨Nat.zero_le _, fun R hR => ?_⟩
    obtain ⟨xb3, hxb3⟩ := hb3.lst
    have nRb : R ≠ b := fun e => by rw [e, hxb3] at hR; cases hR
    have s4 : Same H2 (upd H2 R (.lst [])) := Same.upd_new hR
    refine ⟨_, rfl, c, _, rfl, .inl (SqL.of (s4 _ _ hc2)), _, rfl, by omega, by rw [List.length_map]; omega, for_range (n := (((ks.map V.str).length : Nat) : Int).toNat) (lo := 0) (fun i σ H' => ∃ (x9 x10 : Option V) (rows : List RowIn),
        σ = [some (.ref b), some (.ref a), some (.ref c), some (.ref st), x4, some (.ref en), x6, x7, some (.ref R), x9, x10, none] ∧
        Same H2 H' ∧ H' R = some (.lst (refsOf rows)) ∧ (∀ r ∈ rows, RowD b ls H' r ∧ r.s ≠ R) ∧ rows.map (·.look) = (ks.take i).map V.str)
      ⟨none, none, [], rfl, s4, upd_same, fun r hr => absurd hr (by simp), rfl⟩ ?_ ?_⟩
    · rintro i σ H3 hi ⟨x9, x10, rows, rfl, s5, hR3, hrs, hlk⟩
      have hik : i < ks.length := by
        rw [List.length_map] at hi
        omega
      have hSi : (S.map V.int)[i]? = some (.int S[i]) := by rw [List.getElem?_map, List.getElem?_eq_getElem (by omega)]; rfl
      have hki : (ks.map V.str)[i]? = some (.str ks[i]) := by rw [List.getElem?_map, List.getElem?_eq_getElem hik]; rfl
      refine ⟨_, rfl, a, _, rfl, .inl (SqL.of (s5 _ _ ha2)), _, rfl, by omega, by rw [List.length_map]; omega, fun D hD => lc_range (lo := 0) (n := (((ls.map V.str).length : Nat) : Int).toNat) (fun j H' => ∃ sh : List Str, H' = upd H3 D (.lst (sh.map V.str)) ∧ sh.Sublist (ls.take j)) ⟨[], rfl, List.nil_sublist _⟩ ?_ ?_⟩
      · rintro j H4 hj ⟨sh, rfl, hsub⟩
        have s6 : Same H3 (upd H3 D (.lst (sh.map V.str))) := Same.upd_new hD
        have s56 := s5.trans s6
        have hjl : j < ls.length := by
          rw [List.length_map] at hj
          omega
        have hje : j < es.length := by omega
        have hEj : (es.map fun e => V.ref e.1)[j]? = some (.ref es[j].1) := by rw [List.getElem?_map, List.getElem?_eq_getElem hje]; rfl
        have hEt := s56 _ _ (hes _ (List.getElem_mem hje)).at_
        have hlj : (ls.map V.str)[j]? = some (.str ls[j]) := by rw [List.getElem?_map, List.getElem?_eq_getElem hjl]; rfl
        have grow : sh.Sublist (ls.take (j + 1)) ∧ (sh ++ [ls[j]]).Sublist (ls.take (j + 1)) := by
          rw [take_at (List.getElem?_eq_getElem hjl)]
          exact ⟨hsub.trans (List.sublist_append_left _ _), hsub.append (List.Sublist.refl _)⟩
        have hlen : sh.length ≤ 24 := Nat.le_trans hsub.length_le (Nat.le_trans (by rw [List.length_take]; omega) hll)
        refine ⟨rfl, _, rfl, _, rfl, en, _, _, _, rfl, rfl, SqL.of (s56 _ _ hE), atI0 hEj, es[j].1, _, 0, _, rfl, rfl, SqT.of hEt, rfl, _, rfl, _, rfl, st, _, _, _, rfl, rfl, SqL.of (s56 _ _ hS2), atI0 hSi, _, _, rfl, rfl, _, rfl, ?_⟩
        refine ite2 (fun _ => ?_) (fun _ => ?_)
        · refine ⟨_, rfl, _, rfl, st, _, _, _, rfl, rfl, SqL.of (s56 _ _ hS2), atI0 hSi, _, rfl, _, rfl, en, _, _, _, rfl, rfl, SqL.of (s56 _ _ hE), atI0 hEj, es[j].1, _, 1, _, rfl, rfl, SqT.of hEt, rfl, _, _, rfl, rfl, _, rfl, ?_⟩
          refine ite2 (fun _ => ?_) (fun _ => ?_)
          · refine ⟨_, rfl, _, rfl, a, _, _, _, rfl, rfl, SqL.of (s56 _ _ ha2), atI0 hlj, _, upd_same, ?_, sh ++ [ls[j]], ?_, grow.2⟩
            · rw [List.length_map]
              exact small1000 (by omega)
            · rw [upd_upd, List.map_append]; rfl
          · exact ⟨sh, rfl, grow.1⟩
        · exact ⟨sh, rfl, grow.1⟩
      · rintro H4 ⟨sh, rfl, hsub⟩
        have hsub' : sh.Sublist ls := hsub.trans (List.take_sublist _ _)
        have s6 : Same H3 (upd H3 D (.lst (sh.map V.str))) := Same.upd_new hD
        have s56 := s5.trans s6
        have nRD : R ≠ D := ne_of_none hR3 hD
        refine ⟨_, rfl, .inl ⟨rfl, _, SqL.of (s6 _ _ hR3)⟩, _, rfl, _, rfl, c, _, _, _, rfl, rfl, SqL.of (s56 _ _ hc2), atI0 hki, _, rfl, by show 2 ≤ sizeLine; decide, fun t ht => ?_⟩
        have ht' : upd H3 D (.lst (sh.map V.str)) t = none := ht
        have s7 : Same (upd H3 D (.lst (sh.map V.str))) (upd (upd H3 D (.lst (sh.map V.str))) t (.tup [.str ks[i], .ref D])) := Same.upd_new ht'
        have ntR : R ≠ t := ne_of_none (s6 _ _ hR3) ht'
        have hrl : rows.length ≤ 24 := by
          have q := congrArg List.length hlk
          rw [List.length_map, List.length_map, List.length_take] at q
          omega
        refine ⟨R, _, _, rfl, rfl, s7 _ _ (s6 _ _ hR3), ?_, ?_⟩
        · unfold refsOf
          rw [List.length_map]
          exact small1000 (by omega)
        · have keepR : ∀ {d : Addr} {o : HO}, d ≠ R → upd (upd H3 D (.lst (sh.map V.str))) t (.tup [.str ks[i], .ref D]) d = some o → upd (upd (upd H3 D (.lst (sh.map V.str))) t (.tup [.str ks[i], .ref D])) R (.lst (refsOf rows ++ [.ref t])) d = some o := fun n h => by
            rw [upd_ne n]; exact h
          have nDb : D ≠ b := fun e => by rw [e, s5 _ _ hxb3] at hD; cases hD
          refine ⟨_, _, rows ++ [⟨t, .str ks[i], D, sh.map V.str⟩], rfl, fun d o h => ?_, ?_, fun r hr => ?_, ?_⟩
          · exact keepR (ne_of_none h hR) (s7 _ _ (s56 _ _ h))
          · rw [upd_same]
            unfold refsOf
            rw [List.map_append]
            rfl
          · rcases List.mem_append.mp hr with h | h
            · obtain ⟨Dr, nsR⟩ := hrs r h
              have s67 := s6.trans s7
              exact ⟨⟨Dr.look, keepR (ne_tup_lst Dr.pair hR3) (s67 _ _ Dr.pair), Dr.ns, keepR nsR (s67 _ _ Dr.lst), Dr.sub⟩, nsR⟩
            · obtain rfl := List.mem_singleton.mp h
              exact ⟨⟨⟨ks[i], rfl⟩, keepR ntR.symm upd_same, nDb, keepR nRD.symm (s7 _ _ upd_same), ⟨sh, rfl, hsub'⟩⟩, nRD.symm⟩
          · rw [List.map_append, hlk, take_at (List.getElem?_eq_getElem hik), List.map_append]
            rfl
    · rintro σ H3 ⟨x9, x10, rows, rfl, s5, hR3, hrs, hlk⟩
      have q : (((ks.map V.str).length : Nat) : Int).toNat = ks.length := by rw [List.length_map]; omega
      rw [q, List.take_length] at hlk
      exact ⟨_, rfl, k H3 R rows (s13.trans (SameB.of s5)) (hb3.of s5) ⟨nRb, hR3, fun r hr => (hrs r hr).1, hlk⟩⟩
end
end Dl

namespace Dl
open PySem PySem.Spec PyProof.Rows L2
theorem cut_drop (xs : List V) (i : Nat) : cutV xs (some (i : Int)) none = xs.drop i := by
  unfold cutV
  rw [HT.sIx_nat, HT.sIx_none]
  by_cases h : i ≤ xs.length
  · rw [Nat.min_eq_left h, List.take_of_length_le (by rw [List.length_drop]; omega)]
  · rw [Nat.min_eq_right (by omega), List.drop_eq_nil_of_le (Nat.le_refl _), List.drop_eq_nil_of_le (by omega)]
    simp
/-- the data of rows -/
theorem RowD.dat (K : PySem.W.Frag) {b : Addr} {ls : List Str} {H : Hp} {r : RowIn} (h : RowD b ls H r) (hl : ∀ z ∈ ls, canS z) (hk : ∀ k, r.look = .str k → canS k) : ∃ d, Dp K H (.ref r.t) d ∧ PyData.canLay0 d = true ∧ d.depth ≤ 2 := by
  obtain ⟨k, ek⟩ := h.look
  obtain ⟨sh, es, hs⟩ := h.sub
  have hsh : ∀ z ∈ sh, PyData.canLay0 (.str z) = true := fun z hz => hl z (hs.subset hz)
  refine ⟨.tuple [.str k, .list (sh.map PyData.str)], .tup (SqT.of h.pair) (.cons (by rw [ek]; exact .str k) (.cons (.lst (SqL.of h.lst) (by rw [es]; exact dpAll_strs sh)) .nil)), ?_, ?_⟩
  · rw [PyData.canLay0, PyData.canLayAll0, PyData.canLayAll0, PyData.canLayAll0, show PyData.canLay0 (.str k) = true from hk k ek, PyData.canLay0, canAll_strs hsh]
    rfl
  · simp only [PyData.depth, PyData.depthAll, depthAll_strs]
    decide
theorem rows_dat (K : PySem.W.Frag) {b : Addr} {ls : List Str} {H : Hp} (hl : ∀ z ∈ ls, canS z) : ∀ {rows : List RowIn}, (∀ r ∈ rows, RowD b ls H r ∧ ∀ k, r.look = .str k → canS k) →
    ∃ ds, DpAll K H (refsOf rows) ds ∧ ds.length = rows.length ∧ PyData.canLayAll0 ds = true ∧ PyData.depthAll ds ≤ 2
  | [], _ => ⟨[], .nil, rfl, by simp [PyData.canLayAll0], by simp [PyData.depthAll]⟩
  | r :: q, h => by
    obtain ⟨ds, h1, h2, h3, h4⟩ := rows_dat K hl (rows := q) fun x hx => h x (List.mem_cons_of_mem _ hx)
    obtain ⟨R, hk⟩ := h r (List.mem_cons_self ..)
    obtain ⟨d, d1, d2, d3⟩ := R.dat K hl hk
    refine ⟨d :: ds, .cons d1 h1, by rw [List.length_cons, List.length_cons, h2], ?_, ?_⟩
    · rw [PyData.canLayAll0, d2, h3]; rfl
    · rw [PyData.depthAll]; omega
theorem shaped_list {ds : List PyData} (h1 : PyData.canLayAll0 ds = true) (h2 : PyData.depthAll ds ≤ 2) : SeqAt.shaped (.list ds) = true := by
  unfold SeqAt.shaped
  rw [PyData.canLay0, h1, Bool.true_and, PyData.depth]
  exact decide_eq_true (by omega)
theorem eqv_nil {ds : List PyData} : PyData.eqv (.list ds) (.list []) = decide (ds = []) := by
  cases ds with
  | nil => simp [PyData.eqv, PyData.eqvAll]
  | cons _ _ => simp [PyData.eqv, PyData.eqvAll]
theorem looks_can {b : Addr} {ls ks : List Str} {H : Hp} {R : Addr} {rows : List RowIn} (h : RowsD b ls ks H R rows) (hk : ∀ z ∈ ks, canS z) {r : RowIn} (hr : r ∈ rows) : ∀ k, r.look = .str k → canS k := fun k e => by
  have m : r.look ∈ ks.map V.str := by rw [← h.looks]; exact List.mem_map_of_mem hr
  obtain ⟨z, hz, ez⟩ := List.mem_map.mp m
  rw [e] at ez
  cases ez
  exact hk _ hz
def spFlip : Sp := fun vs H Q _ => ∃ (b a R : Addr) (ls ks : List Str) (rows : List RowIn), vs = [.ref b, .ref a, .ref R] ∧ BagIn H b ∧ a ≠ b ∧ H a = some (.lst (ls.map V.str)) ∧ RowsD b ls ks H R rows ∧ (∀ z ∈ ls, canS z) ∧ (∀ z ∈ ks, canS z) ∧ ls.length ≤ 24 ∧ ks.length ≤ 24 ∧
  ∀ (H' : Hp) (R' : Addr) (rows' : List RowIn), SameB b H H' → BagIn H' b → RowsD b ls ks H' R' rows' → Q (.ref R') H'
def spRows3c : Sp := fun vs H Q _ => ∃ (b a c : Addr) (ls ks : List Str), vs = [.ref b, .ref a, .ref c] ∧ BagIn H b ∧ a ≠ b ∧ c ≠ b ∧ H a = some (.lst (ls.map V.str)) ∧ H c = some (.lst (ks.map V.str)) ∧ (∀ z ∈ ls, canS z) ∧ (∀ z ∈ ks, canS z) ∧ ls.length ≤ 24 ∧ ks.length ≤ 24 ∧
  ∀ (H' : Hp) (R : Addr) (rows : List RowIn), SameB b H H' → BagIn H' b → RowsD b ls ks H' R rows → Q (.ref R) H'
section
variable {P : Program} {w : World} {K : PySem.W.Frag} {mg : Str → Option Value} {base : Heap}
theorem scFlip : FnScope ["_law_bag_here", "_law_lamps", "_law_rows_here", "_law_spot", "_law_lamp", "_law_old", "_law_new", "_law_one"] ["_law_bag_here", "_law_lamps", "_law_rows_here"] (defScope sLawFlipped) := ⟨rfl, rfl, rfl, by decide +kernel, rfl, by decide +kernel, by decide +kernel⟩
theorem ok_flip {f : Addr} {fd : FuncData} (F : Fun K "_law_flipped" "_law_flipped" sLawFlipped f fd) (T : TxtR mg) (gT : Dfn P w K mg base CX0 1 "_law_take" ["_law_bag_here", "_law_size"] spTake) :
    FnOk P w K mg base CX0 2 f fd ["_law_bag_here", "_law_lamps", "_law_rows_here"] spFlip := by
  obtain ⟨fT, dT, mT, kT, bT, GT⟩ := gT
  refine F.ok scFlip (fun vs H Q E h => ?_) (fun cdv A outer s H vs Q E hr h => ?_)
  · obtain ⟨a, b, c, ls, ks, rows, rfl, _⟩ := h
    rfl
  · obtain ⟨b, a, R, ls, ks, rows, rfl, hb, hab, ha, hR, hlc, hkc, hll, hkl, k⟩ := h
    have hr1 : Room 1 _ := hr
    have hrl := hR.length
    refine ⟨_, (pss_cons (ps_if (PW.pt (pw_or (pt_cmpR (op_eqD hr.units) (pv 1) (pe_lst pa_nil) (nomark _)) (pw_or1 (pt_cmpR (op_eqD hr.units) (pv 2) (pe_lst pa_nil) (nomark _))))) (pss_one (ps_ret (pv 2))) pss_nil)
        (pss_cons (ps_set (i := 3) scFlip.nd rfl (Or.inl rfl) (pe_call GT hr1 (by rfl) mT kT bT .nil pass0 (pa_cons (pv 0) (pa_cons (pe_callB call_len_seq (by rfl) T.len PySem.boot_len (pa_cons (pv 2) pa_nil)) pa_nil))))
        (pss_cons (ps_set (i := 4) scFlip.nd rfl (Or.inr rfl) (pe_ix ix_list (pv 1) (pe_call GT hr1 (by rfl) mT kT bT .nil pass0 (pa_cons (pv 0) (pa_cons (pe_callB call_len_seq (by rfl) T.len PySem.boot_len (pa_cons (pv 1) pa_nil)) pa_nil))) (fun _ _ => rfl)))
        (pss_cons (ps_set (i := 5) scFlip.nd rfl (Or.inr rfl) (pe_ix ix_tup (pe_ix ix_list (pv 2) (pv 3) (fun _ _ => rfl)) pe_int (fun _ _ => rfl)))
        (pss_cons (ps_setLc (i := 6) (own := [("_law_one", 7)]) (g := gName 7) rfl scFlip.nd rfl rfl (sw_true rfl rfl rfl (by decide +kernel)) (pi_list (pv 1)) (blkOk_by (N := ["_law_bag_here", "_law_lamps", "_law_rows_here", "_law_spot", "_law_lamp", "_law_old", "_law_new", "_law_one"]) (sc := defScope sLawFlipped) (by decide +kernel)) (fun _ _ _ _ _ => (pg_name (i := 7) scFlip.nd rfl (Or.inl rfl))) (fun _ _ _ _ _ => (pts_one (pt_cmpR op_ne (pe_cmpR (by exact op_in_seq : OpR _ _ (rIn K false)) (pv 7) (pv 5) (by rfl)) (pe_cmpR op_eq (pv 7) (pv 4) (nomark _)) (nomark _)))) (fun _ _ _ _ _ => (pv 7)))
        (pss_one (ps_ret (pe_op op_cat (pe_op op_cat (pe_slice sl_list (pv 2) po_none (po_some (pv 3))) (pe_lst (pa_cons (pe_tup (pa_cons (pe_ix ix_tup (pe_ix ix_list (pv 2) (pv 3) (fun _ _ => rfl)) pe_int (fun _ _ => rfl)) (pa_cons (pv 6) pa_nil))) pa_nil))) (pe_slice sl_list (pv 2) (po_some (pe_op op_add (pv 3) pe_int)) po_none))))))))), ?_⟩
    refine ⟨_, rfl, Nat.zero_le _, fun e1 he1 => ?_⟩
    have s1 : Same H (upd H e1 (.lst [])) := Same.upd_new he1
    refine ⟨.list (ls.map PyData.str), .list [], .lst (SqL.of (s1 _ _ ha)) (dpAll_strs ls), .lst (SqL.of upd_same) .nil, shaped_strs hlc, shaped_list (by simp [PyData.canLayAll0]) (by simp [PyData.depthAll]), _, rfl, ?_⟩
    rw [eqv_nil]
    refine ite2 (fun _ => ⟨_, rfl, k _ R rows (SameB.of s1) (hb.of s1) (hR.of hb.lst (SameB.of s1))⟩) (fun c1 => ?_)
    have hls0 : ls ≠ [] := by simpa using c1
    have hlp : 1 ≤ ls.length := by cases ls with | nil => exact absurd rfl hls0 | cons _ _ => simp
    refine ⟨_, rfl, Nat.zero_le _, fun e2 he2 => ?_⟩
    have s2' : Same (upd H e1 (.lst [])) (upd (upd H e1 (.lst [])) e2 (.lst [])) := Same.upd_new he2
    have s2 := s1.trans s2'
    have hR2 := hR.of hb.lst (SameB.of s2)
    obtain ⟨ds, hd1, hd2, hd3, hd4⟩ := rows_dat K hlc (rows := rows) (H := upd (upd H e1 (.lst [])) e2 (.lst [])) fun r hr => ⟨hR2.all r hr, looks_can hR hkc hr⟩
    refine ⟨.list ds, .list [], .lst (SqL.of hR2.lst) hd1, .lst (SqL.of upd_same) .nil, shaped_list hd3 hd4, shaped_list (by simp [PyData.canLayAll0]) (by simp [PyData.depthAll]), _, rfl, ?_⟩
    rw [eqv_nil]
    refine ite2 (fun _ => ⟨_, rfl, k _ R rows (SameB.of s2) (hb.of s2) hR2⟩) (fun c2 => ?_)
    have hds0 : ds ≠ [] := by simpa using c2
    have hrp : 1 ≤ rows.length := by rw [← hd2]; cases ds with | nil => exact absurd rfl hds0 | cons _ _ => simp
    generalize upd (upd H e1 (.lst [])) e2 (.lst []) = H2 at *
    have ha2 := s2 _ _ ha
    have hb2 := hb.of s2
    obtain ⟨L2, hbl2, ok2⟩ := hb2
    have hlen : (refsOf rows).length = rows.length := by unfold refsOf; rw [List.length_map]
    refine ⟨_, rfl, _, rfl, R, _, rfl, .inl (SqL.of hR2.lst), b, L2, _, rfl, hbl2, ok2, by rw [hlen]; omega, by rw [hlen]; omega, fun L3 q ok3 q0 q1 => ?_⟩
    obtain ⟨q, rfl⟩ := Int.eq_ofNat_of_zero_le q0
    rw [hlen] at q1
    refine ⟨_, rfl, _, rfl, _, rfl, a, _, rfl, .inl (SqL.of (by rw [upd_ne hab]; exact ha2)), b, L3, _, rfl, upd_same, ok3, by rw [List.length_map]; omega, by rw [List.length_map]; omega, fun L4 p ok4 p0 p1 => ?_⟩
    obtain ⟨p, rfl⟩ := Int.eq_ofNat_of_zero_le p0
    rw [List.length_map] at p1
    rw [upd_upd]
    have hpl : p < ls.length := by omega
    have hqr : q < rows.length := by omega
    have s4 : SameB b H2 (upd H2 b (.lst (L4.map V.int))) := draw_same
    have hb4 : BagIn (upd H2 b (.lst (L4.map V.int))) b := BagIn.upd ok4
    have hR4 := hR2.of ⟨_, hbl2⟩ s4
    have ha4 := s4 _ _ hab ha2
    have s04 : SameB b H (upd H2 b (.lst (L4.map V.int))) := (SameB.of s2).trans s4
    generalize upd H2 b (.lst (L4.map V.int)) = H4 at *
    have hRq : (refsOf rows)[q]? = some (.ref rows[q].t) := by unfold refsOf; rw [List.getElem?_map, List.getElem?_eq_getElem hqr]; rfl
    have Dq := hR4.all _ (List.getElem_mem hqr)
    refine ⟨a, _, (p : Int), _, rfl, rfl, SqL.of ha4, atI_nat (by rw [List.getElem?_map, List.getElem?_eq_getElem hpl]; rfl), ?_⟩
    refine ⟨_, rfl, _, rfl, R, _, (q : Int), _, rfl, rfl, SqL.of hR4.lst, atI_nat hRq, rows[q].t, _, 1, _, rfl, rfl, SqT.of Dq.pair, rfl, ?_⟩
    obtain ⟨sho, esho, hsho⟩ := Dq.sub
    refine ⟨_, rfl, a, rfl, ⟨_, SqL.of ha4⟩, fun D hD => lc_it (walk_list (K := K) (a := a) (xs := ls.map V.str)) (fun j H' => ∃ sh : List Str, H' = upd H4 D (.lst (sh.map V.str)) ∧ sh.Sublist (ls.take j)) ⟨[], rfl, List.nil_sublist _⟩ (fun j H' _ ⟨sh, e, _⟩ => SqL.of (by rw [e]; exact Same.upd_new hD _ _ ha4)) ?_ ?_⟩
    · rintro j y H5 H6 hj ⟨sh, rfl, hsub⟩ ⟨rfl, hy⟩
      obtain ⟨l, hl, rfl⟩ := map_at hy
      have s6 : Same H4 (upd H4 D (.lst (sh.map V.str))) := Same.upd_new hD
      have hshl : sh.length ≤ 24 := Nat.le_trans hsub.length_le (Nat.le_trans (by rw [List.length_take]; omega) hll)
      refine ⟨rfl, _, rfl, _, rfl, rows[q].s, _, rfl, .inl (SqL.of (s6 _ _ Dq.lst)), rfl, by rw [esho]; exact flat_strs sho, _, rfl, _, rfl, rfl, rfl, _, rfl, ?_⟩
      refine ite2 (fun _ => ?_) (fun _ => ?_)
      · refine ⟨_, rfl, _, upd_same, by rw [List.length_map]; exact small1000 (by omega), sh ++ [l], by rw [upd_upd, List.map_append]; rfl, ?_⟩
        rw [take_at hl]
        exact hsub.append (List.Sublist.refl _)
      · refine ⟨sh, rfl, ?_⟩
        rw [take_at hl]
        exact hsub.trans (List.sublist_append_left _ _)
    rintro H5 ⟨sh, rfl, hsub⟩
    have hsub' : sh.Sublist ls := hsub.trans (List.take_sublist _ _)
    have s5 : Same H4 (upd H4 D (.lst (sh.map V.str))) := Same.upd_new hD
    have hD5 : upd H4 D (.lst (sh.map V.str)) D = some (.lst (sh.map V.str)) := upd_same
    have nDb : D ≠ b := fun e => by obtain ⟨x, hx⟩ := hb4.lst; rw [e, hx] at hD; cases hD
    have hR5 := hR4.of hb4.lst (SameB.of s5)
    have hb5 := hb4.of s5
    have s05 := s04.trans (SameB.of s5 (b := b))
    generalize upd H4 D (.lst (sh.map V.str)) = H5 at *
    have Dq5 := hR5.all _ (List.getElem_mem hqr)
    refine ⟨_, rfl, _, rfl, (q : Int), rfl, R, _, rfl, SqL.of hR5.lst, fun p1' hp1 => ?_⟩
    have t1 : Same H5 (upd H5 p1' (.lst (cutV (refsOf rows) none (some (q : Int))))) := Same.upd_new hp1
    refine ⟨_, rfl, _, rfl, R, _, (q : Int), _, rfl, rfl, SqL.of (t1 _ _ hR5.lst), atI_nat hRq, rows[q].t, _, 0, _, rfl, rfl, SqT.of (t1 _ _ Dq5.pair), rfl, _, rfl, by show 2 ≤ sizeLine; decide, fun t ht => ?_⟩
    have t2 : Same (upd H5 p1' (.lst (cutV (refsOf rows) none (some (q : Int))))) (upd (upd H5 p1' (.lst (cutV (refsOf rows) none (some (q : Int))))) t (.tup [rows[q].look, .ref D])) := Same.upd_new ht
    refine ⟨by show 1 ≤ sizeLine; decide, fun p2 hp2 => ?_⟩
    have t3 := Same.upd_new hp2 (o := .lst [.ref t])
    have lens : (cutV (refsOf rows) none (some (q : Int))).length ≤ 24 := Nat.le_trans (cutV_length _ _ _) (by rw [hlen, hrl]; exact hkl)
    refine ⟨p1', p2, _, _, rfl, rfl, t3 _ _ (t2 _ _ upd_same), upd_same, Nat.le_of_lt (small1000 (by simp; omega)), fun p3 hp3 => ?_⟩
    have t4 := Same.upd_new hp3 (o := .lst (cutV (refsOf rows) none (some (q : Int)) ++ [.ref t]))
    have tt := t1.trans (t2.trans (t3.trans t4))
    refine ⟨_, rfl, _, rfl, _, _, rfl, rfl, (q : Int) + 1, rfl, R, _, rfl, SqL.of (tt _ _ hR5.lst), fun p4 hp4 => ?_⟩
    have t5 := Same.upd_new hp4 (o := .lst (cutV (refsOf rows) (some ((q : Int) + 1)) none))
    have lens2 : (cutV (refsOf rows) (some ((q : Int) + 1)) none).length ≤ 24 := Nat.le_trans (cutV_length _ _ _) (by rw [hlen, hrl]; exact hkl)
    refine ⟨p3, p4, _, _, rfl, rfl, t5 _ _ upd_same, upd_same, Nat.le_of_lt (small1000 (by rw [List.length_append]; simp; omega)), fun p5 hp5 => ?_⟩
    have t6 := Same.upd_new hp5 (o := .lst (cutV (refsOf rows) none (some (q : Int)) ++ [.ref t] ++ cutV (refsOf rows) (some ((q : Int) + 1)) none))
    have all := tt.trans (t5.trans t6)
    have nb5 : p5 ≠ b := fun e => by
      obtain ⟨x, hx⟩ := hb5.lst
      have := (tt.trans t5) _ _ hx
      rw [e, this] at hp5
      cases hp5
    refine k _ p5 (rows.take q ++ [⟨t, rows[q].look, D, sh.map V.str⟩] ++ rows.drop (q + 1)) (s05.trans (SameB.of all)) (hb5.of all) ⟨nb5, ?_, fun r hr => ?_, ?_⟩
    · have e2 : ((q : Nat) : Int) + 1 = ((q + 1 : Nat) : Int) := by omega
      rw [upd_same, cut_take, e2, cut_drop]
      unfold refsOf
      rw [List.map_append, List.map_append, List.map_take, List.map_drop]
      rfl
    · have old : ∀ r ∈ rows, RowD b ls _ r := fun r hr => (hR5.all r hr).of hb5.lst (SameB.of all)
      rcases List.mem_append.mp hr with h | h
      · rcases List.mem_append.mp h with h | h
        · exact old r (List.mem_of_mem_take h)
        · obtain rfl := List.mem_singleton.mp h
          exact ⟨Dq5.look, (t3.trans (t4.trans (t5.trans t6))) _ _ upd_same, nDb, all _ _ hD5, ⟨sh, rfl, hsub'⟩⟩
      · exact old r (List.mem_of_mem_drop h)
    · rw [← hR5.looks, List.map_append, List.map_append]
      have hsplit : rows = rows.take q ++ [rows[q]] ++ rows.drop (q + 1) := by
        rw [← take_at (List.getElem?_eq_getElem hqr), List.take_append_drop]
      conv => rhs; rw [hsplit]
      rw [List.map_append, List.map_append]
      rfl
end
end Dl

namespace Dl
open PySem PySem.Spec PyProof.Rows L2
/-- a row as it stands, whatever it holds -/
structure RowG (H : Hp) (r : RowIn) : Prop where
  pair : H r.t = some (.tup [r.look, .ref r.s])
  lst : H r.s = some (.lst r.xs)
theorem RowG.of {H H' : Hp} {r : RowIn} (s : Same H H') (h : RowG H r) : RowG H' r := ⟨s _ _ h.pair, s _ _ h.lst⟩
theorem RowD.g {b : Addr} {ls : List Str} {H : Hp} {r : RowIn} (h : RowD b ls H r) : RowG H r := ⟨h.pair, h.lst⟩
def turned (way : Int) (r : RowIn) : V × List V := (r.look, if way = 1 then r.xs.reverse else r.xs)
def spGiven : Sp := fun vs H Q _ => ∃ (R : Addr) (way : Int) (rows : List RowIn), vs = [.ref R, .int way] ∧ (way = 0 ∨ way = 1) ∧ H R = some (.lst (refsOf rows)) ∧ (∀ r ∈ rows, RowG H r) ∧ rows.length ≤ 900 ∧
  ∀ (H' : Hp) (R' : Addr) (rows' : List RowIn), Same H H' → H R' = none → H' R' = some (.lst (refsOf rows')) → (∀ r ∈ rows', RowG H' r ∧ r.s ≠ R' ∧ H r.s = none) → rows'.map RowIn.dat = rows.map (turned way) → Q (.ref R') H'
section
variable {P : Program} {w : World} {K : PySem.W.Frag} {mg : Str → Option Value} {base : Heap}
theorem scRows : FnScope ["_law_bag_here", "_law_lamps", "_law_looks", "_law_way", "_law_rows_here"] ["_law_bag_here", "_law_lamps", "_law_looks"] (defScope sLawRows) := ⟨rfl, rfl, rfl, by decide +kernel, rfl, by decide +kernel, by decide +kernel⟩
theorem ok_rows {f : Addr} {fd : FuncData} (F : Fun K "_law_rows" "_law_rows" sLawRows f fd) (gT : Dfn P w K mg base CX0 1 "_law_take" ["_law_bag_here", "_law_size"] spTake)
    (gR : Dfn P w K mg base CX0 2 "_law_free_rows" ["_law_bag_here", "_law_lamps", "_law_looks"] spRows3) (gP : Dfn P w K mg base CX0 2 "_law_planted_rows" ["_law_bag_here", "_law_lamps", "_law_looks"] spRows3)
    (gF : Dfn P w K mg base CX0 2 "_law_flipped" ["_law_bag_here", "_law_lamps", "_law_rows_here"] spFlip) : FnOk P w K mg base CX0 3 f fd ["_law_bag_here", "_law_lamps", "_law_looks"] spRows3c := by
  obtain ⟨fT, dT, mT, kT, bT, GT⟩ := gT
  obtain ⟨fFr, dFr, mFr, kFr, bFr, GFr⟩ := gR
  obtain ⟨fPl, dPl, mPl, kPl, bPl, GPl⟩ := gP
  obtain ⟨fFl, dFl, mFl, kFl, bFl, GFl⟩ := gF
  refine F.ok scRows (fun vs H Q E h => ?_) (fun cdv A outer s H vs Q E hr h => ?_)
  · obtain ⟨a, b, c, ls, ks, rfl, _⟩ := h
    rfl
  · obtain ⟨b, a, c, ls, ks, rfl, ⟨L, hb, ok⟩, hab, hcb, ha, hc, hlc, hkc, hll, hkl, k⟩ := h
    have hr2 : Room 2 _ := hr
    have hr1 : Room 1 _ := hr.mono (by decide)
    refine ⟨_, (pss_cons (ps_set (i := 3) scRows.nd rfl (Or.inl rfl) (pe_call GT hr1 (by rfl) mT kT bT .nil pass0 (pa_cons (pv 0) (pa_cons pe_int pa_nil))))
        (pss_cons (ps_if (pt_cmpR op_eq (pv 3) pe_int (nomark _)) (pss_one (ps_ret (pe_call GFr hr2 (by rfl) mFr kFr bFr .nil pass0 (pa_cons (pv 0) (pa_cons (pv 1) (pa_cons (pv 2) pa_nil)))))) pss_nil)
        (pss_cons (ps_set (i := 4) scRows.nd rfl (Or.inl rfl) (pe_call GPl hr2 (by rfl) mPl kPl bPl .nil pass0 (pa_cons (pv 0) (pa_cons (pv 1) (pa_cons (pv 2) pa_nil)))))
        (pss_cons (ps_if (pt_cmpR op_eq (pv 3) pe_int (nomark _)) (pss_one (ps_ret (pv 4))) pss_nil)
        (pss_one (ps_ret (pe_call GFl hr2 (by rfl) mFl kFl bFl .nil pass0 (pa_cons (pv 0) (pa_cons (pv 1) (pa_cons (pv 4) pa_nil)))))))))), ?_⟩
    refine ⟨_, rfl, b, L, 4, rfl, hb, ok, by decide, by decide, fun L2 r ok2 r0 r1 => ?_⟩
    have s1 : SameB b H (upd H b (.lst (L2.map V.int))) := draw_same
    have hb1 : BagIn (upd H b (.lst (L2.map V.int))) b := BagIn.upd ok2
    have ha1 := s1 _ _ hab ha
    have hc1 := s1 _ _ hcb hc
    generalize upd H b (.lst (L2.map V.int)) = H1 at *
    refine ⟨_, rfl, rfl, _, rfl, ?_⟩
    refine ite2 (fun _ => ?_) (fun _ => ?_)
    · exact ⟨_, rfl, _, rfl, _, rfl, b, a, c, ls, ks, rfl, hb1, hab, hcb, ha1, hc1, hll, hkl, fun H' R rows s' hb' hR => k H' R rows (s1.trans s') hb' hR⟩
    · refine ⟨_, rfl, _, rfl, _, rfl, b, a, c, ls, ks, rfl, hb1, hab, hcb, ha1, hc1, hll, hkl, fun H2 R rows s2 hb2 hR2 => ?_⟩
      refine ⟨_, rfl, rfl, _, rfl, ?_⟩
      refine ite2 (fun _ => ?_) (fun _ => ?_)
      · exact ⟨_, rfl, k H2 R rows (s1.trans s2) hb2 hR2⟩
      · exact ⟨_, rfl, _, rfl, _, rfl, b, a, R, ls, ks, rows, rfl, hb2, hab, s2 _ _ hab ha1, hR2, hlc, hkc, hll, hkl, fun H' R' rows' s' hb' hR' => k H' R' rows' (s1.trans (s2.trans s')) hb' hR'⟩
theorem scGiven : FnScope ["_law_rows_here", "_law_way", "_law_given_here", "_law_row", "_law_shown"] ["_law_rows_here", "_law_way"] (defScope sLawGiven) := ⟨rfl, rfl, rfl, by decide +kernel, rfl, by decide +kernel, by decide +kernel⟩
theorem ok_given {f : Addr} {fd : FuncData} (F : Fun K "_law_given" "_law_given" sLawGiven f fd) (T : TxtR mg) : FnOk P w K mg base CX0 1 f fd ["_law_rows_here", "_law_way"] spGiven := by
  refine F.ok scGiven (fun vs H Q E h => ?_) (fun cdv A outer s H vs Q E hr h => ?_)
  · obtain ⟨a, b, rows, rfl, _⟩ := h
    rfl
  · obtain ⟨R, way, rows, rfl, hw, hR, hrw, hrl, k⟩ := h
    refine ⟨_, (pss_cons (ps_set (i := 2) scGiven.nd rfl (Or.inl rfl) (pe_lst pa_nil))
        (pss_cons (ps_for PassesOwn.never rfl (pi_list (pv 0)) (pg_name (i := 3) scGiven.nd rfl (Or.inl rfl)) (pss_cons (ps_set (i := 4) scGiven.nd rfl (Or.inl rfl) (pe_callTy call_list_of (by rfl) T.list (by decide +kernel) (pa_cons (pe_ix ix_tup (pv 3) pe_int (fun _ _ => rfl)) pa_nil)))
        (pss_cons (ps_if (pt_cmpR op_eq (pv 1) pe_int (nomark _)) (pss_one (ps_expr (pe_bm0 PySem.F.plainAttrs_list PySem.F.slot_list_reverse PySem.F.type_list_reverse mt_reverse (pv 4)))) pss_nil)
        (pss_one (ps_expr (pe_bm PySem.F.plainAttrs_list PySem.F.slot_list_append PySem.F.type_list_append mt_append (pv 2) (pa_cons (pe_tup (pa_cons (pe_ix ix_tup (pv 3) pe_int (fun _ _ => rfl)) (pa_cons (pv 4) pa_nil))) pa_nil)))))))
        (pss_one (ps_ret (pv 2))))), ?_⟩
    refine ⟨Nat.zero_le _, fun G hG0 => ?_⟩
    have s0 : Same H (upd H G (.lst [])) := Same.upd_new hG0
    refine ⟨_, rfl, R, rfl, ⟨_, SqL.of (s0 _ _ hR)⟩, for_it (walk_list (K := K) (a := R) (xs := refsOf rows)) (fun i σ H' => ∃ (x3 x4 : Option V) (rows' : List RowIn), σ = [some (.ref R), some (.int way), some (.ref G), x3, x4] ∧ Same H H' ∧ H' G = some (.lst (refsOf rows')) ∧
        (∀ r ∈ rows', RowG H' r ∧ r.s ≠ G ∧ H r.s = none) ∧ rows'.map RowIn.dat = (rows.take i).map (turned way) ∧ rows'.length = i)
      ⟨none, none, [], rfl, s0, upd_same, fun r hr => absurd hr (by simp), rfl, rfl⟩ (fun i σ H' _ ⟨_, _, _, _, s1, _⟩ => SqL.of (s1 _ _ hR)) ?_ ?_⟩
    · rintro i v σ H2 H3 hi ⟨x3, x4, rows', rfl, s2, hG2, hrs, hdat, hlen'⟩ ⟨rfl, hv⟩
      obtain ⟨r, hr', rfl⟩ := map_at (show (rows.map fun r => V.ref r.t)[i]? = some v from hv)
      have hlt : i < rows.length := (List.getElem?_eq_some_iff.mp hr').1
      have hg := hrw r (List.mem_of_getElem? hr')
      refine ⟨_, rfl, r.t, _, 1, .ref r.s, rfl, rfl, SqT.of (hg.of s2).pair, rfl, r.s, _, rfl, .inl (SqL.of (hg.of s2).lst), fun D hD => ?_⟩
      rcases hw with rfl | rfl
      ·
        refine ⟨_, rfl, rfl, _, rfl, ?_⟩
        rw [decide_eq_false (show ¬ V.int 0 = V.int 1 from fun e => by cases e)]
        refine iteF ?_
        have nGD : G ≠ D := ne_of_none hG2 hD
        have hD0 : H D = none := s2.free hD
        refine ⟨_, rfl, .inl ⟨rfl, _, SqL.of (by rw [upd_ne nGD]; exact hG2)⟩, _, rfl, r.t, _, 0, r.look, rfl, rfl, SqT.of ((Same.upd_new hD) _ _ (hg.of s2).pair), rfl, _, rfl, by show 2 ≤ sizeLine; decide, fun t ht => ?_⟩
        have ht0 : H3 t = none := (upd_none ht).1
        have ntG : G ≠ t := ne_of_none hG2 ht0
        have ntD : D ≠ t := (upd_none ht).2.symm
        refine ⟨G, _, _, rfl, rfl, by rw [upd_ne ntG]; rw [upd_ne nGD]; exact hG2, ?_, ?_⟩
        · unfold refsOf
          rw [List.length_map]
          exact small1000 (by omega)
        · have keep : ∀ {d : Addr} {o : HO}, d ≠ G → H3 d = some o → upd (upd (upd H3 D (.lst r.xs)) t (.tup [r.look, .ref D])) G (.lst (refsOf rows' ++ [.ref t])) d = some o := fun n h => by
            rw [upd_ne n, upd_ne (ne_of_none h ht0), upd_ne (ne_of_none h hD)]; exact h
          refine ⟨_, _, rows' ++ [⟨t, r.look, D, r.xs⟩], rfl, fun d o h => keep (ne_of_none h hG0) (s2 _ _ h), by rw [upd_same]; unfold refsOf; rw [List.map_append]; rfl, fun x hx => ?_, ?_, ?_⟩
          · rcases List.mem_append.mp hx with h | h
            · obtain ⟨g, ng, nf⟩ := hrs x h
              exact ⟨⟨keep (ne_tup_lst g.pair hG2) g.pair, keep ng g.lst⟩, ng, nf⟩
            · obtain rfl := List.mem_singleton.mp h
              exact ⟨⟨by rw [upd_ne ntG.symm, upd_same], by rw [upd_ne nGD.symm, upd_ne ntD]; exact upd_same⟩, nGD.symm, hD0⟩
          · rw [List.map_append, hdat, take_at hr', List.map_append]
            rfl
          · rw [List.length_append, hlen']
            rfl
      ·
        refine ⟨_, rfl, rfl, _, rfl, ?_⟩
        rw [decide_eq_true (rfl : V.int 1 = V.int 1)]
        refine iteT ⟨_, rfl, .inl ⟨rfl, _, SqL.of upd_same⟩, D, _, rfl, rfl, upd_same, ?_⟩
        have nGD : G ≠ D := ne_of_none hG2 hD
        have hD0 : H D = none := s2.free hD
        refine ⟨_, rfl, .inl ⟨rfl, _, SqL.of (by rw [upd_upd, upd_ne nGD]; exact hG2)⟩, _, rfl, r.t, _, 0, r.look, rfl, rfl, SqT.of (by rw [upd_upd]; exact (Same.upd_new hD) _ _ (hg.of s2).pair), rfl, _, rfl, by show 2 ≤ sizeLine; decide, fun t ht => ?_⟩
        rw [upd_upd] at ht
        have ht0 : H3 t = none := (upd_none ht).1
        have ntG : G ≠ t := ne_of_none hG2 ht0
        have ntD : D ≠ t := (upd_none ht).2.symm
        refine ⟨G, _, _, rfl, rfl, by rw [upd_ne ntG]; rw [upd_upd, upd_ne nGD]; exact hG2, ?_, ?_⟩
        · unfold refsOf
          rw [List.length_map]
          exact small1000 (by omega)
        · have keep : ∀ {d : Addr} {o : HO}, d ≠ G → H3 d = some o → upd (upd (upd (upd H3 D (.lst r.xs)) D (.lst r.xs.reverse)) t (.tup [r.look, .ref D])) G (.lst (refsOf rows' ++ [.ref t])) d = some o := fun n h => by
            rw [upd_ne n, upd_ne (ne_of_none h ht0), upd_ne (ne_of_none h hD), upd_ne (ne_of_none h hD)]; exact h
          refine ⟨_, _, rows' ++ [⟨t, r.look, D, r.xs.reverse⟩], rfl, fun d o h => keep (ne_of_none h hG0) (s2 _ _ h), by rw [upd_same]; unfold refsOf; rw [List.map_append]; rfl, fun x hx => ?_, ?_, ?_⟩
          · rcases List.mem_append.mp hx with h | h
            · obtain ⟨g, ng, nf⟩ := hrs x h
              exact ⟨⟨keep (ne_tup_lst g.pair hG2) g.pair, keep ng g.lst⟩, ng, nf⟩
            · obtain rfl := List.mem_singleton.mp h
              exact ⟨⟨by rw [upd_ne ntG.symm, upd_same], by rw [upd_ne nGD.symm, upd_ne ntD]; exact upd_same⟩, nGD.symm, hD0⟩
          · rw [List.map_append, hdat, take_at hr', List.map_append]
            rfl
          · rw [List.length_append, hlen']
            rfl
    · rintro σ H2 ⟨x3, x4, rows', rfl, s2, hG2, hrs, hdat, hlen'⟩
      have hlen2 : (refsOf rows).length = rows.length := by unfold refsOf; rw [List.length_map]
      rw [hlen2, List.take_length] at hdat
      exact ⟨_, rfl, k H2 G rows' s2 hG0 hG2 hrs hdat⟩
end
end Dl

namespace Dl
open PySem PySem.Spec PyProof.Rows L2
/-! ### one more look -/
def LN : Str := "longername12"
theorem ln_valid : validN LN = true := by decide +kernel
theorem ln_len : LN.cps.toList.length = 12 := by decide +kernel
theorem rowsApp {ls : List Str} : ∀ {xs ys : List (V × List V)} {acc acc' : List (Str × List Str)}, initRows ls xs acc = .ok acc' → initRows ls (xs ++ ys) acc = initRows ls ys acc'
  | [], ys, acc, acc', h => by cases h; rfl
  | (k, sh) :: r, ys, acc, acc', h => by
    rw [List.cons_append]
    unfold initRows at h
    cases e1 : chkNew k (acc.map (·.1)) with
    | some e => rw [e1] at h; cases h
    | none =>
      rw [e1] at h
      simp only at h
      cases e2 : chkShown sh ls [] with
      | some e => rw [e2] at h; cases h
      | none =>
        rw [e2] at h
        have q := rowsApp (ys := ys) h
        rw [← q]
        rw [initRows, e1, e2]
/-- the word of Table for a table's rows and one more -/
def moreT (ls : List Str) (rs : List (Str × List Str)) (nm : V) (xs : List V) : Except Er (List Str × List (Str × List Str)) :=
  if 24 < rs.length + 1 then .error .many else
  match chkNew nm (rs.map (·.1)) with
  | some e => .error e
  | none => match chkShown xs ls [] with
    | some e => .error e
    | none => .ok (ls, rs ++ [(strOf nm, chosen ls (xs.map strOf))])
theorem init_more {ls : List Str} {rs : List (Str × List Str)} (ok : TabOk ls rs) (nm : V) (xs : List V) : initT (ls.map V.str) (rs.map rdat ++ [(nm, xs)]) = moreT ls rs nm xs := by
  unfold initT moreT
  have e : initRows ls (rs.map rdat) [] = .ok rs := by
    have q := rows_ok' ok.lnd (xs := rs) (acc := []) ok.knd fun x hx => ⟨ok.kval x hx, ok.sub x hx, by simp⟩
    rw [List.nil_append] at q
    exact q
  have lf := ok.lfew
  by_cases h : 24 < rs.length + 1
  · rw [if_pos h, if_pos (by simp only [List.length_append, List.length_map, List.length_cons, List.length_nil]; omega)]
  · rw [if_neg h, if_neg (by rw [List.length_append, List.length_map, List.length_map]; simp only [List.length_cons, List.length_nil]; omega), names_ok ok.lnd ok.lval]
    simp only [rowsApp e]
    rw [initRows]
    cases chkNew nm (rs.map (·.1)) with
    | some er => rfl
    | none =>
      simp only
      cases chkShown xs ls [] with
      | some er => rfl
      | none => rfl
end Dl

namespace Dl
open PySem PySem.Spec PyProof.Rows L2
/-! ### what the laws over drawn tables share -/
def turnOf (way : Int) (x : Str × List Str) : Str × List Str := (x.1, if way = 1 then x.2.reverse else x.2)
def dataOf (x : Str × List Str) : PyData := .tuple [.str x.1, .list (x.2.map PyData.str)]
theorem rows_rs' {b : Addr} {ls : List Str} {H : Hp} : ∀ {rows : List RowIn} {ks : List Str}, (∀ r ∈ rows, RowD b ls H r) → rows.map (·.look) = ks.map V.str → ∃ rs : List (Str × List Str), rows.map RowIn.dat = rs.map rdat ∧ (rs.map fun x : Str × List Str => x.1) = ks ∧ ∀ x ∈ rs, x.2.Sublist ls
  | [], ks, _, e => by
    cases ks with
    | nil => exact ⟨[], rfl, rfl, fun x h => absurd h (by simp)⟩
    | cons _ _ => cases e
  | r :: q, ks, h, e => by
    cases ks with
    | nil => cases e
    | cons k ks =>
      rw [List.map_cons, List.map_cons] at e
      injection e with e1 e2
      obtain ⟨rs, q1, q2, q3⟩ := rows_rs' (rows := q) (ks := ks) (fun x hx => h x (List.mem_cons_of_mem _ hx)) e2
      obtain ⟨sh, s1, s2⟩ := (h r (List.mem_cons_self ..)).sub
      refine ⟨(k, sh) :: rs, ?_, ?_, fun x hx => ?_⟩
      · rw [List.map_cons, List.map_cons, q1]
        have : RowIn.dat r = rdat (k, sh) := by unfold RowIn.dat rdat; rw [e1, s1]
        rw [this]
      · rw [List.map_cons, q2]
      · rcases List.mem_cons.mp hx with h | h
        · rw [h]; exact s2
        · exact q3 x h
theorem NamesOk.bag {zs : List Str} (ok : NamesOk zs) : ∀ z ∈ zs, canS z := fun z h => valid_can (ok.valid h)
theorem tabok_of {ls ks : List Str} {rs : List (Str × List Str)} (okl : NamesOk ls) (okk : NamesOk ks) (e : (rs.map fun x : Str × List Str => x.1) = ks) (sub : ∀ x ∈ rs, x.2.Sublist ls) : TabOk ls rs :=
  ⟨okl.nd, fun z h => okl.valid h, okl.few, by rw [e]; exact okk.nd, fun x h => okk.valid (by rw [← e]; exact List.mem_map_of_mem h), by rw [← List.length_map (f := fun x : Str × List Str => x.1), e]; exact okk.few, sub⟩
theorem turned_map {rows : List RowIn} {rs : List (Str × List Str)} {way : Int} (e : rows.map RowIn.dat = rs.map rdat) : rows.map (turned way) = (rs.map (turnOf way)).map rdat := by
  induction rows generalizing rs with
  | nil => cases rs with
    | nil => rfl
    | cons _ _ => cases e
  | cons r q ih => cases rs with
    | nil => cases e
    | cons x rs =>
      rw [List.map_cons, List.map_cons] at e
      injection e with e1 e2
      rw [List.map_cons, List.map_cons, List.map_cons, ih e2]
      have h1 : r.look = .str x.1 := congrArg Prod.fst e1
      have h2 : r.xs = x.2.map V.str := congrArg Prod.snd e1
      have : turned way r = rdat (turnOf way x) := by
        unfold turned turnOf rdat
        rw [h1, h2]
        by_cases w : way = 1
        · rw [if_pos w, if_pos w, List.map_reverse]
        · rw [if_neg w, if_neg w]
      rw [this]
theorem chosen_turn {ls : List Str} {x : Str × List Str} {way : Int} (h : x.2.Sublist ls) (nd : ls.Nodup) : chosen ls (turnOf way x).2 = x.2 := by
  unfold turnOf
  by_cases w : way = 1
  · simp only [if_pos w]
    have : chosen ls x.2.reverse = chosen ls x.2 := by
      unfold chosen
      apply List.filter_congr
      intro z _
      simp
    rw [this, chosen_sub h nd]
  · simp only [if_neg w]
    exact chosen_sub h nd
theorem turn_rows {ls : List Str} (lnd : ls.Nodup) (way : Int) : ∀ {xs acc : List (Str × List Str)}, (xs.map (·.1)).Nodup → (∀ x ∈ xs, validN x.1 = true ∧ x.2.Sublist ls ∧ x.1 ∉ acc.map (·.1)) → initRows ls ((xs.map (turnOf way)).map rdat) acc = .ok (acc ++ xs)
  | [], acc, _, _ => by rw [List.map_nil, List.map_nil, initRows, List.append_nil]
  | x :: r, acc, nd, h => by
    obtain ⟨h1, h2, h3⟩ := h x (List.mem_cons_self ..)
    rw [List.map_cons, List.nodup_cons] at nd
    have e1 : chkNew (.str x.1) (acc.map (·.1)) = none := by simp only [chkNew, h1, if_true]; rw [if_neg h3]
    have snd : (turnOf way x).2.Nodup := by
      unfold turnOf
      by_cases w : way = 1
      · simp only [if_pos w]; exact List.pairwise_reverse.mpr (List.Pairwise.imp (fun h => Ne.symm h) (h2.nodup lnd))
      · simp only [if_neg w]; exact h2.nodup lnd
    have smem : ∀ z ∈ (turnOf way x).2, z ∈ ls ∧ z ∉ ([] : List Str) := fun z hz => ⟨h2.subset (by
      unfold turnOf at hz
      by_cases w : way = 1
      · simp only [if_pos w] at hz; exact List.mem_reverse.mp hz
      · simp only [if_neg w] at hz; exact hz), by simp⟩
    have e2 : chkShown ((turnOf way x).2.map V.str) ls [] = none := shown_ok' snd smem
    rw [List.map_cons, List.map_cons]
    show initRows ls ((V.str x.1, (turnOf way x).2.map V.str) :: (r.map (turnOf way)).map rdat) acc = _
    rw [initRows, e1, e2]
    show initRows ls ((r.map (turnOf way)).map rdat) (acc ++ [(x.1, chosen ls (((turnOf way x).2.map V.str).map strOf))]) = _
    rw [strs_back, chosen_turn h2 lnd, turn_rows lnd way nd.2 fun y hy => ⟨(h y (List.mem_cons_of_mem _ hy)).1, (h y (List.mem_cons_of_mem _ hy)).2.1, fun m => by
      rw [List.map_append] at m
      rcases List.mem_append.mp m with m | m
      · exact (h y (List.mem_cons_of_mem _ hy)).2.2 m
      · have e : y.1 = x.1 := by simpa using m
        exact nd.1 (by rw [← e]; exact List.mem_map.mpr ⟨y, hy, rfl⟩)⟩, List.append_assoc]
    rfl
theorem init_turn {ls : List Str} {rs : List (Str × List Str)} (ok : TabOk ls rs) (way : Int) : initT (ls.map V.str) ((rs.map (turnOf way)).map rdat) = .ok (ls, rs) := by
  unfold initT
  rw [if_neg (by rw [List.length_map, List.length_map, List.length_map]; have := ok.lfew; have := ok.kfew; omega), names_ok ok.lnd ok.lval]
  have q := turn_rows ok.lnd way (xs := rs) (acc := []) ok.knd fun x hx => ⟨ok.kval x hx, ok.sub x hx, by simp⟩
  rw [List.nil_append] at q
  simp only [q]
theorem dp_rows {K : PySem.W.Frag} {H : Hp} : ∀ {rows : List RowIn} {ts : List (Str × List Str)}, (∀ r ∈ rows, RowG H r) → rows.map RowIn.dat = ts.map rdat → DpAll K H (refsOf rows) (ts.map dataOf)
  | [], ts, _, e => by
    cases ts with
    | nil => exact .nil
    | cons _ _ => cases e
  | r :: q, ts, h, e => by
    cases ts with
    | nil => cases e
    | cons x ts =>
      rw [List.map_cons, List.map_cons] at e
      injection e with e1 e2
      have h1 : r.look = .str x.1 := congrArg Prod.fst e1
      have h2 : r.xs = x.2.map V.str := congrArg Prod.snd e1
      have G := h r (List.mem_cons_self ..)
      have pg := G.pair
      have qg := G.lst
      rw [h1] at pg
      rw [h2] at qg
      exact .cons (.tup (SqT.of pg) (.cons (.str _) (.cons (.lst (SqL.of qg) (dpAll_strs _)) .nil))) (dp_rows (fun y hy => h y (List.mem_cons_of_mem _ hy)) e2)
theorem shaped_rows {ts : List (Str × List Str)} (h : ∀ x ∈ ts, canS x.1 ∧ ∀ z ∈ x.2, canS z) : SeqAt.shaped (.list (ts.map dataOf)) = true := by
  have both : PyData.canLayAll0 (ts.map dataOf) = true ∧ PyData.depthAll (ts.map dataOf) ≤ 2 := by
    induction ts with
    | nil => exact ⟨by simp [PyData.canLayAll0], by simp [PyData.depthAll]⟩
    | cons x r ih =>
      obtain ⟨i1, i2⟩ := ih fun y hy => h y (List.mem_cons_of_mem _ hy)
      obtain ⟨c1, c2⟩ := h x (List.mem_cons_self ..)
      have d1 : PyData.canLay0 (dataOf x) = true := by
        unfold dataOf
        unfold canS at c1
        simp only [PyData.canLay0] at c1
        simp only [PyData.canLay0, PyData.canLayAll0, canAll_strs c2, c1, Bool.and_true]
      have d2 : (dataOf x).depth ≤ 2 := by
        unfold dataOf
        simp only [PyData.depth, PyData.depthAll, depthAll_strs]
        decide
      refine ⟨?_, ?_⟩
      · rw [List.map_cons, PyData.canLayAll0, d1, i1]; rfl
      · rw [List.map_cons, PyData.depthAll]; omega
  exact shaped_list both.1 both.2
theorem ln_len' : LN.length = 12 := by decide +kernel
theorem ln_no {ks : List Str} (ok : NamesOk ks) : LN ∉ ks := fun h => by
  obtain ⟨i, hi, e⟩ := List.getElem_of_mem h
  have q := ((ok.at_ i LN (by rw [List.getElem?_eq_getElem hi, e])).sg (by have := ok.few; omega)).2.2
  rw [ln_len'] at q
  omega
theorem shaped_ofn {d : PyData} (h : PyData.canLay0 d = true) (h2 : d.depth ≤ 4) : SeqAt.shaped d = true := by
  unfold SeqAt.shaped
  rw [h, Bool.true_and]
  exact decide_eq_true (by omega)
theorem eqv_same {d : PyData} (h : SeqAt.shaped d = true) : PyData.eqv d d = true := SeqAt.eqv_refl _ (by
  unfold SeqAt.shaped at h
  exact (Bool.and_eq_true_iff.mp h).1)
section
variable {P : Program} {w : World} {K : PySem.W.Frag} {mg : Str → Option Value} {base : Heap} {C : Cs} {CT : Addr}
/-- Table(list of lamps, list of rows): what the rows as given make -/
theorem make_ok {H7 : Hp} {l R : Addr} {ls : List Str} {ts rs : List (Str × List Str)} {rows : List RowIn} {Q : Hp → Prop} {E : XK} {x dx : Addr} (nx : H7 x = none) (ndx : H7 dx = none) (nex : dx ≠ x) (hl : H7 l = some (.lst (ls.map V.str))) (hR : H7 R = some (.lst (refsOf rows))) (hrw : ∀ r ∈ rows, RowG H7 r) (hd : rows.map RowIn.dat = ts.map rdat)
    (hts : ∀ y ∈ ts, validN y.1 = true ∧ (∀ z ∈ y.2, z ∈ ls) ∧ y.2.length ≤ 24) (hini : initT (ls.map V.str) (ts.map rdat) = .ok (ls, rs)) (lval : ∀ z ∈ ls, validN z = true) (lfew : ls.length ≤ 25) (tfew : ts.length ≤ 25)
    (k : ∀ H8, Same H7 H8 → TableAt CT H8 x ls rs → Q H8) :
    spTabInit2 K CT C (.ref x :: ([.ref l, .ref R] ++ [])) (upd (upd H7 dx (.own x)) x (.ins CT dx [])) (fun v H2 => v = .non ∧ Q H2) E := by
  have sm : Same H7 (upd (upd H7 dx (.own x)) x (.ins CT dx [])) := fun c o e => by
    rw [upd_ne (ne_of_none e nx), upd_ne (ne_of_none e ndx)]; exact e
  have hlen : rows.length = ts.length := by
    have e := congrArg List.length hd
    rw [List.length_map, List.length_map] at e
    exact e
  refine ⟨H7, x, dx, l, R, ls.map V.str, rows, rfl, sm, nx, upd_same, .inl (SqL.of hl), strs_nm lval, by rw [List.length_map]; omega, .inl (SqL.of hR), fun r hr => ?_, by omega, fun ls' rs' e H8 s8 hT8 => ⟨rfl, ?_⟩, fun e he => ?_⟩
  · obtain ⟨i, hi, ei⟩ := List.getElem_of_mem hr
    have hir : i < ts.length := by omega
    have ed : r.dat = rdat ts[i] := by
      have e := congrArg (fun l => l[i]?) hd
      simp only [List.getElem?_map, List.getElem?_eq_getElem hi, List.getElem?_eq_getElem hir, Option.map_some, ei] at e
      exact Option.some.inj e
    obtain ⟨v1, v2, v3⟩ := hts _ (List.getElem_mem hir)
    generalize ts[i] = y at *
    have e1 : r.look = .str y.1 := congrArg Prod.fst ed
    have e2 : r.xs = y.2.map V.str := congrArg Prod.snd ed
    have G := hrw r hr
    refine ⟨SqT.of G.pair, by rw [e1]; exact validN_nm v1, .inl (SqL.of G.lst), by rw [e2]; exact strs_nm fun z hz => lval z (v2 z hz), ?_⟩
    rw [e2, List.length_map]
    omega
  · rw [hd, hini] at e
    cases e
    exact k H8 s8 hT8
  · rw [hd, hini] at he
    cases he
theorem TableAt.ofB {b : Addr} {H H' : Hp} {x : Addr} {ls : List Str} {rs : List (Str × List Str)} (h : TableAt CT H x ls rs) (hb : ∃ xs, H b = some (.lst xs)) (s : SameB b H H') : TableAt CT H' x ls rs := by
  obtain ⟨ys, hb⟩ := hb
  obtain ⟨dx, lt, sd, kt, kvs, hp, hlt, hsd, hkt, hrs⟩ := h
  have ne : ∀ {c : Addr} {o : HO}, H c = some o → (∀ xs, o ≠ .lst xs) → H' c = some o := fun {c o} e n => s _ _ (fun q => by rw [q, hb] at e; cases e; exact n _ rfl) e
  exact ⟨dx, lt, sd, kt, kvs, ne hp (fun _ e => by cases e), ne hlt (fun _ e => by cases e), ne hsd (fun _ e => by cases e), ne hkt (fun _ e => by cases e), hrs.of fun b ys e => ne e (fun _ e => by cases e)⟩
theorem turn_mem {ls : List Str} {rs : List (Str × List Str)} (ok : TabOk ls rs) (way : Int) : ∀ y ∈ rs.map (turnOf way), validN y.1 = true ∧ (∀ z ∈ y.2, z ∈ ls) ∧ y.2.length ≤ 24 := fun y hy => by
  obtain ⟨x, hx, rfl⟩ := List.mem_map.mp hy
  refine ⟨ok.kval x hx, fun z hz => (ok.sub x hx).subset ?_, ?_⟩
  · unfold turnOf at hz
    by_cases w : way = 1
    · simp only [if_pos w] at hz; exact List.mem_reverse.mp hz
    · simp only [if_neg w] at hz; exact hz
  · have := (ok.sub x hx).length_le
    have := ok.lfew
    unfold turnOf
    by_cases w : way = 1
    · simp only [if_pos w, List.length_reverse]; omega
    · simp only [if_neg w]; omega
end
end Dl

/-! an own exception object as a value: C(..) with an own __init__, its fields; C() of a class without own __init__ in a raise; sorted(xs) of a list or tuple of texts -/
namespace Dl
open PySem PySem.Spec PyProof.Rows L2
def tMkX (C : Addr) (sp : Sp) (ta : TA) : TE := fun σ H Q => ta σ H fun vs H1 => vs.length ≤ 1000 ∧ ∀ a, H1 a = none → sp (.ref a :: vs) (upd H1 a (exo a C none)) (fun v H2 => v = .non ∧ Q (.ref a) H2) (fun _ _ _ => False)
def tXv (K : PySem.W.Frag) (f : Str) (te : TE) : TE := fun σ H Q => te σ H fun x H1 => ∃ (a C dd : Addr) (fs : List (Str × V)) (v : V), x = .ref a ∧ H1 a = some (exo a C (some dd)) ∧ H1 dd = some (exd dd fs) ∧ XfC K C ∧ PySem.W.findIn K (.ref C) f = some none ∧ fs.lookup f = some v ∧ Q v H1
section
variable {X : Cx}
theorem pe_mkx {CX : CXT} {x : Str} {C fI : Addr} {k : Nat} {fd : FuncData} {ps : List Str} {sp : Sp} {e : Expr} {es : List Expr} {ta : TA} {p pos : Pos} (T : OexC X.K C) (iC : PySem.W.findIn X.K (.ref C) "__init__" = some (some (.ref fI))) (tI : PySem.W.typeIn X.K (.ref fI) = some (.type "function"))
    (F1 : FnOk X.prog X.w X.K X.mg X.base CX k fI fd ps sp) (hr : Room (k + 1) X.A) (hb : Binds X.K fd ps []) (hx : Passes CX X (fun _ _ _ => False)) (hg : Gl X x) (hm : X.mg x = some (.ref C)) (ha : PA X (e :: es) ta)
    (hdb : (x == ("__debug__" : Str)) = false := by decide) (he : starEach (e :: es) X.env = (false, eval e X.env) :: starEach es X.env := by rfl) (hpl : (backTo pos (starEach es X.env)).any (·.1) = false := by rfl) :
    PE X (.Call (.Name x p) (e :: es) [] pos) (tMkX C sp ta) := by
  refine ⟨fun pins s σ H Q I h => ?_⟩
  obtain ⟨nm, q, N, bs, bm, sn, sub, ab, col, dd, k0, k1, k2, k3, k5, hC, hbm⟩ := T.cls
  refine wpAny_Call_Name_kw (ld_glob I hg hm ?_ hdb)
  refine PySem.W.callWith_K (h₀ := X.base) I.ok.mod.kin T.kC (thn (ha.run pos pins s σ H _ I h) fun us s1 ⟨vs, H1, I1, r1, hz, q1⟩ => ⟨I1.kIn, ?_⟩) he hpl
  show wpAny _ _ (call (.ref C) us) _ _ _
  obtain ⟨hp, g, dr, tk, os⟩ := s1
  have hsz : hp.objs.size ≤ hp.objs.size + 1 := Nat.le_succ _
  have hn : H1 (hp.objs.size + 1) = none := I1.hok.fresh hsz
  have hq := q1 (hp.objs.size + 1) hn
  have kk : ∀ b o, hp.get? b = some o → ((hp.push (PySem.W.kdv_tup us)).push (PySem.HandSPX.excO C hp.objs.size)).get? b = some o := fun b o e => Heap.get?_push_of_some _ (Heap.get?_push_of_some _ e)
  have hget : ((hp.push (PySem.W.kdv_tup us)).push (PySem.HandSPX.excO C hp.objs.size)).get? (hp.objs.size + 1) = some (PySem.HandSPX.excO C hp.objs.size) := by heap_get
  have I2 : Inv X pins σ (upd H1 (hp.objs.size + 1) (exo (hp.objs.size + 1) C none)) ⟨(hp.push (PySem.W.kdv_tup us)).push (PySem.HandSPX.excO C hp.objs.size), g, dr, tk, os⟩ :=
    I1.laid (t' := tk) (a := hp.objs.size + 1) (o := exo (hp.objs.size + 1) C none) (h' := (hp.push (PySem.W.kdv_tup us)).push (PySem.HandSPX.excO C hp.objs.size)) kk hsz (exo_ok hget)
  have r2 : Vals (V.ref (hp.objs.size + 1) :: vs) (Value.ref (hp.objs.size + 1) :: us) := .cons rfl r1
  have hl : (Value.ref (hp.objs.size + 1) :: us).length = ps.length := by
    have e := r2.length
    rw [F1.len _ _ _ _ hq] at e
    exact e.symm
  have hus : us.length ≤ sizeLine := by
    rw [← Paired.length r1, sizeLine_eq]
    omega
  have hb' := hb _ (Value.ref (hp.objs.size + 1) :: us) I2.kIn (by rw [List.append_nil]; exact hl)
  rw [List.append_nil] at hb'
  refine wpAny_call (PySem.HandSPX.call_own F.excBase_ValueError (fun Y => PySem.HandSPX.refsVE_contains Y bm hbm) (I1.kIn _ _ hC) (PySem.W.looks_findIn I1.kIn iC) (fun self => PySem.W.bind_fn I1.kIn self tI) hus
    (codeAny_mono (F1.run _ X.stack _ _ ⟨Value.ref (hp.objs.size + 1) :: us, []⟩ (Value.ref (hp.objs.size + 1) :: us) _ _ (fun _ _ _ => False) (hr.make C us []) (I2.env0.make C us []) hb' r2 hq) fun r s' hq' => ?_))
  cases r with
  | error er => exact hx pins σ _ _ er s' I2 hq'
  | ok fl =>
    cases fl with
    | ret u =>
      obtain ⟨v, H2, os2, bare2, un2, hok2, rv, ev, q2⟩ := hq'
      subst ev
      obtain ⟨h2, g2, d2, t2, os'⟩ := s'
      exact ⟨rv, .ref (hp.objs.size + 1), H2, I2.call' (ch := []) os2 un2 hok2 bare2 (fun b z => absurd z (by simp)), rfl, q2⟩
    | next => exact False.elim hq'
    | brk => exact False.elim hq'
    | cont => exact False.elim hq'
theorem pe_xv {e : Expr} {te : TE} {pos : Pos} {n : Str} (he : PE X e te) (hb : attributeBase e n X.env (eval e X.env) = eval e X.env := by rfl) : PE X (.Attribute e n pos) (tXv X.K n te) := by
  refine ⟨fun pins s σ H Q I h => ?_⟩
  refine attr_of hb (thn (he.run pins s σ H _ I h) fun u s1 hh => ?_)
  obtain ⟨x, H1, I1, rx, a, C, dd, fs, v, ex, ea, ed, T, hno, l, q⟩ := hh
  subst ex
  obtain rfl : u = Value.ref a := rx
  obtain ⟨t0, hoe⟩ := exo_at I1.hok ea
  obtain ⟨mA, hns, hr⟩ := exd_at I1.hok ed
  obtain ⟨od, ho, hl⟩ := lookIn_ns hns
  obtain ⟨u, hu, ru⟩ := RelO.some_of (v := v) (o := mA n) (by rw [← l]; exact hr n)
  have J : PySem.W.InstAt s1.heap a ({ cls := .ref C, dict := some dd, data := .fields #[.ref t0, .none, .none, .none, .bool false, .none] } : Obj) C (some od) := ⟨hoe, rfl, rfl, ho⟩
  exact HandSPX.exc_get I1.kIn J T.ga T.gg T.exC (PySem.W.findObj_own T.hdC hno rfl (by rw [hl, hu])) (handed_of ru) ⟨v, H1, I1.tok _, ru, q⟩
theorem pmk_own0 {C : Addr} {bmB : List Value} {B newId initId : String} {x : Str} {p pos : Pos} (F : ExcBaseFacts B newId initId bmB) (q : PySem.W.excIn X.K C bmB newId = true) (gC : X.mg x = some (.ref C))
    (kC : PySem.W.keepIn X.K (.ref C) = true) (r : Raises X (.ref C)) (hg : Gl X x) (hdb : (x == ("__debug__" : Str)) = false := by decide) :
    PMk X (.Call (.Name x p) [] [] pos) (fun _ H Q => Q (.ref C) none H) := by
  intro pins s σ H Q I h
  refine wpAny_Call_Name_kw (ld_glob I hg gC ?_ hdb)
  refine PySem.W.callWith_K0 I.kIn kC ?_
  show wpAny _ _ (call (.ref C) []) _ _ _
  obtain ⟨bm, N, nm, qn, bs, hdct, sn, sub, ab, col, dd, k0, k1, k2, k3, k5, mN, hC, hN, hni, T⟩ := exc_obj I.kIn q
  refine wpAny_call_exc_subT F T hC hN hni (fun h' e hm => ?_) (Nat.zero_le _)
  exact mk_of I hm r h (I.hok.gone hm.new)
/-- sorted(t) of a tuple of texts -/
def rSortedST (K : PySem.W.Frag) : List V → Hp → VK → Prop := fun vs H Q => ∃ (a : Addr) (xs : List Str), vs = [V.ref a] ∧ SqT K H a (xs.map V.str) ∧ xs.length < 64 ∧
    ∀ ys p, ys.Perm xs → sortedS ys = true → H p = none → Q (.ref p) (upd H p (.lst (ys.map V.str)))
theorem cr_sortedST : CallR X (.builtin "sorted") (rSortedST X.K) := by
  intro pins s σ H vs us Q I r h
  obtain ⟨a, xs, rfl, hs, h64, q⟩ := h
  obtain ⟨its, rv, ht, _⟩ := I.tuple hs
  rw [Vals.ref1 r]
  have hlen0 := rv.length
  rw [List.length_map] at hlen0
  have hl64 : its.length < 64 := by omega
  have hS : StrsAre its xs := rv.strs
  obtain ⟨o, ho, hc, n, hd⟩ := id ht
  refine Calls.call_function_entry PyProof.Rows.kind_sorted PyProof.Rows.plain_sorted PyProof.Rows.entry_sorted (PyProof.Rows.args_sorted1 _) ?_
  unfold Builtin.«sorted»
  refine wpAny_bind (m := checkCount "sorted" 1 1 _) (wpAny_pure ?_)
  refine wpAny_bind (wpAny_collect_seq (A := X.A.in1) a (.inr rfl) ho hc hd (fun h' hk => ?_) (by show its.toArray.size ≤ sizeLine; rw [List.size_toArray, sizeLine_eq]; omega))
  rw [List.toList_toArray]
  have I1 : Inv X pins σ H { s with heap := h', toks := s.toks } := I.kept hk
  refine wpAny_bind (wpAny_newList ?_ (by rw [sizeLine_eq]; omega))
  have hoL : (h'.push (seqObj "list" its.toArray 0)).get? h'.objs.size = some (seqObj "list" its.toArray 0) := Heap.get?_push_size _ rfl
  show wpAny _ _ _ _ _ { s with heap := h'.push (seqObj "list" its.toArray 0) }
  refine wpAny_bind (wpAny_holding (wpAny_call_entry PyProof.Rows.slot_list_sort ⟨_, hoL, rfl⟩ PyProof.Rows.entry_list_sort
    (list_sort_treeK strKind_oneLt (s := { s with heap := h'.push (seqObj "list" its.toArray 0) }) hoL hS.keysOf (fun v₁ v₂ rest e => keyKind_strs (by rw [← e]; exact hS)) hl64 fun st' hp hs => ⟨_, rfl, ?_⟩)
    (PyProof.Rows.args_list_sort _)))
  obtain ⟨ys, g1, g2, g3⟩ := sorted_out_str hS hp hs
  obtain ⟨e', he'⟩ := PyProof.Rows.sortedHeap_at (vs := its) (out := (arrOf st').map (·.2)) hoL
  have hlen : (ys.map V.str).length ≤ sizeLine := by
    rw [List.length_map, g2.length_eq]
    exact Nat.le_trans (Nat.le_of_lt h64) (by decide)
  refine wpAny_pure ⟨_, rfl, .ref h'.objs.size, upd H h'.objs.size (.lst (ys.map V.str)), I1.laid (t' := s.toks) (fun b u e => ?_) (Nat.le_refl _)
    (show ObjOk X.prog X.w _ _ _ (.lst (ys.map V.str)) from ⟨hlen, ((arrOf st').map (·.2)).toList, e', vals_of_strs g1, by rw [Array.toArray_toList]; exact he'⟩), rfl, q ys _ g2 g3 (I1.hok.fresh (Nat.le_refl _))⟩
  have hb : b < h'.objs.size := Heap.lt_size e
  rw [PyProof.Rows.sortedHeap_old (Nat.ne_of_lt hb) (by rw [size_push']; exact Nat.lt_succ_of_lt hb)]
  exact Heap.get?_push_of_some _ e
def rSortedSE (K : PySem.W.Frag) : List V → Hp → VK → Prop := fun vs H Q => ∃ (a : Addr) (xs : List Str), vs = [V.ref a] ∧ (SqL K H a (xs.map V.str) ∨ SqT K H a (xs.map V.str)) ∧ xs.length < 64 ∧
    ∀ ys p, ys.Perm xs → sortedS ys = true → H p = none → Q (.ref p) (upd H p (.lst (ys.map V.str)))
theorem cr_sortedSE : CallR X (.builtin "sorted") (rSortedSE X.K) := by
  rintro pins s σ H vs us Q I r ⟨a, xs, e, hs, h64, q⟩
  rcases hs with hs | hs
  · exact cr_sortedS pins s σ H vs us Q I r ⟨a, xs, e, hs, h64, q⟩
  · exact cr_sortedST pins s σ H vs us Q I r ⟨a, xs, e, hs, h64, q⟩
end
/-- sorted lists of texts that are permutations of each other are equal -/
theorem risingS_pw : ∀ (l : List Str) (p : Str), risingS p l = true → (p :: l).Pairwise (fun a b => a.cps.toList ≤ b.cps.toList)
  | [], p, _ => List.pairwise_singleton ..
  | x :: r, p, h => by
    have h2 : (!ltCps x.cps.toList p.cps.toList && risingS x r) = true := h
    rw [Bool.and_eq_true, Bool.not_eq_true', ltCps_eq, decide_eq_false_iff_not] at h2
    have ih := risingS_pw r x h2.2
    refine List.pairwise_cons.mpr ⟨fun y hy => ?_, ih⟩
    have hx : p.cps.toList ≤ x.cps.toList := h2.1
    rcases List.mem_cons.mp hy with e | hy
    · rw [e]; exact hx
    · exact List.le_trans hx ((List.pairwise_cons.mp ih).1 y hy)
theorem sortedS_pw {l : List Str} (h : sortedS l = true) : l.Pairwise (fun a b => a.cps.toList ≤ b.cps.toList) := by
  cases l with
  | nil => exact .nil
  | cons x r => exact risingS_pw r x h
theorem sortedS_uniq {l r : List Str} (hl : sortedS l = true) (hr : sortedS r = true) (p : l.Perm r) : l = r :=
  List.Perm.eq_of_pairwise (le := fun a b : Str => a.cps.toList ≤ b.cps.toList) (fun a b _ _ h1 h2 => by
    have e := List.le_antisymm h1 h2
    cases a; cases b
    congr
    exact Array.ext' e) (sortedS_pw hl) (sortedS_pw hr) p
end Dl

/-! dimmerlog.charts: chart and _line -/
namespace Dl
open PySem PySem.Spec PyProof.Rows L2
/-- a walk over a list or a tuple -/
def iLT (K : PySem.W.Frag) (tl : TE) : TI := fun σ H R => tl σ H fun x H1 => ∃ a, x = .ref a ∧ (((∃ xs, SqL K H1 a xs) ∧ R (Itl K a) H1) ∨ ((∃ xs, SqT K H1 a xs) ∧ R (Itt K a) H1))
theorem pi_lt {X : Cx} {tg l : Expr} {tl : TE} (seq : PE X l tl) : PI X tg l (iLT X.K tl) := by
  constructor
  intro qs t τ G R J want
  have go := seq.run qs t τ G _ J want
  apply thn go
  rintro v t1 ⟨x, G1, J1, rel, a, rfl, far⟩
  cases rel
  have new : FpOk X qs G1 t1.heap.objs.size := J1.fpOk (Nat.le_refl _) (J1.hok.fresh (Nat.le_refl _))
  have only : ∀ c ∈ [t1.heap.objs.size], FpOk X qs G1 c := fun c hc => by
    rw [List.mem_singleton.mp hc]
    exact new
  rcases far with ⟨⟨xs, sq⟩, r⟩ | ⟨⟨xs, sq⟩, r⟩
  · obtain ⟨items, _, whole, _⟩ := J1.list sq
    apply wpAny_pyIter_list whole.isList
    exact ⟨_, [t1.heap.objs.size], _, _, G1, rfl, J1.kept (t' := t1.toks) fun c o z => Heap.get?_push_of_some _ z, turn_list a _, ⟨_, Heap.get?_push_size _ rfl, rfl, rfl⟩, only, r⟩
  · obtain ⟨items, _, whole, _⟩ := J1.tuple sq
    apply wpAny_pyIter_tuple (show t1.heap.IsTuple a items.toArray from whole)
    exact ⟨_, [t1.heap.objs.size], _, _, G1, rfl, J1.kept (t' := t1.toks) fun c o z => Heap.get?_push_of_some _ z, turn_tuple a _, ⟨_, Heap.get?_push_size _ rfl, rfl, rfl⟩, only, r⟩
theorem sqt_same {K : PySem.W.Frag} {G G' : Hp} {a : Addr} {xs : List V} (e : Same G G') (h : SqT K G a xs) : SqT K G' a xs := by
  rcases h with h | h
  · refine .inl ?_
    rcases h with h | ⟨frozen, h⟩
    · exact .inl (e _ _ h)
    · exact .inr ⟨frozen, e _ _ h⟩
  · exact .inr h
/-! ### the mathematics -/
def chMarks (seen os : List Str) (on off : Str) : List Str := os.map fun z => if decide (z ∈ seen) = true then on else off
def chLine (z : Str) (seen os : List Str) (on off : Str) : Str := ((((Str.empty ++ Txt.ljust z 12) ++ (" " : Str)) ++ Txt.join "" (chMarks seen os on off)) ++ (" " : Str)) ++ Txt.rjust (toString (seen.length : Int)) 3
def chText (ls : List Str) (rs : List (Str × List Str)) (os : List Str) (on off : Str) : Str := Txt.join "\n" (ls.map fun z => chLine z (seenOf rs z) os on off)
/-- a list or a tuple of texts -/
def SqLT (K : PySem.W.Frag) (H : Hp) (a : Addr) (xs : List V) : Prop := SqL K H a xs ∨ SqT K H a xs
structure TxtCh (mg : Str → Option Value) : Prop where
  sorted : mg "sorted" = none
  str : mg "str" = none
  len : mg "len" = none
  nw : ∃ t, mg "NAME_WIDTH" = some (.int 12 t)
  uw : ∃ t, mg "NUMBER_WIDTH" = some (.int 3 t)
theorem mapc_at {α β : Type} {l : List α} {f : α → β} {i : Nat} {v : β} (h : (l.map f)[i]? = some v) : ∃ x, l[i]? = some x ∧ v = f x := by
  rw [List.getElem?_map] at h
  cases e : l[i]? with
  | none => rw [e] at h; cases h
  | some x => rw [e] at h; exact ⟨x, rfl, (Option.some.inj h).symm⟩
theorem chcat_len (a b : Str) : (a ++ b).length = a.length + b.length := by
  show (a.cps ++ b.cps).size = _
  simp
  rfl
theorem chjoin_len (sep : Str) : ∀ ws : List Str, (Str.join sep ws).length ≤ (ws.map (·.length)).sum + ws.length * sep.length
  | [] => by simp [Str.join, Str.empty, Str.length]
  | [x] => by simp [Str.join]
  | x :: y :: r => by
    have ih := chjoin_len sep (y :: r)
    rw [Str.join, chcat_len, chcat_len, List.map_cons, List.sum_cons, List.length_cons]
    · simp only [List.length_cons, List.map_cons, List.sum_cons, Nat.add_mul, Nat.one_mul] at ih ⊢
      omega
    · exact fun e => by cases e
theorem chsum_le {n : Nat} : ∀ {ws : List Str}, (∀ z ∈ ws, z.length ≤ n) → (ws.map (·.length)).sum ≤ ws.length * n
  | [], _ => by simp
  | x :: r, h => by
    have ih := chsum_le fun z hz => h z (List.mem_cons_of_mem _ hz)
    have := h x (List.mem_cons_self ..)
    rw [List.map_cons, List.sum_cons, List.length_cons, Nat.add_mul, Nat.one_mul]
    omega
theorem marks_len {seen os : List Str} {on off : Str} (h1 : on.length ≤ 1) (h2 : off.length ≤ 1) : ∀ z ∈ chMarks seen os on off, z.length ≤ 1 := by
  intro z hz
  obtain ⟨y, _, rfl⟩ := List.mem_map.mp hz
  split <;> assumption
theorem padded_len {x : Str} {i j c : Nat} : (PySem.Builtin.Str.padded x i j c).length = x.length + i + j := by
  unfold PySem.Builtin.Str.padded
  show (_ : Array _).size = _
  simp [Str.length]
  omega
theorem ljust_len {x : Str} (h : x.length ≤ 12) : (Txt.ljust x 12).length ≤ 24 := by
  unfold Txt.ljust
  split
  · omega
  · rw [padded_len]; omega
theorem rjust_len {x : Str} (h : x.length ≤ 100) : (Txt.rjust x 3).length ≤ 103 := by
  unfold Txt.rjust
  split
  · omega
  · rw [padded_len]; omega
theorem num_len (n : Nat) (h : n ≤ 24) : (Str.ofString (toString (n : Int))).length ≤ 2 := toString_length_le (by omega) (by decide) (by omega)
theorem num_log (n : Nat) (h : n ≤ 24) : ((n : Int)).natAbs.log2 < 1920 := by
  have e : ((n : Int)).natAbs = n := by omega
  rw [e]
  have := (Nat.log2_le_self n)
  omega
theorem valid_12c {z : Str} (h : validN z = true) : z.length ≤ 12 := (valid_small h).1
theorem chline_len {z on off : Str} {seen os : List Str} (hz : z.length ≤ 12) (h1 : on.length ≤ 1) (h2 : off.length ≤ 1) (h3 : seen.length ≤ 24) (h4 : os.length ≤ 900) : (chLine z seen os on off).length ≤ 2000 := by
  have nl0 : ("" : Str).length = 0 := by decide +kernel
  have sp1 : (" " : Str).length = 1 := by decide +kernel
  have em0 : (Str.empty : Str).length = 0 := rfl
  have room : ((chMarks seen os on off).map (·.length)).sum ≤ 900 := by
    have q := chsum_le (marks_len (seen := seen) (os := os) h1 h2)
    have : (chMarks seen os on off).length = os.length := List.length_map ..
    omega
  have jl : (Txt.join "" (chMarks seen os on off)).length ≤ 900 := by
    rw [TL.join_eq]
    have := chjoin_len "" (chMarks seen os on off)
    rw [nl0] at this
    omega
  have ll := ljust_len hz
  have n2 := num_len seen.length h3
  have rl := rjust_len (x := (Str.ofString (toString (seen.length : Int)))) (by omega)
  unfold chLine
  simp only [chcat_len, em0, sp1]
  omega
def spChLine (K : PySem.W.Frag) : Sp := fun vs H Q _ => ∃ (z on off : Str) (sa oa : Addr) (seen os : List Str), vs = [.str z, .ref sa, .ref oa, .str on, .str off] ∧ SqT K H sa (seen.map V.str) ∧ SqLT K H oa (os.map V.str) ∧ z.length ≤ 12 ∧ on.length ≤ 1 ∧ off.length ≤ 1 ∧ seen.length ≤ 24 ∧ os.length ≤ 900 ∧
  ∀ H', Same H H' → Q (.str (chLine z seen os on off)) H'
section
variable {P : Program} {w : World} {K : PySem.W.Frag} {mg : Str → Option Value} {base : Heap} {C : Cs} {CT : Addr}
theorem scChLine : FnScope ["lamp", "seen", "order", "on", "off", "marks", "look"] ["lamp", "seen", "order", "on", "off"] (defScope sChLine) := ⟨rfl, rfl, rfl, by decide +kernel, rfl, by decide +kernel, by decide +kernel⟩
theorem ok_chline {f : Addr} {fd : FuncData} (F : Fun K "_line" "_line" sChLine f fd) (T : TxtCh mg) : FnOk P w K mg base CX0 1 f fd ["lamp", "seen", "order", "on", "off"] (spChLine K) := by
  obtain ⟨t1, hW⟩ := T.nw
  obtain ⟨t2, hU⟩ := T.uw
  refine F.ok scChLine (fun vs H Q E h => ?_) (fun cdv A outer s H vs Q E hr h => ?_)
  · obtain ⟨z, on, off, sa, oa, seen, os, rfl, _⟩ := h
    rfl
  · obtain ⟨z, on, off, sa, oa, seen, os, rfl, hs, ho, hz, h1, h2, h3, h4, k⟩ := h
    refine ⟨_, pss_cons (ps_set (i := 5) scChLine.nd rfl (Or.inl rfl) (pe_bm PySem.F.plainAttrs_str PySem.F.slot_str_join PySem.F.type_str_join mt_join pe_str (pa_cons
        (pe_lc (own := [("look", 6)]) (g := gName 6) (tt := tYes) (te := tIf (tTest (tOp (rIn K false) (tVar 6) (tVar 1))) (tVar 3) (tVar 4)) rfl scChLine.nd (pi_lt (pv 2)) (blkOk_by (N := ["lamp", "seen", "order", "on", "off", "marks", "look"]) (sc := defScope sChLine) (by decide +kernel))
          (fun _ _ _ _ _ => pg_name (i := 6) scChLine.nd rfl (Or.inl rfl)) (fun _ _ _ _ _ => pts_nil) (fun _ _ _ _ _ => pe_ifExp (pt_cmpR (by exact op_in_seq : OpR _ _ (rIn K false)) (pv 6) (pv 1) (by rfl)) (pv 3) (pv 4))) pa_nil)))
      (pss_one (ps_ret (pe_joined (.cons (pe_fmt (pe_bm PySem.F.plainAttrs_str PySem.F.slot_str_ljust PySem.F.type_str_ljust mt_ljust (pv 0) (pa_cons (pe_glob (v := .int 12) (by rfl) hW ⟨_, rfl⟩) pa_nil)))
        (.cons pe_str (.cons (pe_fmt (pv 5)) (.cons pe_str (.cons (pe_fmt (pe_bm PySem.F.plainAttrs_str PySem.F.slot_str_rjust PySem.F.type_str_rjust mt_rjust (pe_callTy call_str_int (by rfl) T.str (by decide +kernel) (pa_cons (pe_callB call_len_seq (by rfl) T.len PySem.boot_len (pa_cons (pv 1) pa_nil)) pa_nil)) (pa_cons (pe_glob (v := .int 3) (by rfl) hU ⟨_, rfl⟩) pa_nil)))
        .nil)))))))), ?_⟩
    have body : ∀ (i : Nat) (v : V) (D : Addr) (H1 : Hp), H D = none → Same H H1 → H1 D = some (.lst ((chMarks seen (os.take i) on off).map V.str)) → (os.map V.str)[i]? = some v →
        (tIf (tTest (tOp (rIn K false) (tVar 6) (tVar 1))) (tVar 3) (tVar 4)) [some (.str z), some (.ref sa), some (.ref oa), some (.str on), some (.str off), none, some v] H1 fun x H2 => ∃ ys, H2 D = some (.lst ys) ∧ ys.length < sizeLine ∧ (Same H (upd H2 D (.lst (ys ++ [x]))) ∧ upd H2 D (.lst (ys ++ [x])) D = some (.lst ((chMarks seen (os.take (i + 1)) on off).map V.str))) := by
      intro i v D H1 hD s1 hd hv
      obtain ⟨y, hy, rfl⟩ := mapc_at hv
      have hi := (List.getElem?_eq_some_iff.mp hy).1
      have fin : ∀ x : Str, (if decide (y ∈ seen) = true then on else off) = x → ∃ ys, H1 D = some (.lst ys) ∧ ys.length < sizeLine ∧ (Same H (upd H1 D (.lst (ys ++ [V.str x]))) ∧ upd H1 D (.lst (ys ++ [V.str x])) D = some (.lst ((chMarks seen (os.take (i + 1)) on off).map V.str))) := by
        intro x hx
        refine ⟨_, hd, ?_, fun c o e => ?_, ?_⟩
        · rw [List.length_map]
          unfold chMarks
          rw [List.length_map, List.length_take]
          exact small1000 (by omega)
        · rw [upd_ne (ne_of_none e hD)]
          exact s1 _ _ e
        · rw [upd_same, List.take_succ, hy]
          unfold chMarks
          rw [List.map_append, List.map_append]
          show some (HO.lst (_ ++ [V.str x])) = some (HO.lst (_ ++ [V.str (if decide (y ∈ seen) = true then on else off)]))
          rw [hx]
      refine ⟨_, rfl, _, rfl, sa, _, rfl, .inr (sqt_same s1 hs), rfl, flat_strs seen, _, rfl, ?_⟩
      rw [inV_str]
      by_cases q : y ∈ seen
      · rw [decide_eq_true q]
        exact iteT ⟨_, rfl, fin on (by rw [decide_eq_true q, if_pos rfl])⟩
      · rw [decide_eq_false q]
        exact iteF ⟨_, rfl, fin off (by rw [decide_eq_false q, if_neg (by decide)])⟩
    refine ⟨rfl, _, rfl, oa, rfl, ?_⟩
    have nl0 : ("" : Str).length = 0 := by decide +kernel
    have sp1 : (" " : Str).length = 1 := by decide +kernel
    have em0 : (Str.empty : Str).length = 0 := rfl
    have room : ((chMarks seen os on off).map (·.length)).sum ≤ 900 := by
      have q := chsum_le (marks_len (seen := seen) (os := os) h1 h2)
      have : (chMarks seen os on off).length = os.length := List.length_map ..
      omega
    have jl : (Txt.join "" (chMarks seen os on off)).length ≤ 900 := by
      rw [TL.join_eq]
      have := chjoin_len "" (chMarks seen os on off)
      rw [nl0] at this
      omega
    have ll := ljust_len hz
    have n2 := num_len seen.length h3
    have rl := rjust_len (x := (Str.ofString (toString (seen.length : Int)))) (by omega)
    have big : ∀ x : Str, x.length ≤ 2000 → x.length ≤ sizeLine := fun x h => Nat.le_trans h (by decide)
    have fin : ∀ (D : Addr) (H1 : Hp), H D = none → Same H H1 → H1 D = some (.lst ((chMarks seen os on off).map V.str)) → (((chMarks seen os on off).map (·.length)).sum + (chMarks seen os on off).length * ("" : Str).length ≤ 16777216) ∧ Q (.str (chLine z seen os on off)) H1 := by
      intro D H1 hD s1 hd
      exact ⟨by rw [nl0]; omega, k _ s1⟩
    rcases ho with ho | ho
    · refine .inl ⟨⟨_, ho⟩, fun D hD => lc_it (walk_list (K := K) (a := oa) (xs := os.map V.str)) (fun i H' => Same H H' ∧ H' D = some (.lst ((chMarks seen (os.take i) on off).map V.str))) ⟨Same.upd_new hD, upd_same⟩ (fun i H' _ ⟨s, _⟩ => s.seq ho) ?_ ?_⟩
      · rintro i v H3 H4 hi ⟨s3, hD3⟩ ⟨rfl, hv⟩
        exact ⟨rfl, by exact body i v D _ hD s3 hD3 hv⟩
      · rintro H3 ⟨s3, hD3⟩
        rw [List.length_map, List.take_length] at hD3
        obtain ⟨w1, w2⟩ := fin D H3 hD s3 hD3
        refine ⟨"", D, chMarks seen os on off, rfl, rfl, .inl (SqL.of hD3), w1, ?_⟩
        have sl : (seen.map V.str).length = seen.length := List.length_map ..
        refine ⟨_, rfl, rfl, z, 12, rfl, rfl, by decide, .inl ⟨_, rfl, big _ (by omega), _, rfl, big _ (by rw [chcat_len, em0]; omega), ?_⟩⟩
        refine ⟨_, rfl, big _ (by simp only [chcat_len, em0, sp1]; omega), ?_⟩
        refine ⟨_, rfl, .inl ⟨_, rfl, big _ (by omega), _, rfl, big _ (by simp only [chcat_len, em0, sp1]; omega), ?_⟩⟩
        refine ⟨_, rfl, big _ (by simp only [chcat_len, em0, sp1]; omega), ?_⟩
        refine ⟨_, rfl, sa, _, rfl, .inr (sqt_same s3 hs), _, rfl, by rw [sl]; exact num_log _ h3, rfl, _, 3, rfl, rfl, by decide, ?_⟩
        rw [sl]
        refine .inl ⟨_, rfl, big _ (by omega), _, rfl, big _ (by simp only [chcat_len, em0, sp1]; omega), w2⟩
    · refine .inr ⟨⟨_, ho⟩, fun D hD => lc_it (walk_tup (K := K) (a := oa) (xs := os.map V.str)) (fun i H' => Same H H' ∧ H' D = some (.lst ((chMarks seen (os.take i) on off).map V.str))) ⟨Same.upd_new hD, upd_same⟩ (fun i H' _ ⟨s, _⟩ => sqt_same s ho) ?_ ?_⟩
      · rintro i v H3 H4 hi ⟨s3, hD3⟩ ⟨rfl, hv⟩
        exact ⟨rfl, by exact body i v D _ hD s3 hD3 hv⟩
      · rintro H3 ⟨s3, hD3⟩
        rw [List.length_map, List.take_length] at hD3
        obtain ⟨w1, w2⟩ := fin D H3 hD s3 hD3
        refine ⟨"", D, chMarks seen os on off, rfl, rfl, .inl (SqL.of hD3), w1, ?_⟩
        have sl : (seen.map V.str).length = seen.length := List.length_map ..
        refine ⟨_, rfl, rfl, z, 12, rfl, rfl, by decide, .inl ⟨_, rfl, big _ (by omega), _, rfl, big _ (by rw [chcat_len, em0]; omega), ?_⟩⟩
        refine ⟨_, rfl, big _ (by simp only [chcat_len, em0, sp1]; omega), ?_⟩
        refine ⟨_, rfl, .inl ⟨_, rfl, big _ (by omega), _, rfl, big _ (by simp only [chcat_len, em0, sp1]; omega), ?_⟩⟩
        refine ⟨_, rfl, big _ (by simp only [chcat_len, em0, sp1]; omega), ?_⟩
        refine ⟨_, rfl, sa, _, rfl, .inr (sqt_same s3 hs), _, rfl, by rw [sl]; exact num_log _ h3, rfl, _, 3, rfl, rfl, by decide, ?_⟩
        rw [sl]
        refine .inl ⟨_, rfl, big _ (by omega), _, rfl, big _ (by simp only [chcat_len, em0, sp1]; omega), w2⟩
/-- an own error without __init__ -/
structure ErrO (K : PySem.W.Frag) (mg : Str → Option Value) (x : Str) (C : Addr) : Prop where
  gC : mg x = some (.ref C)
  exc : ∃ bmB newId initId B, ExcBaseFacts B newId initId bmB ∧ PySem.W.excIn K C bmB newId = true
  kp : PySem.W.keepIn K (.ref C) = true
  sub : PySem.W.subIn K (.ref C) (.type "BaseException") = some true
  ty : PySem.W.typeIn K (.ref C) = some (.type "type")
theorem sorted_one {os ks ys zs : List Str} (p1 : ys.Perm os) (s1 : sortedS ys = true) (p2 : zs.Perm ks) (s2 : sortedS zs = true) : ys = zs ↔ os.Perm ks := by
  constructor
  · rintro rfl
    exact p1.symm.trans p2
  · intro h
    exact sortedS_uniq s1 s2 (p1.trans (h.trans p2.symm))
def spChart (K : PySem.W.Frag) (CT CI : Addr) : Sp := fun vs H Q E => ∃ (x o : Addr) (on off : Str) (ls : List Str) (rs : List (Str × List Str)) (os : List Str), vs = [.ref x, .ref o, .str on, .str off] ∧ TableAt CT H x ls rs ∧ TabOk ls rs ∧ SqLT K H o (os.map V.str) ∧
  os.length < 64 ∧ (∀ z ∈ os, canS z) ∧ on.length ≤ 1 ∧ off.length ≤ 1 ∧ (os.Perm (keysOf rs) → ∀ H', Same H H' → Q (.str (chText ls rs os on off)) H') ∧ (¬ os.Perm (keysOf rs) → ∀ H', Same H H' → E (.ref CI) none H')
theorem scChart : FnScope ["table", "order", "on", "off", "lamp"] ["table", "order", "on", "off"] (defScope sChart) := ⟨rfl, rfl, rfl, by decide +kernel, rfl, by decide +kernel, by decide +kernel⟩
abbrev chD (K : PySem.W.Frag) (f : Addr) (fd : FuncData) : Prop := L2.FunD K "chart" "chart" (defArgs sChart) (defBody sChart) (defScope sChart) [] [("on", .str "#"), ("off", .str ".")] f fd
theorem seen_nm : ¬ (("seen" : Str) = "lamps") ∧ ¬ (("seen" : Str) = "_shown") ∧ ¬ (("seen" : Str) = "looks") := by decide +kernel
theorem ok_chart {CI : Addr} {f : Addr} {fd : FuncData} (F : chD K f fd) (T : TxtCh mg) (cl : Cls K CT) (nL : NoAttr K CT "lamps") (nK : NoAttr K CT "looks") (eO : ErrO K mg "InvalidOrder" CI)
    (gS : ∃ f fd, Meth K CT "seen" f ∧ Binds K fd ["self", "lamp"] [] ∧ FnOk P w K mg base (L2.CX P w) 5 f fd ["self", "lamp"] (spTSeen K CT C)) (gL : Dfn P w K mg base CX0 1 "_line" ["lamp", "seen", "order", "on", "off"] (spChLine K)) :
    FnOk P w K mg base (L2.CX P w) 6 f fd ["table", "order", "on", "off"] (spChart K CT CI) := by
  obtain ⟨fS, dS, mSeen, bSeen, GSeen⟩ := gS
  obtain ⟨fL, dL, mL, kL, bL, GL⟩ := gL
  obtain ⟨bmB, newId, initId, B, eF, eI⟩ := eO.exc
  refine F.ok scChart (fun vs H Q E h => ?_) (fun cdv A outer s H vs Q E hr h => ?_)
  · obtain ⟨x, o, on, off, ls, rs, os, rfl, _⟩ := h
    rfl
  · obtain ⟨x, o, on, off, ls, rs, os, rfl, hT, ok, ho, h64, hcan, h1, h2, k, kx⟩ := h
    have hr1 : Room 1 _ := hr.mono (by decide)
    have hr5 : Room 5 _ := hr
    refine ⟨_, pss_cons (ps_if (pt_cmpR (op_neD hr.units) (pe_callB cr_sortedSE (by rfl) T.sorted (by decide +kernel) (pa_cons (pv 1) pa_nil)) (pe_callB cr_sortedSE (by rfl) T.sorted (by decide +kernel) (pa_cons (pe_fld (pv 0) rfl) pa_nil)) (nomark _))
        (pss_one (ps_raise rfl (takes_of rfl rfl rfl rfl) (pmk_own0 eF eI eO.gC eO.kp (raises_own eO.sub eO.ty) (by rfl)))) pss_nil)
      (pss_one (ps_ret (pe_bm PySem.F.plainAttrs_str PySem.F.slot_str_join PySem.F.type_str_join mt_join pe_str (pa_cons
        (pe_lc (own := [("lamp", 4)]) (g := gName 4) (tt := tYes) (te := tCall (spChLine K) [] E0 (tCons (tVar 4) (tCons (tMeth CT "seen" (spTSeen K CT C) [] E0 (tVar 0) (tCons (tVar 4) tNil)) (tCons (tVar 1) (tCons (tVar 2) (tCons (tVar 3) tNil)))))) rfl scChart.nd (pi_tup (pe_fld (pv 0) rfl)) (blkOk_by (N := ["table", "order", "on", "off", "lamp"]) (sc := defScope sChart) (by decide +kernel))
          (fun _ _ _ _ _ => pg_name (i := 4) scChart.nd rfl (Or.inl rfl)) (fun _ _ _ _ _ => pts_nil) (fun _ _ _ _ _ => pe_call GL hr1 (by rfl) mL kL bL .nil pass0 (pa_cons (pv 4) (pa_cons (pe_meth (pv 0) cl mSeen GSeen hr5 bSeen .nil passL (pa_cons (pv 4) pa_nil)) (pa_cons (pv 1) (pa_cons (pv 2) (pa_cons (pv 3) pa_nil))))))) pa_nil)))), ?_⟩
    obtain ⟨dx, lt, sd, kt, kvs, hp, hlt, hsd, hkt, hrs⟩ := id hT
    have kf := ok.kfew
    refine ⟨_, rfl, o, os, rfl, ho, h64, fun ys q1 yp ysd hq1 => ?_⟩
    have s1 : Same H _ := Same.upd_new hq1 (o := .lst (ys.map V.str))
    have hy : SqL K (upd H q1 (.lst (ys.map V.str))) q1 (ys.map V.str) := SqL.of upd_same
    generalize upd H q1 (.lst (ys.map V.str)) = H1 at *
    refine ⟨_, rfl, x, CT, dx, _, _, rfl, s1 _ _ hp, cl, nK, pf3_looks _ _ _, kt, keysOf rs, rfl, .inr (SqT.of (s1 _ _ hkt)), by unfold keysOf; rw [List.length_map]; omega, fun zs q2 zp zsd hq2 => ?_⟩
    have s2 : Same H1 _ := Same.upd_new hq2 (o := .lst (zs.map V.str))
    have hz : SqL K (upd H1 q2 (.lst (zs.map V.str))) q2 (zs.map V.str) := SqL.of upd_same
    have hy2 := s2.seq hy
    generalize upd H1 q2 (.lst (zs.map V.str)) = H2 at *
    have s12 := s1.trans s2
    have kcan : ∀ z ∈ zs, canS z := fun z hz => by
      have m := zp.subset hz
      obtain ⟨r, hr, rfl⟩ := List.mem_map.mp m
      exact valid_can (ok.kval r hr)
    have ycan : ∀ z ∈ ys, canS z := fun z hz => hcan z (yp.subset hz)
    refine ⟨.list (ys.map PyData.str), .list (zs.map PyData.str), .lst hy2 (dpAll_strs _), .lst hz (dpAll_strs _), shaped_strs ycan, shaped_strs kcan, _, rfl, ?_⟩
    rw [PyData.eqv, eqvAll_strs]
    have one := sorted_one yp ysd zp zsd
    by_cases e : ys = zs
    · rw [decide_eq_true e]
      refine iteF ?_
      have pm := one.mp e
      have ht := hT.of s12
      refine ⟨rfl, _, rfl, x, CT, dx, _, _, rfl, s12 _ _ hp, cl, nL, pf3_lamps _ _ _, lt, rfl, ⟨_, SqT.of (s12 _ _ hlt)⟩, fun D hD => lc_it (walk_tup (K := K) (a := lt) (xs := ls.map V.str)) (fun i H' => Same H2 H' ∧ H' D = some (.lst (((ls.take i).map fun z => chLine z (seenOf rs z) os on off).map V.str))) ⟨Same.upd_new hD, upd_same⟩ (fun i H' _ ⟨s, _⟩ => SqT.of ((s12.trans s) _ _ hlt)) ?_ ?_⟩
      · rintro i v H3 H4 hi ⟨s3, hD3⟩ ⟨rfl, hv⟩
        obtain ⟨z, hz, rfl⟩ := mapc_at hv
        have hzi := (List.getElem?_eq_some_iff.mp hz).1
        have hzm : z ∈ ls := List.mem_of_getElem? hz
        have s13 := s12.trans s3
        have lf := ok.lfew
        refine ⟨rfl, _, rfl, _, rfl, x, dx, _, rfl, s13 _ _ hp, pf3_no _ _ _ seen_nm.1 seen_nm.2.1 seen_nm.2.2, _, rfl, x, .str z, ls, rs, rfl, hT.of s13, ok, Nat.le_of_lt (small1000 (by have := valid_12c (ok.lval z hzm); omega)), fun z' hz' e H5 q s5 _ hq => ?_, fun hk => absurd (((decide_eq_true hzm : knows (.str z) ls = true)).symm.trans hk) (by decide)⟩
        obtain rfl : z = z' := by injection e
        have ho5 : SqLT K H5 o (os.map V.str) := by
          rcases ho with h | h
          · exact .inl ((s13.trans s5).seq h)
          · exact .inr (sqt_same (s13.trans s5) h)
        have sl : (seenOf rs z).length ≤ 24 := by
          have q := seen_len (rs := rs) (z := z) (i := rs.length)
          rw [List.take_length] at q
          omega
        refine ⟨_, rfl, _, rfl, _, rfl, z, on, off, q, o, seenOf rs z, os, rfl, SqT.of hq, ho5, valid_12c (ok.lval z hzm), h1, h2, sl, by omega, fun H6 s6 => ?_⟩
        have hD6 := (s5.trans s6) _ _ hD3
        refine ⟨_, hD6, by rw [List.length_map, List.length_map, List.length_take]; exact small1000 (by omega), fun c u hc => ?_, ?_⟩
        · rw [upd_ne (ne_of_none hc hD)]
          exact (s3.trans (s5.trans s6)) _ _ hc
        · rw [upd_same, List.take_succ, hz, List.map_append, List.map_append]
          rfl
      · rintro H3 ⟨s3, hD3⟩
        rw [List.length_map, List.take_length] at hD3
        refine ⟨"\n", D, _, rfl, rfl, .inl (SqL.of hD3), ?_, k pm _ (s12.trans s3)⟩
        have nl1 : ("\n" : Str).length = 1 := by decide +kernel
        have all : ∀ y ∈ (ls.map fun z => chLine z (seenOf rs z) os on off), y.length ≤ 2000 := by
          intro y hy
          obtain ⟨z, hz, rfl⟩ := List.mem_map.mp hy
          refine chline_len (valid_12c (ok.lval z hz)) h1 h2 ?_ (by omega)
          have q := seen_len (rs := rs) (z := z) (i := rs.length)
          rw [List.take_length] at q
          omega
        have q := chsum_le all
        have e1 : (ls.map fun z => chLine z (seenOf rs z) os on off).length = ls.length := List.length_map ..
        rw [e1] at q ⊢
        have lf := ok.lfew
        rw [nl1]
        have := Nat.mul_le_mul_right 2000 lf
        omega
    · rw [decide_eq_false e]
      refine iteT ?_
      exact kx (fun h => e (one.mpr h)) _ s12
end
end Dl

/-! the text of a chart, by its codes -/
namespace Dl
open PySem PySem.Spec PyProof.Rows L2
theorem op_mul_sp {X : Cx} : OpR X (binaryOp .Mult) (fun x y H Q => ∃ (a : Str) (n : Int), x = .str a ∧ y = .int n ∧ MulOk a n ∧ Q (.str (Txt.mul a n)) H) := by
  intro pins s σ H x y v u Q I rx ry h
  obtain ⟨a, n, rfl, rfl, ok, q⟩ := h
  obtain ⟨t, rfl⟩ := rx
  obtain ⟨t', rfl⟩ := ry
  exact SB.mul ok fun t2 tk => ⟨.str (Txt.mul a n), H, I.tok _, ⟨_, rfl⟩, q⟩
theorem mul_sp : ∀ k, k < 13 → MulOk (" " : Str) ((k : Nat) : Int) ∧ (Txt.mul (" " : Str) ((k : Nat) : Int)).cps.toList = List.replicate k 32 := by
  unfold MulOk
  decide +kernel
theorem sp_codes : (" " : Str).cps.toList = [32] := by decide +kernel
theorem cat_cd (a b : Str) : (a ++ b).cps.toList = a.cps.toList ++ b.cps.toList := cat_codes a b
theorem join0_codes : ∀ ws : List Str, (Str.join "" ws).cps.toList = (ws.map fun w : Str => w.cps.toList).flatten
  | [] => rfl
  | [x] => by simp [Str.join]
  | x :: y :: r => by
    have ih := join0_codes (y :: r)
    have n0 : ("" : Str).cps.toList = [] := by decide +kernel
    rw [Str.join, cat_cd, cat_cd, ih, n0]
    · simp
    · exact fun e => by cases e
theorem ljust_codes {z : Str} (h : z.length ≤ 12) : (Txt.ljust z 12).cps.toList = z.cps.toList ++ List.replicate (12 - z.length) 32 := by
  unfold Txt.ljust
  by_cases q : (12 : Int) ≤ (z.length : Nat)
  · rw [if_pos q]
    have : 12 - z.length = 0 := by omega
    rw [this]; simp
  · rw [if_neg q]
    unfold PySem.Builtin.Str.padded
    simp
theorem rjust_codes {z : Str} (h : z.length ≤ 3) : (Txt.rjust z 3).cps.toList = List.replicate (3 - z.length) 32 ++ z.cps.toList := by
  unfold Txt.rjust
  by_cases q : (3 : Int) ≤ (z.length : Nat)
  · rw [if_pos q]
    have : 3 - z.length = 0 := by omega
    rw [this]; simp
  · rw [if_neg q]
    unfold PySem.Builtin.Str.padded
    simp
theorem chLine_codes {z on off : Str} {seen os : List Str} (hz : z.length ≤ 12) (h3 : seen.length ≤ 24) : (chLine z seen os on off).cps.toList =
    ((((z.cps.toList ++ List.replicate (12 - z.length) 32) ++ [32]) ++ ((chMarks seen os on off).map fun w : Str => w.cps.toList).flatten) ++ [32]) ++ (List.replicate (3 - (Str.ofString (toString (seen.length : Int))).length) 32 ++ (Str.ofString (toString (seen.length : Int))).cps.toList) := by
  have n2 := num_len seen.length h3
  unfold chLine
  rw [cat_cd, cat_cd, cat_cd, cat_cd, cat_cd, ljust_codes hz, sp_codes, TL.join_eq, join0_codes, rjust_codes (by omega)]
  rfl
theorem marks_step {seen os : List Str} {on off : Str} {i : Nat} {y : Str} (h : os[i]? = some y) : ((chMarks seen (os.take (i + 1)) on off).map fun w : Str => w.cps.toList).flatten = ((chMarks seen (os.take i) on off).map fun w : Str => w.cps.toList).flatten ++ (if decide (y ∈ seen) = true then on else off).cps.toList := by
  rw [List.take_succ, h]
  unfold chMarks
  simp
end Dl

namespace Dl
open PySem PySem.Spec PyProof.Rows L2
def spSeenL : Sp := fun vs H Q _ => ∃ (R : Addr) (z : Str) (rs : List (Str × List Str)) (rows : List RowIn), vs = [.ref R, .str z] ∧ H R = some (.lst (refsOf rows)) ∧ (∀ r ∈ rows, RowG H r) ∧ rows.map RowIn.dat = rs.map rdat ∧ rs.length ≤ 24 ∧
  ∀ H' u, Same H H' → H u = none → H' u = some (.lst ((seenOf rs z).map V.str)) → Q (.ref u) H'
theorem row_of {rows : List RowIn} {rs : List (Str × List Str)} (hdat : rows.map RowIn.dat = rs.map rdat) {i : Nat} {v : V} (hv : (refsOf rows)[i]? = some v) : ∃ r, ∃ h : i < rs.length, r ∈ rows ∧ v = .ref r.t ∧ r.look = .str rs[i].1 ∧ r.xs = rs[i].2.map V.str ∧ rs[i]? = some rs[i] := by
  obtain ⟨r, hr, rfl⟩ := map_at (show (rows.map fun r => V.ref r.t)[i]? = some v from hv)
  have hi : i < rows.length := (List.getElem?_eq_some_iff.mp hr).1
  have hrl : rows.length = rs.length := by
    have e := congrArg List.length hdat
    rw [List.length_map, List.length_map] at e
    exact e
  have hir : i < rs.length := by omega
  have ed : r.dat = rdat rs[i] := by
    have e := congrArg (fun l => l[i]?) hdat
    simp only [List.getElem?_map, hr, List.getElem?_eq_getElem hir, Option.map_some] at e
    exact Option.some.inj e
  exact ⟨r, hir, List.mem_of_getElem? hr, rfl, congrArg Prod.fst ed, congrArg Prod.snd ed, List.getElem?_eq_getElem hir⟩
section
variable {P : Program} {w : World} {K : PySem.W.Frag} {mg : Str → Option Value} {base : Heap}
theorem scLawSeen : FnScope ["_law_rows_here", "_law_lamp", "_law_row"] ["_law_rows_here", "_law_lamp"] (defScope sLawSeen) := ⟨rfl, rfl, rfl, by decide +kernel, rfl, by decide +kernel, by decide +kernel⟩
theorem ok_seenl {f : Addr} {fd : FuncData} (F : Fun K "_law_seen" "_law_seen" sLawSeen f fd) : FnOk P w K mg base CX0 1 f fd ["_law_rows_here", "_law_lamp"] spSeenL := by
  refine F.ok scLawSeen (fun vs H Q E h => ?_) (fun cdv A outer s H vs Q E hr h => ?_)
  · obtain ⟨a, z, rs, rows, rfl, _⟩ := h
    rfl
  · obtain ⟨R, z, rs, rows, rfl, hR, hrw, hdat, hkf, k⟩ := h
    have hrl : (refsOf rows).length = rs.length := by
      have e := congrArg List.length hdat
      rw [List.length_map, List.length_map] at e
      unfold refsOf
      rw [List.length_map]
      exact e
    refine ⟨_, (pss_one (ps_ret (pe_lc (own := [("_law_row", 2)]) (g := gName 2) (tt := tTest (tOp (rIn K false) (tVar 1) (tOp (rIxT K) (tVar 2) (tC (.int 1))))) (te := tOp (rIxT K) (tVar 2) (tC (.int 0))) rfl scLawSeen.nd (pi_list (pv 0)) (blkOk_by (N := ["_law_rows_here", "_law_lamp", "_law_row"]) (sc := defScope sLawSeen) (by decide +kernel)) (fun _ _ _ _ _ => (pg_name (i := 2) scLawSeen.nd rfl (Or.inl rfl))) (fun _ _ _ _ _ => (pts_one (pt_cmpR (by exact op_in_seq : OpR _ _ (rIn K false)) (pv 1) (pe_ix (by exact ix_tup : IxR _ (rIxT K)) (pv 2) pe_int (fun _ _ => rfl)) (by rfl)))) (fun _ _ _ _ _ => (pe_ix (by exact ix_tup : IxR _ (rIxT K)) (pv 2) pe_int (fun _ _ => rfl)))))), ?_⟩
    refine ⟨_, rfl, R, rfl, ⟨_, SqL.of hR⟩, fun D hD => lc_it (walk_list (K := K) (a := R) (xs := refsOf rows)) (fun i H' => H' = upd H D (.lst ((seenOf (rs.take i) z).map V.str))) rfl (fun i H' _ e => by rw [e]; exact SqL.of (Same.upd_new hD _ _ hR)) ?_ ?_⟩
    · rintro i v H6 H7 hi rfl ⟨rfl, hv⟩
      obtain ⟨r, hir, hr, rfl, gl, gx, hri⟩ := row_of hdat hv
      have s6 : Same H (upd H D (.lst ((seenOf (rs.take i) z).map V.str))) := Same.upd_new hD
      have G := (hrw r hr).of s6
      have pg := G.pair
      have qg := G.lst
      rw [gl] at pg
      rw [gx] at qg
      refine ⟨rfl, _, rfl, _, rfl, r.t, _, 1, _, rfl, rfl, SqT.of pg, rfl, r.s, _, rfl, .inl (SqL.of qg), rfl, flat_strs _, _, rfl, ?_⟩
      rw [inV_str]
      by_cases q : z ∈ rs[i].2
      · rw [decide_eq_true q]
        refine iteT ⟨_, rfl, r.t, _, 0, _, rfl, rfl, SqT.of pg, rfl, _, upd_same, by rw [List.length_map]; exact small1000 (by have := seen_len (rs := rs) (z := z) (i := i); omega), ?_⟩
        rw [upd_upd, seen_step hri, if_pos (decide_eq_true q), List.map_append]
        rfl
      · rw [decide_eq_false q]
        refine iteF ?_
        rw [seen_step hri, if_neg (by simpa using q), List.append_nil]
    rintro H1 rfl
    rw [hrl, List.take_length]
    exact k _ D (Same.upd_new hD) hD upd_same
end
end Dl

namespace Dl
open PySem PySem.Spec PyProof.Rows L2
structure TxtDr (mg : Str → Option Value) : Prop where
  len : mg "len" = none
  int : mg "int" = none
  str : mg "str" = none
def spDrawn : Sp := fun vs H Q _ => ∃ (a R o : Addr) (gl dk : Str) (ls os : List Str) (rs : List (Str × List Str)) (rows : List RowIn), vs = [.ref a, .ref R, .ref o, .str gl, .str dk] ∧ H a = some (.lst (ls.map V.str)) ∧ (∀ z ∈ ls, z.length ≤ 12) ∧ ls.length ≤ 24 ∧
  H R = some (.lst (refsOf rows)) ∧ (∀ r ∈ rows, RowG H r) ∧ rows.map RowIn.dat = rs.map rdat ∧ rs.length ≤ 24 ∧ H o = some (.lst (os.map V.str)) ∧ os.length ≤ 63 ∧ gl.length ≤ 1 ∧ dk.length ≤ 1 ∧ ∀ H', Same H H' → Q (.str (chText ls rs os gl dk)) H'
section
variable {P : Program} {w : World} {K : PySem.W.Frag} {mg : Str → Option Value} {base : Heap}
theorem scDrawn : FnScope ["_law_lamps", "_law_rows_here", "_law_order", "_law_glow", "_law_dark", "_law_lines", "_law_lamp", "_law_seen_here", "_law_line", "_law_look", "_law_count"] ["_law_lamps", "_law_rows_here", "_law_order", "_law_glow", "_law_dark"] (defScope sLawDrawn) := ⟨rfl, rfl, rfl, by decide +kernel, rfl, by decide +kernel, by decide +kernel⟩
theorem ok_drawn {f : Addr} {fd : FuncData} (F : Fun K "_law_drawn" "_law_drawn" sLawDrawn f fd) (T : TxtDr mg) (gS : Dfn P w K mg base CX0 1 "_law_seen" ["_law_rows_here", "_law_lamp"] spSeenL) :
    FnOk P w K mg base CX0 2 f fd ["_law_lamps", "_law_rows_here", "_law_order", "_law_glow", "_law_dark"] spDrawn := by
  obtain ⟨fS, dS, mSeen, kSeen, bSeen, GSeen⟩ := gS
  refine F.ok scDrawn (fun vs H Q E h => ?_) (fun cdv A outer s H vs Q E hr h => ?_)
  · obtain ⟨a, R, o, gl, dk, ls, os, rs, rows, rfl, _⟩ := h
    rfl
  · obtain ⟨a, R, o, gl, dk, ls, os, rs, rows, rfl, ha, hz, hll, hR, hrw, hdat, hkl, ho, hol, h1, h2, k⟩ := h
    have hr1 : Room 1 _ := hr
    refine ⟨_, (pss_cons (ps_set (i := 5) scDrawn.nd rfl (Or.inl rfl) (pe_lst pa_nil))
        (pss_cons (ps_for PassesOwn.never rfl (pi_list (pv 0)) (pg_name (i := 6) scDrawn.nd rfl (Or.inl rfl)) (pss_cons (ps_set (i := 7) scDrawn.nd rfl (Or.inl rfl) (pe_call GSeen hr1 (by rfl) mSeen kSeen bSeen .nil pass0 (pa_cons (pv 1) (pa_cons (pv 6) pa_nil))))
        (pss_cons (ps_set (i := 8) scDrawn.nd rfl (Or.inl rfl) (pe_op op_add_str (pe_op op_add_str (pv 6) (pe_op op_mul_sp pe_str (pe_op op_sub pe_int (pe_callB call_len_str (by rfl) T.len PySem.boot_len (pa_cons (pv 6) pa_nil))))) pe_str))
        (pss_cons (ps_for PassesOwn.never rfl (pi_list (pv 2)) (pg_name (i := 9) scDrawn.nd rfl (Or.inl rfl)) (pss_one (ps_set (i := 8) scDrawn.nd rfl (Or.inl rfl) (pe_op op_add_str (pv 8) (pe_ix ix_list (pe_lst (pa_cons (pv 4) (pa_cons (pv 3) pa_nil))) (pe_callTy call_int1 (by rfl) T.int (by decide +kernel) (pa_cons (pe_cmpR op_in_seq (pv 9) (pv 7) (by rfl)) pa_nil)) (fun _ _ => rfl))))))
        (pss_cons (ps_set (i := 10) scDrawn.nd rfl (Or.inl rfl) (pe_callTy call_str_int (by rfl) T.str (by decide +kernel) (pa_cons (pe_callB call_len_seq (by rfl) T.len PySem.boot_len (pa_cons (pv 7) pa_nil)) pa_nil)))
        (pss_one (ps_expr (pe_bm PySem.F.plainAttrs_list PySem.F.slot_list_append PySem.F.type_list_append mt_append (pv 5) (pa_cons (pe_op op_add_str (pe_op op_add_str (pe_op op_add_str (pv 8) pe_str) (pe_op op_mul_sp pe_str (pe_op op_sub pe_int (pe_callB call_len_str (by rfl) T.len PySem.boot_len (pa_cons (pv 10) pa_nil))))) (pv 10)) pa_nil)))))))))
        (pss_one (ps_ret (pe_bm PySem.F.plainAttrs_str PySem.F.slot_str_join PySem.F.type_str_join mt_join pe_str (pa_cons (pv 5) pa_nil)))))), ?_⟩
    refine ⟨Nat.zero_le _, fun D hD => ?_⟩
    have s0 : Same H (upd H D (.lst [])) := Same.upd_new hD
    refine ⟨_, rfl, a, rfl, ⟨_, SqL.of (s0 _ _ ha)⟩, for_it (walk_list (K := K) (a := a) (xs := ls.map V.str)) (fun i σ H' => ∃ x6 x7 x8 x9 x10 : Option V, σ = [some (.ref a), some (.ref R), some (.ref o), some (.str gl), some (.str dk), some (.ref D), x6, x7, x8, x9, x10] ∧
        Same H H' ∧ H' D = some (.lst (((ls.take i).map fun z => chLine z (seenOf rs z) os gl dk).map V.str)))
      ⟨none, none, none, none, none, rfl, s0, upd_same⟩ (fun i σ H' _ ⟨_, _, _, _, _, _, s1, _⟩ => SqL.of (s1 _ _ ha)) ?_ ?_⟩
    · rintro i v σ H1 H2 hi ⟨x6, x7, x8, x9, x10, rfl, s1, hD1⟩ ⟨rfl, hv⟩
      obtain ⟨z, hzi, rfl⟩ := map_at hv
      have hzm : z ∈ ls := List.mem_of_getElem? hzi
      have hz12 := hz z hzm
      refine ⟨_, rfl, _, rfl, R, z, rs, rows, rfl, s1 _ _ hR, fun r hr => (hrw r hr).of s1, hdat, hkl, fun H3 u s3 nu hu => ?_⟩
      have s13 := s1.trans s3
      have big : ∀ n : Nat, n ≤ 2000 → n ≤ sizeLine := fun n h => Nat.le_trans h (by decide)
      have sp1 : (" " : Str).length = 1 := by decide +kernel
      have e12 : (12 : Int) - ((z.length : Nat) : Int) = ((12 - z.length : Nat) : Int) := by omega
      obtain ⟨m1, m2⟩ := mul_sp (12 - z.length) (by omega)
      have ml : (Txt.mul " " ((12 - z.length : Nat) : Int)).length = 12 - z.length := by
        have q := congrArg List.length m2
        rw [List.length_replicate] at q
        exact q
      refine ⟨_, rfl, _, rfl, z, rfl, big _ (by omega), _, _, rfl, rfl, " ", _, rfl, rfl, by rw [e12]; exact m1, ?_⟩
      rw [e12]
      refine ⟨_, _, rfl, rfl, by rw [ml]; exact big _ (by omega), _, _, rfl, rfl, by rw [cat_len, ml, sp1]; exact big _ (by omega), ?_⟩
      have hL0 : ((z ++ Txt.mul " " ((12 - z.length : Nat) : Int)) ++ (" " : Str)).cps.toList = (z.cps.toList ++ List.replicate (12 - z.length) 32) ++ [32] := by rw [cat_cd, cat_cd, m2, sp_codes]
      have lL0 : ((z ++ Txt.mul " " ((12 - z.length : Nat) : Int)) ++ (" " : Str)).length ≤ 30 := by rw [cat_len, cat_len, ml, sp1]; omega
      generalize (z ++ Txt.mul " " ((12 - z.length : Nat) : Int)) ++ (" " : Str) = L0 at *
      refine ⟨_, rfl, o, rfl, ⟨_, SqL.of (s13 _ _ ho)⟩, for_it (walk_list (K := K) (a := o) (xs := os.map V.str)) (fun j σ H' => ∃ (x9 : Option V) (L : Str), σ = [some (.ref a), some (.ref R), some (.ref o), some (.str gl), some (.str dk), some (.ref D), some (.str z), some (.ref u), some (.str L), x9, x10] ∧
          Same H3 H' ∧ L.cps.toList = L0.cps.toList ++ ((chMarks (seenOf rs z) (os.take j) gl dk).map fun w : Str => w.cps.toList).flatten ∧ L.length ≤ 30 + j)
        ⟨x9, L0, rfl, Same.refl _, by simp [chMarks], lL0⟩ (fun j σ H' _ ⟨_, _, _, s4, _⟩ => SqL.of (s4 _ _ (s13 _ _ ho))) ?_ ?_⟩
      · rintro j v σ H4 H5 hj ⟨x9', L, rfl, s4, hL, lL⟩ ⟨rfl, hy⟩
        obtain ⟨y, hyi, rfl⟩ := map_at hy
        have hj' : j < os.length := (List.getElem?_eq_some_iff.mp hyi).1
        refine ⟨_, rfl, _, rfl, _, rfl, by show 2 ≤ sizeLine; decide, fun q hq => ?_⟩
        have s5 := s4.trans (Same.upd_new hq (o := .lst [.str dk, .str gl]))
        refine ⟨_, rfl, _, rfl, u, _, rfl, .inl (SqL.of (s5 _ _ hu)), rfl, flat_strs _, .inr ⟨_, rfl, ?_⟩⟩
        rw [inV_str]
        have last : ∀ (w : Str), (if decide (y ∈ seenOf rs z) = true then gl else dk) = w → w.length ≤ 1 → ∃ (x9 : Option V) (L' : Str), [some (V.ref a), some (.ref R), some (.ref o), some (.str gl), some (.str dk), some (.ref D), some (.str z), some (.ref u), some (.str (L ++ w)), some (.str y), x10] = [some (.ref a), some (.ref R), some (.ref o), some (.str gl), some (.str dk), some (.ref D), some (.str z), some (.ref u), some (.str L'), x9, x10] ∧
            Same H3 (upd H5 q (.lst [.str dk, .str gl])) ∧ L'.cps.toList = L0.cps.toList ++ ((chMarks (seenOf rs z) (os.take (j + 1)) gl dk).map fun w : Str => w.cps.toList).flatten ∧ L'.length ≤ 30 + (j + 1) := by
          intro w hw lw
          exact ⟨_, L ++ w, rfl, s5, by rw [cat_cd, hL, marks_step hyi, hw, List.append_assoc], by rw [cat_len]; omega⟩
        by_cases m : y ∈ seenOf rs z
        · rw [decide_eq_true m] at last ⊢
          refine ⟨q, _, 1, _, rfl, rfl, SqL.of upd_same, rfl, ?_⟩
          exact ⟨_, _, rfl, rfl, big _ (by omega), last gl rfl h1⟩
        · rw [decide_eq_false m] at last ⊢
          refine ⟨q, _, 0, _, rfl, rfl, SqL.of upd_same, rfl, ?_⟩
          exact ⟨_, _, rfl, rfl, big _ (by omega), last dk rfl h2⟩
      · rintro σ H4 ⟨x9', L, rfl, s4, hL, lL⟩
        rw [List.length_map] at hL lL
        rw [List.take_length] at hL
        have s14 := s13.trans s4
        have sl : (seenOf rs z).length ≤ 24 := by
          have q := seen_len (rs := rs) (z := z) (i := rs.length)
          rw [List.take_length] at q
          omega
        have el : ((seenOf rs z).map V.str).length = (seenOf rs z).length := List.length_map ..
        refine ⟨_, rfl, u, _, rfl, .inl (SqL.of (s4 _ _ hu)), _, rfl, by rw [el]; exact num_log _ sl, ?_⟩
        rw [el]
        have n2 := num_len _ sl
        generalize hn : (Str.ofString (toString (((seenOf rs z).length : Nat) : Int))) = n at *
        have e3 : (3 : Int) - ((n.length : Nat) : Int) = ((3 - n.length : Nat) : Int) := by omega
        obtain ⟨p1, p2⟩ := mul_sp (3 - n.length) (by omega)
        have pl : (Txt.mul " " ((3 - n.length : Nat) : Int)).length = 3 - n.length := by
          have q := congrArg List.length p2
          rw [List.length_replicate] at q
          exact q
        have hD4 := (s3.trans s4) _ _ hD1
        refine ⟨_, rfl, .inl ⟨rfl, _, SqL.of hD4⟩, _, rfl, _, _, rfl, rfl, by rw [sp1]; exact big _ (by omega), _, rfl, n, rfl, big _ (by omega), _, _, rfl, rfl, " ", _, rfl, rfl, by rw [e3]; exact p1, ?_⟩
        rw [e3]
        refine ⟨_, _, rfl, rfl, by rw [cat_len, pl, sp1]; exact big _ (by omega), _, rfl, _, _, rfl, rfl, by rw [cat_len, cat_len, pl, sp1]; exact big _ (by omega), ?_⟩
        have hi' : i < ls.length := (List.getElem?_eq_some_iff.mp hzi).1
        refine ⟨D, _, _, rfl, rfl, hD4, by rw [List.length_map, List.length_map, List.length_take]; exact small1000 (by omega), ?_⟩
        refine ⟨_, _, _, _, _, rfl, fun c o' hc => ?_, ?_⟩
        · rw [upd_ne (ne_of_none hc hD)]
          exact s14 _ _ hc
        · rw [upd_same, take_at hzi, List.map_append, List.map_append]
          have fin : ((L ++ (" " : Str)) ++ Txt.mul " " ((3 - n.length : Nat) : Int)) ++ n = chLine z (seenOf rs z) os gl dk := by
            refine codes_ext ?_
            rw [chLine_codes hz12 sl, hn, cat_cd, cat_cd, cat_cd, hL, hL0, p2, sp_codes]
            simp only [List.append_assoc]
          rw [fin]
          rfl
    · rintro σ H1 ⟨x6, x7, x8, x9, x10, rfl, s1, hD1⟩
      rw [List.length_map, List.take_length] at hD1
      refine ⟨rfl, _, rfl, "\n", D, _, rfl, rfl, .inl (SqL.of hD1), ?_, k _ s1⟩
      have nl1 : ("\n" : Str).length = 1 := by decide +kernel
      have all : ∀ y ∈ (ls.map fun z => chLine z (seenOf rs z) os gl dk), y.length ≤ 2000 := by
        intro y hy
        obtain ⟨z, hzm, rfl⟩ := List.mem_map.mp hy
        refine chline_len (hz z hzm) h1 h2 ?_ (by omega)
        have q := seen_len (rs := rs) (z := z) (i := rs.length)
        rw [List.take_length] at q
        omega
      have q := chsum_le all
      have e1 : (ls.map fun z => chLine z (seenOf rs z) os gl dk).length = ls.length := List.length_map ..
      rw [e1] at q ⊢
      rw [nl1]
      have := Nat.mul_le_mul_right 2000 hll
      omega
end
end Dl

/-! chart: how its calls bind -/
namespace Dl
open PySem PySem.Spec PyProof.Rows L2
section
variable {K : PySem.W.Frag} {f : Addr} {fd : FuncData}
theorem ch_b (F : chD K f fd) : ∃ ds, Vals [.str "#", .str "."] ds ∧ Binds K fd ["table", "order", "on", "off"] ds :=
  F.binds0 (ps := ["table", "order", "on", "off"]) 2 (by simp) rfl
    (fun D doc pm an cdv ct us ks h1 h2 => match us, h1, ks, h2 with | [_, _], _, [_, _], _ => ⟨_, _, _, _, _, _, rfl, rfl, ⟨_, _, _, _, _, _, rfl, rfl, rfl⟩⟩)
theorem ch_kb (F : chD K f fd) : KBn K fd ["table", "order", "on", "off"] 2 ["on", "off"] (fun us ws => us ++ ws) (fun vs zs => vs ++ zs) := by
  obtain ⟨oc, od, dV, kV, doc, pm, an, cdv, ct, osl, rfl, lk, hcd, hD, hK⟩ := F.ex
  rcases hD with ⟨_, rfl⟩ | ⟨e, _⟩
  · rcases hK with e | ⟨D, rfl, _⟩
    · cases e
    · exact ⟨fun s us ws X l1 l2 => match us, l1, ws, l2 with | [_, _], _, [_, _], _ => .of_eq rfl, fun r1 r2 => r1.append r2⟩
  · exact absurd rfl e
theorem ch_kbOff (F : chD K f fd) : ∃ mv : List Value, KBn K fd ["table", "order", "on", "off"] 2 ["off"] (fun us ws => us ++ (mv ++ ws)) (fun vs zs => vs ++ ([.str "#"] ++ zs)) :=
  F.kbinds0 (ps := ["table", "order", "on", "off"]) 2 ["off"] [("on", .str "#")] (fun us mv ws => us ++ (mv ++ ws)) (by simp) (fun q hq => by simp at hq; subst hq; simp) (fun r1 r2 r3 => r1.append (r2.append r3))
    (fun D doc pm an cdv ct us mv ws h1 h2 h3 => match us, h1, mv, h2, ws, h3 with | [_, _], _, [_], _, [_], _ => ⟨_, _, _, _, _, _, rfl, rfl, rfl⟩)
theorem ch_kbOn (F : chD K f fd) : ∃ mv : List Value, KBn K fd ["table", "order", "on", "off"] 2 ["on"] (fun us ws => us ++ (ws ++ mv)) (fun vs zs => vs ++ (zs ++ [.str "."])) :=
  F.kbinds0 (ps := ["table", "order", "on", "off"]) 2 ["on"] [("off", .str ".")] (fun us mv ws => us ++ (ws ++ mv)) (by simp) (fun q hq => by simp at hq; subst hq; simp) (fun r1 r2 r3 => r1.append (r3.append r2))
    (fun D doc pm an cdv ct us mv ws h1 h2 h3 => match us, h1, mv, h2, ws, h3 with | [_, _], _, [_], _, [_], _ => ⟨_, _, _, _, _, _, rfl, rfl, rfl⟩)
theorem ch_mk {f D : Addr} {od an : Option Addr} {sl : Array (Option Value)} {oc dc pm cd ct : Value} (l : K.lookup f = some ⟨oc, od, .func (PySem.W.fnOf "chart" "chart" (defArgs sChart) (defBody sChart) (defScope sChart) .none (.ref D) dc pm an cd ct), sl⟩) (c : PySem.W.codeIn K cd "chart" = true) (k : PySem.W.keepIn K (.ref f) = true)
    (q1 : ∃ t, PySem.W.nsIn K D "on" = some (some (.str "#" t))) (q2 : ∃ t, PySem.W.nsIn K D "off" = some (some (.str "." t))) : chD K f (PySem.W.fnOf "chart" "chart" (defArgs sChart) (defBody sChart) (defScope sChart) .none (.ref D) dc pm an cd ct) := by
  obtain ⟨t1, q1⟩ := q1
  obtain ⟨t2, q2⟩ := q2
  refine ⟨⟨_, _, _, _, _, _, _, _, _, _, rfl, l, c, .inl ⟨rfl, rfl⟩, .inr ⟨D, rfl, fun x hx => ?_⟩⟩, k⟩
  rcases List.mem_cons.mp hx with rfl | hx
  · exact ⟨_, q1, ⟨_, rfl⟩⟩
  · obtain rfl := List.mem_singleton.mp hx
    exact ⟨_, q2, ⟨_, rfl⟩⟩
end
end Dl

/-! in a try's body: o.m(..) of a def with a star parameter, o[k] by the own __getitem__; isinstance of a caught error that has its dict -/
namespace Dl
open PySem PySem.Spec PyProof.Rows L2
section
variable {X : Cx} {σ : L2.St} {pins : List (Addr × Obj)} {H : Hp} {s : Shared} {Q : VK}
/-- what isinstance asks of an error's class -/
structure IsE (K : PySem.W.Frag) (D : Addr) : Prop where
  hc : (PySem.W.clsIn K D).isSome = true
  ga : PySem.W.findIn K (.ref D) "__getattribute__" = some (some (.builtin "BaseException.__getattribute__"))
  gg : PySem.W.findIn K (.ref D) "__getattr__" = some none
  sb : PySem.W.subIn K (.ref D) (.type "BaseException") = some true
  ha : PySem.W.findIn K (.ref D) "__class__" = some (some (.builtin "object.__class__"))
  hn : PySem.W.specialIn K (.builtin "object.__class__") "__get__" = some (some (.builtin "getset_descriptor.__get__"))
  ht : PySem.W.takesIn K (.builtin "object.__class__") = some true
  hm : PySem.W.mroIn K D (.type "object") = some true
def rIsED (K : PySem.W.Frag) (D a : Addr) (cls : Value) (d : Option Addr) : List V → Hp → VK → Prop := fun xs H Q => ∃ (c : V) (cv : Value) (b : Bool) (dd : Addr) (fs : List (Str × V)), xs = [.ref a, c] ∧ (∀ u, RelV c u → u = cv) ∧ cls = .ref D ∧ d = some dd ∧ H dd = some (.xd fs) ∧ PySem.W.kitOne K (.ref D) cv = some b ∧ Q (.bl b) H
theorem call_isED {a D : Addr} {cls : Value} {d : Option Addr} {oe : Obj} {pn : List (Addr × Obj)} (T : IsE X.K D) (hz : Zc cls d oe) (hf : ∃ vs, oe.data = .fields vs) : CallR (X.suite a ((a, oe) :: pn)) (.builtin "isinstance") (rIsED X.K D a cls d) := by
  intro pins s σ H xs us Q I r h
  obtain ⟨c, cv, b, dd, fs, rfl, hcv, rfl, rfl, hdd, hk, q⟩ := h
  obtain ⟨u1, u2, rfl, r1, r2⟩ := vals2 r
  cases r1
  obtain rfl := hcv _ r2
  obtain ⟨there, _⟩ := I.pin (a, oe) (List.mem_append_left _ List.mem_cons_self)
  obtain ⟨vs, hv⟩ := hf
  obtain ⟨mA, hns, _⟩ := (show ObjOk X.prog X.w H s.heap dd (.xd fs) from I.hok dd _ hdd)
  obtain ⟨od, ho, _⟩ := lookIn_ns hns
  have J : PySem.W.InstAt s.heap a oe D (some od) := ⟨there, hz.1, by unfold PySem.W.notCls; rw [hv] <;> rfl, by rw [hz.2]; exact ho⟩
  exact PySem.W.kia_one (PySem.W.kitx_exc T.hc T.ga T.gg T.sb T.ha T.hn T.ht T.hm) I.kIn J hk (fun z => nomatch z) fun tk => ⟨.bl b, H, I.kept (t' := tk) fun _ _ z => z, rfl, q⟩
end
end Dl

/-! isinstance of a caught error, with an own dict or without: my own rule -/
namespace Dl
open PySem PySem.Spec PyProof.Rows L2
def rIsEX (K : PySem.W.Frag) (Ds : List Addr) (a : Addr) (cls : Value) (d : Option Addr) : List V → Hp → VK → Prop := fun xs H Q => ∃ D ∈ Ds, ∃ (c : V) (cv : Value) (b : Bool), xs = [.ref a, c] ∧ (∀ u, RelV c u → u = cv) ∧ cls = .ref D ∧
  (d = none ∨ ∃ dd fs, d = some dd ∧ H dd = some (.xd fs)) ∧ PySem.W.kitOne K (.ref D) cv = some b ∧ Q (.bl b) H
theorem call_isEX {X : Cx} {a : Addr} {Ds : List Addr} {cls : Value} {d : Option Addr} {oe : Obj} {pn : List (Addr × Obj)} (T : ∀ D ∈ Ds, IsE X.K D) (hz : Zc cls d oe) (hf : ∃ vs, oe.data = .fields vs) : CallR (X.suite a ((a, oe) :: pn)) (.builtin "isinstance") (rIsEX X.K Ds a cls d) := by
  rintro pins s σ H xs us Q I r ⟨D, hD, c, cv, b, e1, e2, e3, dict, hk, q⟩
  rcases dict with e | ⟨dd, fs, e, hdd⟩
  · have t := T D hD
    subst e1 e3 e
    obtain ⟨u1, u2, rfl, r1, r2⟩ := vals2 r
    cases r1
    obtain rfl := e2 _ r2
    obtain ⟨there, _⟩ := I.pin (a, oe) (List.mem_append_left _ List.mem_cons_self)
    obtain ⟨vs, hv⟩ := hf
    have J : PySem.W.InstAt s.heap a oe D none := ⟨there, hz.1, by unfold PySem.W.notCls; rw [hv] <;> rfl, by rw [hz.2]; trivial⟩
    exact PySem.W.kia_one (PySem.W.kitx_exc t.hc t.ga t.gg t.sb t.ha t.hn t.ht t.hm) I.kIn J hk (fun z => nomatch z) fun tk => ⟨.bl b, H, I.kept (t' := tk) fun _ _ z => z, rfl, q⟩
  · exact call_isED (T D hD) hz hf pins s σ H xs us Q I r ⟨c, cv, b, dd, fs, e1, e2, e3, e, hdd, hk, q⟩
end Dl

namespace Dl
open PySem PySem.Spec PyProof.Rows L2
def spRefused (K : PySem.W.Frag) (CT : Addr) : Sp := fun vs H Q _ => ∃ (x o : Addr) (ls : List Str) (rs : List (Str × List Str)) (os : List Str), vs = [.ref x, .ref o] ∧ TableAt CT H x ls rs ∧ TabOk ls rs ∧ SqLT K H o (os.map V.str) ∧ os.length < 64 ∧ (∀ z ∈ os, canS z) ∧
  ¬ os.Perm (keysOf rs) ∧ ∀ H', Same H H' → Q (.bl true) H'
section
variable {P : Program} {w : World} {K : PySem.W.Frag} {mg : Str → Option Value} {base : Heap} {CT CI CD : Addr}
theorem scRefused : FnScope ["_law_table", "_law_order", "e"] ["_law_table", "_law_order"] (defScope sLawRefused) := ⟨rfl, rfl, rfl, by decide +kernel, rfl, by decide +kernel, by decide +kernel⟩
theorem ok_refused69 {f : Addr} {fd : FuncData} (F : Fun K "_law_refused" "_law_refused" sLawRefused f fd) (mI : mg "isinstance" = none) (gI : mg "InvalidOrder" = some (.ref CI)) (gD : mg "DimmerError" = some (.ref CD)) (ise : IsE K CI)
    (te : PySem.W.exmOne K (.ref CI) (.ref CI) = some true) (kd : PySem.W.kitOne K (.ref CI) (.ref CD) = some true)
    (gC : ∃ f fd ds, mg "chart" = some (.ref f) ∧ PySem.W.keepIn K (.ref f) = true ∧ Vals [.str "#", .str "."] ds ∧ Binds K fd ["table", "order", "on", "off"] ds ∧ FnOk P w K mg base (L2.CX P w) 6 f fd ["table", "order", "on", "off"] (spChart K CT CI)) :
    FnOk P w K mg base CX0 7 f fd ["_law_table", "_law_order"] (spRefused K CT) := by
  obtain ⟨fC, dfC, dsC, mC, kC, dC, bC, GC⟩ := gC
  refine F.ok scRefused (fun vs H Q E h => ?_) (fun cdv A outer s H vs Q E hr h => ?_)
  · obtain ⟨x, o, ls, rs, os, rfl, _⟩ := h
    rfl
  · obtain ⟨x, o, ls, rs, os, rfl, hT, ok, ho, h64, hcan, np, k⟩ := h
    have hr6 : Room 6 _ := hr
    refine ⟨_, pss_cons (ps_try_as (i := 2) (tb := fun W => tDrop (tCallSD (spChart K CT CI) [.str "#", .str "."] (WE W) (tCons (tVar 0) (tCons (tVar 1) tNil))))
          (ts := fun a cls d => tRet (tCB (rIsEX K [CI] a cls d) (tCons (tVar 2) (tCons (tC (.ref CD)) tNil)))) (Wout := fun _ _ _ _ => False) rfl rfl scRefused.nd rfl rfl ⟨rfl, by decide, Or.inl gI⟩ takes0
          (fun W pn xe tk _ => pss_one (ps_expr (by exact (pe_callSD GC hr6 (by rfl) mC kC bC dC (fun σ => passAt tk σ) (pa_cons (pv 0) (pa_cons (pv 1) pa_nil))))))
          (fun a oe cls d pn hz hf => pss_one (ps_ret (pe_callB (call_isEX (by intro D hD; obtain rfl := List.mem_singleton.mp hD; exact ise) hz hf) (by rfl) mI (by decide +kernel) (pa_cons (pv 2) (pa_cons (pe_glob (v := .ref CD) (by rfl) gD rfl) pa_nil))))))
      (pss_one (ps_ret pe_bl)), ?_⟩
    refine ⟨_, rfl, _, rfl, x, o, "#", ".", ls, rs, os, rfl, hT, ok, ho, h64, hcan, by decide +kernel, by decide +kernel, fun pm => absurd pm np, fun _ H' s' => ?_⟩
    refine ⟨true, te, fun _ a0 _ => ?_, fun q => Bool.noConfusion q⟩
    exact ⟨_, rfl, CI, List.mem_singleton.mpr rfl, _, _, true, rfl, fun u r => r, rfl, .inl rfl, kd, k _ s'⟩
end
end Dl

namespace Dl
open PySem PySem.Spec PyProof.Rows L2
structure TxtL69 (mg : Str → Option Value) : Prop where
  list : mg "list" = none
  len : mg "len" = none
  tuple : mg "tuple" = none
  range : mg "range" = none
/-- the longer name of the last lamp -/
def WW (r : Int) : Str := cutS ("abcdefghijkl" : Str) none (some (6 + r))
theorem ww_facts : ∀ k, k < 7 → validN (WW ((k : Nat) : Int)) = true ∧ 6 ≤ (WW ((k : Nat) : Int)).length := by decide +kernel
theorem abc_len : ("abcdefghijkl" : Str).length = 12 ∧ ("absent9999" : Str).length = 10 ∧ ("#. *xo-=@" : Str).length = 9 := by decide +kernel
theorem absent_can : canS "absent9999" := by unfold canS; decide +kernel
theorem marks9 : ∀ k, k < 9 → ∃ c, atI ("#. *xo-=@" : Str).cps.toList ((k : Nat) : Int) = some c := by
  intro k hk
  have e : (atI ("#. *xo-=@" : Str).cps.toList ((k : Nat) : Int)).isSome = true := by
    revert k
    decide +kernel
  exact Option.isSome_iff_exists.mp e
theorem set_nodup : ∀ {l : List Str} {i : Nat} {w : Str}, l.Nodup → w ∉ l → (l.set i w).Nodup
  | [], _, _, _, _ => by simp
  | x :: r, 0, w, h, hw => by
    rw [List.set_cons_zero, List.nodup_cons]
    exact ⟨fun m => hw (List.mem_cons_of_mem _ m), (List.nodup_cons.mp h).2⟩
  | x :: r, i + 1, w, h, hw => by
    rw [List.set_cons_succ, List.nodup_cons]
    refine ⟨fun m => ?_, set_nodup (List.nodup_cons.mp h).2 fun m => hw (List.mem_cons_of_mem _ m)⟩
    rcases List.mem_or_eq_of_mem_set m with m | m
    · exact (List.nodup_cons.mp h).1 m
    · exact hw (by rw [← m]; exact List.mem_cons_self ..)
/-- names of a table, however long -/
structure GoodN (ls : List Str) : Prop where
  nd : ls.Nodup
  val : ∀ z ∈ ls, validN z = true
theorem GoodN.of {ls : List Str} (ok : NamesOk ls) : GoodN ls := ⟨ok.nd, fun z h => ok.valid h⟩
theorem GoodN.can {ls : List Str} (ok : GoodN ls) : ∀ z ∈ ls, canS z := fun z h => valid_can (ok.val z h)
theorem short_names {zs : List Str} (ok : NamesOk zs) {w : Str} (h : 6 ≤ w.length) : w ∉ zs := fun m => by
  obtain ⟨i, hi, e⟩ := List.getElem_of_mem m
  have q := (ok.at_ i w (by rw [List.getElem?_eq_getElem hi, e])).sg (by have := ok.few; omega)
  omega
theorem tabok_good {ls ks : List Str} {rs : List (Str × List Str)} (okl : GoodN ls) (few : ls.length ≤ 24) (okk : NamesOk ks) (e : (rs.map fun x : Str × List Str => x.1) = ks) (sub : ∀ x ∈ rs, x.2.Sublist ls) : TabOk ls rs :=
  ⟨okl.nd, okl.val, few, by rw [e]; exact okk.nd, fun x h => okk.valid (by rw [← e]; exact List.mem_map_of_mem h), by rw [← List.length_map (f := fun x : Str × List Str => x.1), e]; exact okk.few, sub⟩
theorem turn0 (ts : List (Str × List Str)) : ts.map (turnOf 0) = ts := by
  have e : turnOf 0 = id := funext fun x => by
    unfold turnOf
    rw [if_neg (by decide)]
    rfl
  rw [e, List.map_id]
theorem seqIx {i : Int} {n : Nat} (h0 : 0 ≤ i) (h1 : i < n) : seqIndex? i n = some i.toNat := by
  unfold seqIndex?
  simp
  omega
theorem perm_pop {os : List Str} {j : Nat} (h : j < os.length) : (os.eraseIdx j ++ [os[j]]).Perm os := by
  have e : os = os.take j ++ os[j] :: os.drop (j + 1) := by
    rw [List.getElem_cons_drop, List.take_append_drop]
  rw [List.eraseIdx_eq_take_drop_succ]
  calc (os.take j ++ os.drop (j + 1) ++ [os[j]]).Perm ([os[j]] ++ (os.take j ++ os.drop (j + 1))) := List.perm_append_comm
    _ = os[j] :: (os.take j ++ os.drop (j + 1)) := rfl
    List.Perm _ (os.take j ++ os[j] :: os.drop (j + 1)) := List.perm_middle.symm
    _ = os := e.symm
theorem atI_at {xs : List V} {j : Nat} {v : V} (h : xs[j]? = some v) : atI xs (j : Int) = some v := by
  unfold atI
  rw [ix_at (List.getElem?_eq_some_iff.mp h).1]
  exact h
theorem strs_ne {a : Str} : (!decide (V.str a = V.str a)) = false := by rw [decide_eq_true rfl]; rfl
structure Mid69 (CT b a R x o : Addr) (ls ks os : List Str) (rs : List (Str × List Str)) (rows : List RowIn) (H : Hp) : Prop where
  bag : BagIn H b
  lamps : H a = some (.lst (ls.map V.str))
  rowsD : RowsD b ls ks H R rows
  tab : TableAt CT H x ls rs
  ord : H o = some (.lst (os.map V.str))
  perm : os.Perm ks
theorem Mid69.of {CT b a R x o : Addr} {ls ks os : List Str} {rs : List (Str × List Str)} {rows : List RowIn} {H H' : Hp} (M : Mid69 CT b a R x o ls ks os rs rows H) (s : Same H H') : Mid69 CT b a R x o ls ks os rs rows H' :=
  ⟨M.bag.of s, s _ _ M.lamps, M.rowsD.of M.bag.lst (SameB.of s), M.tab.of s, s _ _ M.ord, M.perm⟩
theorem Mid69.drawn {CT b a R x o : Addr} {ls ks os : List Str} {rs : List (Str × List Str)} {rows : List RowIn} {H : Hp} {L : List Int} (M : Mid69 CT b a R x o ls ks os rs rows H) (na : a ≠ b) (no : o ≠ b) (ok : BagOk L) : Mid69 CT b a R x o ls ks os rs rows (upd H b (.lst (L.map V.int))) :=
  ⟨.upd ok, draw_same _ _ na M.lamps, M.rowsD.of M.bag.lst draw_same, M.tab.ofB M.bag.lst draw_same, draw_same _ _ no M.ord, M.perm⟩
def spLaw69 (K : PySem.W.Frag) : Sp := fun vs H Q _ => ∃ (a : Addr) (ns : List Int), vs = [.ref a] ∧ SqL K H a (ns.map V.int) ∧ ns.length ≤ 63 ∧ ∀ H', Q (.bl true) H'
section
variable {P : Program} {w : World} {K : PySem.W.Frag} {mg : Str → Option Value} {base : Heap} {C : Cs} {CT CI : Addr}
theorem scLaw69 : FnScope ["_law_script", "_law_bag_here", "_law_lamps", "_law_count", "_law_looks", "_law_rows_here", "_law_table", "_law_order", "_law_k", "_law_passed", "_law_marks", "_law_glow", "_law_dark", "_law_spot"] ["_law_script"] (defScope sLaw) := ⟨rfl, rfl, rfl, by decide +kernel, rfl, by decide +kernel, by decide +kernel⟩
theorem ok_law69 {f : Addr} {fd : FuncData} (F : Fun K "law" "law" sLaw f fd) (T : TxtL69 mg) (gTab : mg "Table" = some (.ref CT))
    (init : ∃ fT fdT, Mk K CT fT ∧ Binds K fdT ["self", "lamps", "looks"] [] ∧ FnOk P w K mg base (L2.CX P w) 8 fT fdT ["self", "lamps", "looks"] (spTabInit2 K CT C))
    (gC : ∃ f fd, chD K f fd ∧ mg "chart" = some (.ref f) ∧ FnOk P w K mg base (L2.CX P w) 6 f fd ["table", "order", "on", "off"] (spChart K CT CI))
    (gB : Dfn P w K mg base CX0 1 "_law_bag" ["_law_script"] (spBag K)) (gT : Dfn P w K mg base CX0 1 "_law_take" ["_law_bag_here", "_law_size"] spTake)
    (gN : Dfn P w K mg base CX0 3 "_law_names" ["_law_bag_here", "_law_count"] spNames) (gR : Dfn P w K mg base CX0 3 "_law_rows" ["_law_bag_here", "_law_lamps", "_law_looks"] spRows3c)
    (gG : Dfn P w K mg base CX0 1 "_law_given" ["_law_rows_here", "_law_way"] spGiven)
    (gD : Dfn P w K mg base CX0 2 "_law_drawn" ["_law_lamps", "_law_rows_here", "_law_order", "_law_glow", "_law_dark"] spDrawn) (gF : Dfn P w K mg base CX0 7 "_law_refused" ["_law_table", "_law_order"] (spRefused K CT)) :
    FnOk P w K mg base CX0 10 f fd ["_law_script"] (spLaw69 K) := by
  obtain ⟨fM, fdM, M, bM, GM⟩ := init
  obtain ⟨fCh, dfCh, FCh, mCh, GCh⟩ := gC
  have kCh := FCh.kp
  obtain ⟨dsCh, dCh, bCh⟩ := ch_b FCh
  have kb2 := ch_kb FCh
  obtain ⟨mvF, kbF⟩ := ch_kbOff FCh
  obtain ⟨mvN, kbN⟩ := ch_kbOn FCh
  obtain ⟨fB, dB, mBag, kBag, bBag, GBag⟩ := gB
  obtain ⟨fT, dT, mTake, kTake, bTake, GTake⟩ := gT
  obtain ⟨fN, dN, mNames, kNames, bNames, GNames⟩ := gN
  obtain ⟨fRw, dRw, mRows, kRows, bRows, GRows⟩ := gR
  obtain ⟨fG, dG, mGiven, kGiven, bGiven, GGiven⟩ := gG
  obtain ⟨fD, dD, mDrawn, kDrawn, bDrawn, GDrawn⟩ := gD
  obtain ⟨fF, dF, mRef, kRef, bRef, GRef⟩ := gF
  refine F.ok scLaw69 (fun vs H Q E h => ?_) (fun cdv A outer s H vs Q E hr h => ?_)
  · obtain ⟨a, ns, rfl, _⟩ := h
    rfl
  · obtain ⟨a0, ns, rfl, hS, hlen, k⟩ := h
    have hr9 : Room 9 _ := hr
    have hr7 : Room 7 _ := hr.mono (by decide)
    have hr6 : Room 6 _ := hr.mono (by decide)
    have hr3 : Room 3 _ := hr.mono (by decide)
    have hr2 : Room 2 _ := hr.mono (by decide)
    have hr1 : Room 1 _ := hr.mono (by decide)
    refine ⟨_, (pss_cons (ps_set (i := 1) scLaw69.nd rfl (Or.inl rfl) (pe_call GBag hr1 (by rfl) mBag kBag bBag .nil pass0 (pa_cons (pv 0) pa_nil)))
        (pss_cons (ps_set (i := 2) scLaw69.nd rfl (Or.inl rfl) (pe_call GNames hr3 (by rfl) mNames kNames bNames .nil pass0 (pa_cons (pv 1) (pa_cons (pe_call GTake hr1 (by rfl) mTake kTake bTake .nil pass0 (pa_cons (pv 1) (pa_cons pe_int pa_nil))) pa_nil))))
        (C8.pss_cut (ps_if (PW.pt (pw_and (pt_cmpR (op_neD hr.units) (pv 2) (pe_lst pa_nil) (nomark _)) (pw_and1 (pt_cmpR op_eq (pe_call GTake hr1 (by rfl) mTake kTake bTake .nil pass0 (pa_cons (pv 1) (pa_cons pe_int pa_nil))) pe_int (nomark _))))) (pss_one (ps_asg (pe_slice sl_str pe_str po_none (po_some (pe_op op_add pe_int (pe_call GTake hr1 (by rfl) mTake kTake bTake .nil pass0 (pa_cons (pv 1) (pa_cons pe_int pa_nil)))))) (pg_sub (pv 2) (pe_un un_neg pe_int) set_list))) pss_nil)
        (pss_cons (ps_set (i := 3) scLaw69.nd rfl (Or.inl rfl) (pe_call GTake hr1 (by rfl) mTake kTake bTake .nil pass0 (pa_cons (pv 1) (pa_cons pe_int pa_nil))))
        (C8.pss_cut (ps_if (pt_cmpR op_eq (pe_call GTake hr1 (by rfl) mTake kTake bTake .nil pass0 (pa_cons (pv 1) (pa_cons pe_int pa_nil))) pe_int (nomark _)) (pss_one (ps_set (i := 3) scLaw69.nd rfl (Or.inl rfl) pe_int)) pss_nil)
        (pss_cons (ps_set (i := 4) scLaw69.nd rfl (Or.inl rfl) (pe_call GNames hr3 (by rfl) mNames kNames bNames .nil pass0 (pa_cons (pv 1) (pa_cons (pv 3) pa_nil))))
        (pss_cons (ps_set (i := 5) scLaw69.nd rfl (Or.inl rfl) (pe_call GRows hr3 (by rfl) mRows kRows bRows .nil pass0 (pa_cons (pv 1) (pa_cons (pv 2) (pa_cons (pv 4) pa_nil)))))
        (pss_cons (ps_set (i := 6) scLaw69.nd rfl (Or.inl rfl) (pe_make M GM hr9 (by rfl) gTab bM .nil passL (pa_cons (pe_callTy call_list_of (by rfl) T.list (by decide +kernel) (pa_cons (pv 2) pa_nil)) (pa_cons (pe_call GGiven hr1 (by rfl) mGiven kGiven bGiven .nil pass0 (pa_cons (pv 5) (pa_cons pe_int pa_nil))) pa_nil))))
        (pss_cons (ps_set (i := 7) scLaw69.nd rfl (Or.inl rfl) (pe_callTy call_list_of (by rfl) T.list (by decide +kernel) (pa_cons (pv 4) pa_nil)))
        (C8.pss_cut (ps_for PassesOwn.never rfl (pi_range1 (by rfl) T.range (pa_cons (pe_op op_sub (pe_callB call_len_seq (by rfl) T.len PySem.boot_len (pa_cons (pv 7) pa_nil)) pe_int) pa_nil)) (pg_name (i := 8) scLaw69.nd rfl (Or.inl rfl)) (pss_one (ps_expr (pe_bm PySem.F.plainAttrs_list PySem.F.slot_list_append PySem.F.type_list_append mt_append (pv 7) (pa_cons (pe_bm PySem.F.plainAttrs_list PySem.F.slot_list_pop PySem.F.type_list_pop mt_popAt (pv 7) (pa_cons (pe_call GTake hr1 (by rfl) mTake kTake bTake .nil pass0 (pa_cons (pv 1) (pa_cons (pe_op op_sub (pe_callB call_len_seq (by rfl) T.len PySem.boot_len (pa_cons (pv 7) pa_nil)) (pv 8)) pa_nil))) pa_nil)) pa_nil)))))
        (pss_cons (ps_set (i := 9) scLaw69.nd rfl (Or.inl rfl) (pe_callTy call_list_of (by rfl) T.list (by decide +kernel) (pa_cons (pv 7) pa_nil)))
        (pss_cons (ps_set (i := 10) scLaw69.nd rfl (Or.inl rfl) pe_str)
        (pss_cons (ps_set (i := 11) scLaw69.nd rfl (Or.inl rfl) (pe_ix ix_str (pv 10) (pe_call GTake hr1 (by rfl) mTake kTake bTake .nil pass0 (pa_cons (pv 1) (pa_cons pe_int pa_nil))) (fun _ _ => rfl)))
        (pss_cons (ps_set (i := 12) scLaw69.nd rfl (Or.inl rfl) (pe_ix ix_str (pv 10) (pe_call GTake hr1 (by rfl) mTake kTake bTake .nil pass0 (pa_cons (pv 1) (pa_cons pe_int pa_nil))) (fun _ _ => rfl)))
        (pss_cons (ps_if (PW.pt (pw_or (pt_cmpR op_ne (pe_call GCh hr6 (by rfl) mCh kCh bCh dCh passL (pa_cons (pv 6) (pa_cons (pv 9) pa_nil))) (pe_call GDrawn hr2 (by rfl) mDrawn kDrawn bDrawn .nil pass0 (pa_cons (pv 2) (pa_cons (pv 5) (pa_cons (pv 7) (pa_cons pe_str (pa_cons pe_str pa_nil)))))) (nomark _)) (pw_or1 (pt_cmpR (op_neD hr.units) (pv 9) (pv 7) (nomark _))))) (pss_one (ps_ret pe_bl)) pss_nil)
        (pss_cons (ps_if (pt_cmpR op_ne (pe_callN GCh hr6 (by rfl) mCh kCh kb2 passL (pa_cons (pv 6) (pa_cons (pe_callTy call_tuple_of (by rfl) T.tuple (by decide +kernel) (pa_cons (pv 7) pa_nil)) pa_nil)) (pk_cons (pv 11) (pk_cons (pv 12) pk_nil))) (pe_call GDrawn hr2 (by rfl) mDrawn kDrawn bDrawn .nil pass0 (pa_cons (pv 2) (pa_cons (pv 5) (pa_cons (pv 7) (pa_cons (pv 11) (pa_cons (pv 12) pa_nil)))))) (nomark _)) (pss_one (ps_ret pe_bl)) pss_nil)
        (pss_cons (ps_if (pt_cmpR op_ne (pe_callN GCh hr6 (by rfl) mCh kCh kbF passL (pa_cons (pv 6) (pa_cons (pv 9) pa_nil)) (pk_cons (pv 12) pk_nil)) (pe_call GDrawn hr2 (by rfl) mDrawn kDrawn bDrawn .nil pass0 (pa_cons (pv 2) (pa_cons (pv 5) (pa_cons (pv 7) (pa_cons pe_str (pa_cons (pv 12) pa_nil)))))) (nomark _)) (pss_one (ps_ret pe_bl)) pss_nil)
        (pss_cons (ps_if (pt_cmpR op_ne (pe_callN GCh hr6 (by rfl) mCh kCh kbN passL (pa_cons (pv 6) (pa_cons (pv 9) pa_nil)) (pk_cons (pv 11) pk_nil)) (pe_call GDrawn hr2 (by rfl) mDrawn kDrawn bDrawn .nil pass0 (pa_cons (pv 2) (pa_cons (pv 5) (pa_cons (pv 7) (pa_cons (pv 11) (pa_cons pe_str pa_nil)))))) (nomark _)) (pss_one (ps_ret pe_bl)) pss_nil)
        (pss_cons (ps_if (pt_cmpR (op_eqD hr.units) (pv 7) (pe_lst pa_nil) (nomark _)) (pss_one (ps_ret (pe_call GRef hr7 (by rfl) mRef kRef bRef .nil pass0 (pa_cons (pv 6) (pa_cons (pe_lst (pa_cons pe_str pa_nil)) pa_nil))))) pss_nil)
        (pss_cons (ps_set (i := 13) scLaw69.nd rfl (Or.inl rfl) (pe_call GTake hr1 (by rfl) mTake kTake bTake .nil pass0 (pa_cons (pv 1) (pa_cons (pe_callB call_len_seq (by rfl) T.len PySem.boot_len (pa_cons (pv 7) pa_nil)) pa_nil))))
        (pss_cons (ps_if (pt_not (pt_val (pe_call GRef hr7 (by rfl) mRef kRef bRef .nil pass0 (pa_cons (pv 6) (pa_cons (pe_op op_cat (pe_slice sl_list (pv 7) po_none (po_some (pv 13))) (pe_slice sl_list (pv 7) (po_some (pe_op op_add (pv 13) pe_int)) po_none)) pa_nil))))) (pss_one (ps_ret pe_bl)) pss_nil)
        (pss_cons (ps_if (pt_not (pt_val (pe_call GRef hr7 (by rfl) mRef kRef bRef .nil pass0 (pa_cons (pv 6) (pa_cons (pe_op op_cat (pe_op op_cat (pe_slice sl_list (pv 7) po_none (po_some (pv 13))) (pe_lst (pa_cons pe_str pa_nil))) (pe_slice sl_list (pv 7) (po_some (pe_op op_add (pv 13) pe_int)) po_none)) pa_nil))))) (pss_one (ps_ret pe_bl)) pss_nil)
        (pss_one (ps_ret (pe_call GRef hr7 (by rfl) mRef kRef bRef .nil pass0 (pa_cons (pv 6) (pa_cons (pe_op op_cat (pv 7) (pe_lst (pa_cons (pe_ix ix_list (pv 7) (pv 13) (fun _ _ => rfl)) pa_nil))) pa_nil))))))))))))))))))))))))))), ?_⟩
    refine ⟨_, rfl, a0, ns, rfl, hS, hlen, fun H1 b L s1 hb0 hL hok => ?_⟩
    refine ⟨_, rfl, _, rfl, b, L, 6, rfl, hL, hok, by decide, by decide, fun L1 n ok1 n0 n1 => ⟨b, L1, n, rfl, upd_same, ok1, by omega, by omega, fun H2 a L2 zs s2 han ha hb2 ok2 okz hz => ?_⟩⟩
    have nab : a ≠ b := fun e => by rw [e, upd_same] at han; cases han
    clear hL hok s1 s2 ok1 han
    -- the lamps
    refine ⟨fun σ H' => ∃ ls : List Str, σ = [some (.ref a0), some (.ref b), some (.ref a), none, none, none, none, none, none, none, none, none, none, none] ∧ BagIn H' b ∧ H' a = some (.lst (ls.map V.str)) ∧ GoodN ls ∧ ls.length ≤ 5, ?_, ?_⟩
    · have zl : zs.length ≤ 5 := by omega
      refine ⟨_, rfl, Nat.zero_le _, fun q hq => ?_⟩
      have s3 := Same.upd_new hq (o := .lst [])
      have hb3 := s3 _ _ hb2
      have ha3 := s3 _ _ ha
      refine ⟨.list (zs.map PyData.str), .list (([] : List Str).map PyData.str), .lst (SqL.of ha3) (dpAll_strs _), .lst (SqL.of upd_same) (dpAll_strs []), shaped_strs okz.bag, shaped_strs (by simp), _, rfl, ?_⟩
      generalize upd H2 q (.lst []) = H3 at *
      by_cases hz0 : zs = []
      · refine iteZ (by rw [eqv_lists, decide_eq_true hz0]; rfl) ?_
        exact ⟨zs, rfl, ⟨L2, hb3, ok2⟩, ha3, GoodN.of okz, zl⟩
      · refine iteY (by rw [eqv_lists, decide_eq_false hz0]; rfl) ?_
        have zp : 0 < zs.length := List.length_pos_iff.mpr hz0
        refine ⟨_, rfl, b, L2, 2, rfl, hb3, ok2, by decide, by decide, fun L3 r ok3 r0 r1 => ⟨rfl, _, rfl, ?_⟩⟩
        refine ite2 (fun _ => ?_) (fun _ => ?_)
        · refine ⟨_, rfl, b, L3, 7, rfl, upd_same, ok3, by decide, by decide, fun L4 r2 ok4 r20 r21 => ?_⟩
          obtain ⟨f1, f2⟩ := ww_facts r2.toNat (by omega)
          have er : ((r2.toNat : Nat) : Int) = r2 := by omega
          rw [er] at f1 f2
          have nw := short_names okz f2
          refine ⟨_, _, rfl, rfl, _, rfl, _, rfl, by rw [abc_len.1]; decide, ?_⟩
          refine ⟨_, rfl, _, rfl, a, zs.map V.str, -1, zs.length - 1, rfl, rfl, by rw [upd_ne nab, upd_ne nab]; exact ha3, by rw [List.length_map]; unfold ixN; rw [if_neg (by decide), if_pos (by omega)]; congr 1; omega, ?_⟩
          refine ⟨zs.set (zs.length - 1) (WW r2), rfl, ⟨L4, by rw [upd_ne nab.symm, upd_same], ok4⟩, by rw [upd_same, List.map_set]; rfl, ⟨set_nodup okz.nd nw, fun z hz => ?_⟩, by rw [List.length_set]; exact zl⟩
          rcases List.mem_or_eq_of_mem_set hz with m | m
          · exact okz.valid m
          · rw [m]; exact f1
        · exact ⟨zs, rfl, .upd ok3, draw_same _ _ nab ha3, GoodN.of okz, zl⟩
    clear hz okz hb2 ok2 ha zs L2 n0 n1 n
    rintro σ H3 ⟨ls, rfl, ⟨L3, hb3, ok3⟩, ha3, okl, hll⟩
    -- the count
    refine ⟨_, rfl, b, L3, 7, rfl, hb3, ok3, by decide, by decide, fun L4 m ok4 m0 m1 => ?_⟩
    have ha4 := draw_same (L := L4) _ _ nab ha3
    have hb4 : BagIn (upd H3 b (.lst (L4.map V.int))) b := .upd ok4
    generalize upd H3 b (.lst (L4.map V.int)) = H4 at *
    clear ha3 hb3 ok3 ok4 L4
    refine ⟨fun σ H' => ∃ m : Int, σ = [some (.ref a0), some (.ref b), some (.ref a), some (.int m), none, none, none, none, none, none, none, none, none, none] ∧ BagIn H' b ∧ H' a = some (.lst (ls.map V.str)) ∧ 0 ≤ m ∧ m ≤ 24, ?_, ?_⟩
    · obtain ⟨L4, hb4, ok4⟩ := hb4
      refine ⟨_, rfl, b, L4, 6, rfl, hb4, ok4, by decide, by decide, fun L5 r ok5 r0 r1 => ⟨rfl, _, rfl, ?_⟩⟩
      refine ite2 (fun _ => ?_) (fun _ => ?_)
      · exact ⟨24, rfl, .upd ok5, draw_same _ _ nab ha4, by decide, by decide⟩
      · exact ⟨m, rfl, .upd ok5, draw_same _ _ nab ha4, m0, by omega⟩
    clear m0 m1 m hb4 ha4
    rintro σ H5 ⟨m, rfl, ⟨L5, hb5, ok5⟩, ha5, m0, m1⟩
    -- looks, rows
    refine ⟨_, rfl, _, rfl, b, L5, m, rfl, hb5, ok5, m0, m1, fun H6 c L6 ks s6 hcn hc hb6 ok6 okk hk => ?_⟩
    have ncb : c ≠ b := fun e => by rw [e, hb5] at hcn; cases hcn
    have ha6 := s6 _ _ nab ha5
    have hkl : ks.length ≤ 24 := by omega
    refine ⟨_, rfl, _, rfl, _, rfl, b, a, c, ls, ks, rfl, ⟨L6, hb6, ok6⟩, nab, ncb, ha6, hc, okl.can, okk.bag, by omega, by omega, fun H7 R rows s7 hb7 hR7 => ?_⟩
    have ha7 := s7 _ _ nab ha6
    have hc7 := s7 _ _ ncb hc
    obtain ⟨rs, hdat, hks, hsub⟩ := rows_rs' hR7.all hR7.looks
    have ok := tabok_good okl (by omega) okk hks hsub
    have hrl : rows.length = rs.length := by
      have e := congrArg List.length hdat
      rw [List.length_map, List.length_map] at e
      exact e
    have hrk : rs.length ≤ 24 := ok.kfew
    clear s6 s7 hb6 ok6 ha6 hc ha5 hb5 ok5 L6 L5
    -- the table
    refine ⟨_, rfl, a, _, rfl, .inl (SqL.of ha7), fun l hl0 => ?_⟩
    have s8 := Same.upd_new hl0 (o := .lst (ls.map V.str))
    refine ⟨_, rfl, R, 0, rows, rfl, .inl rfl, s8 _ _ hR7.lst, fun r hr => ((hR7.all r hr).g).of s8, by omega, fun H9 R' rows' s9 _ hR' hrw' hdat' => ?_⟩
    refine fun x dx nx ndx nex => make_ok (ts := rs.map (turnOf 0)) nx ndx nex (s9 _ _ upd_same) hR' (fun r hr => (hrw' r hr).1) (by rw [hdat', turned_map hdat]) (turn_mem ok 0) (init_turn ok 0) okl.val (by omega) (by rw [List.length_map]; omega) fun H10 s10 hT10 => ?_
    have s80 := s8.trans (s9.trans s10)
    have ha10 := s80 _ _ ha7
    have hb10 : BagIn H10 b := hb7.of s80
    have hR10 : RowsD b ls ks H10 R rows := hR7.of hb7.lst (SameB.of s80)
    have hc10 := s80 _ _ hc7
    clear s80 s10 s9 s8 hrw' hdat' hR' hl0 ha7 hR7 hb7 hc7 nx ndx nex
    -- the order
    refine ⟨_, rfl, c, _, rfl, .inl (SqL.of hc10), fun o ho => ?_⟩
    have s11 := Same.upd_new ho (o := .lst (ks.map V.str))
    have nob : o ≠ b := fun e => by
      obtain ⟨xs, q⟩ := hb10.lst
      rw [e, q] at ho; cases ho
    have ho11 := upd_same (H := H10) (a := o) (o := .lst (ks.map V.str))
    have hb11 := hb10.of s11
    have t11 : SameB b H10 (upd H10 o (.lst (ks.map V.str))) := SameB.of s11
    generalize upd H10 o (.lst (ks.map V.str)) = H11 at *
    refine ⟨fun σ H' => ∃ (os : List Str) (x8 : Option V), σ = [some (.ref a0), some (.ref b), some (.ref a), some (.int m), some (.ref c), some (.ref R), some (.ref x), some (.ref o), x8, none, none, none, none, none] ∧ SameB b H10 H' ∧ BagIn H' b ∧ H' o = some (.lst (os.map V.str)) ∧ os.Perm ks, ?_, ?_⟩
    · have el : (ks.map V.str).length = ks.length := List.length_map ..
      refine ⟨_, rfl, o, _, rfl, .inl (SqL.of ho11), _, _, rfl, rfl, _, rfl, by rw [el]; omega, by rw [el]; omega, for_range (lo := 0) (fun i σ H' => ∃ (os : List Str) (x8 : Option V), σ = [some (.ref a0), some (.ref b), some (.ref a), some (.int m), some (.ref c), some (.ref R), some (.ref x), some (.ref o), x8, none, none, none, none, none] ∧ SameB b H10 H' ∧ BagIn H' b ∧ H' o = some (.lst (os.map V.str)) ∧ os.Perm ks)
        ⟨ks, none, rfl, t11, hb11, ho11, .refl _⟩ ?_ (fun _ _ z => z)⟩
      rintro i σ H12 hi ⟨os, x8, rfl, t12, ⟨L12, hb12, ok12⟩, ho12, pm⟩
      have ol : (os.map V.str).length = ks.length := by rw [List.length_map]; exact pm.length_eq
      have oe : os.length = ks.length := pm.length_eq
      rw [el] at hi
      refine ⟨_, rfl, .inl ⟨rfl, _, SqL.of ho12⟩, _, rfl, .inl ⟨rfl, _, SqL.of ho12⟩, _, rfl, _, rfl, o, _, rfl, .inl (SqL.of ho12), _, rfl, _, _, rfl, rfl, b, L12, _, rfl, hb12, ok12, by rw [ol]; omega, by rw [ol]; omega, fun L13 r ok13 r0 r1 => ?_⟩
      rw [ol] at r1
      have rj : r.toNat < os.length := by omega
      have ho13 := draw_same (L := L13) _ _ nob ho12
      refine ⟨o, os.map V.str, r, r.toNat, .str os[r.toNat], rfl, rfl, ho13, by omega, by omega, seqIx r0 (by rw [ol]; omega), by rw [List.getElem?_map, List.getElem?_eq_getElem rj]; rfl, ?_⟩
      refine ⟨o, _, _, rfl, rfl, upd_same, by rw [List.length_eraseIdx, ol]; split <;> exact small1000 (by omega), ?_⟩
      refine ⟨os.eraseIdx r.toNat ++ [os[r.toNat]], _, rfl, fun d u n h => ?_, ⟨L13, by rw [upd_ne nob.symm, upd_ne nob.symm, upd_same], ok13⟩, ?_, (perm_pop rj).trans pm⟩
      · have nd : d ≠ o := ne_of_none h ho
        rw [upd_ne nd, upd_ne nd]
        exact draw_same _ _ n (t12 _ _ n h)
      · rw [upd_same, List.map_append, List.eraseIdx_eq_take_drop_succ, List.eraseIdx_eq_take_drop_succ, List.map_append, List.map_take, List.map_drop]
        rfl
    clear ho11 hb11 t11
    rintro σ H12 ⟨os, x8, rfl, t12, hb12, ho12, pm⟩
    have M12 : Mid69 CT b a R x o ls ks os rs rows H12 := ⟨hb12, t12 _ _ nab ha10, hR10.of hb10.lst t12, hT10.ofB hb10.lst t12, ho12, pm⟩
    clear s11 ho hc10 hR10 hb10 ha10 hT10 t12 hb12 ho12 H10 H11
    have oe : os.length = ks.length := pm.length_eq
    have permK : os.Perm (keysOf rs) := by unfold keysOf; rw [hks]; exact pm
    have os64 : os.length < 64 := by omega
    have oscan : ∀ z ∈ os, canS z := fun z hz => okk.bag z (pm.subset hz)
    have osh := shaped_strs oscan
    have one1 : ("#" : Str).length ≤ 1 ∧ ("." : Str).length ≤ 1 := by decide +kernel
    -- passed
    refine ⟨_, rfl, o, _, rfl, .inl (SqL.of M12.ord), fun p hp => ?_⟩
    have s13 := Same.upd_new hp (o := .lst (os.map V.str))
    have npb : p ≠ b := fun e => by
      obtain ⟨xs, q⟩ := M12.bag.lst
      rw [e, q] at hp; cases hp
    have hp13 := upd_same (H := H12) (a := p) (o := .lst (os.map V.str))
    have M13 := M12.of s13
    generalize upd H12 p (.lst (os.map V.str)) = H13 at *
    clear s13 hp M12 H12
    -- marks
    obtain ⟨L13, hb13, ok13⟩ := M13.bag
    refine ⟨_, rfl, _, rfl, b, L13, 9, rfl, hb13, ok13, by decide, by decide, fun L14 g ok14 g0 g1 => ?_⟩
    obtain ⟨cg, hcg⟩ := marks9 g.toNat (by omega)
    rw [show ((g.toNat : Nat) : Int) = g by omega] at hcg
    refine ⟨_, g, cg, rfl, rfl, by rw [abc_len.2.2]; decide, hcg, ?_⟩
    have M14 := M13.drawn nab nob ok14
    have hp14 := draw_same (L := L14) _ _ npb hp13
    generalize upd H13 b (.lst (L14.map V.int)) = H14 at *
    clear hp13 M13 hb13 ok13 ok14 L13 L14 hcg g0 g1 H13
    obtain ⟨L14, hb14, ok14⟩ := M14.bag
    refine ⟨_, rfl, _, rfl, b, L14, 9, rfl, hb14, ok14, by decide, by decide, fun L15 d ok15 d0 d1 => ?_⟩
    obtain ⟨cd, hcd⟩ := marks9 d.toNat (by omega)
    rw [show ((d.toNat : Nat) : Int) = d by omega] at hcd
    refine ⟨_, d, cd, rfl, rfl, by rw [abc_len.2.2]; decide, hcd, ?_⟩
    have M15 := M14.drawn nab nob ok15
    have hp15 := draw_same (L := L15) _ _ npb hp14
    generalize upd H14 b (.lst (L15.map V.int)) = H15 at *
    clear hp14 M14 hb14 ok14 ok15 L14 L15 hcd d0 d1 H14
    have lg : (⟨#[cg]⟩ : Str).length ≤ 1 := Nat.le_refl 1
    have ld : (⟨#[cd]⟩ : Str).length ≤ 1 := Nat.le_refl 1
    generalize (⟨#[cg]⟩ : Str) = gl at *
    generalize (⟨#[cd]⟩ : Str) = dk at *
    -- the charts
    refine ⟨_, rfl, _, rfl, x, p, "#", ".", ls, rs, os, rfl, M15.tab, ok, .inl (SqL.of hp15), os64, oscan, one1.1, one1.2, fun _ => fun H16 s16 => ⟨_, rfl, _, rfl, _, rfl, a, R, o, "#", ".", ls, os, rs, rows, rfl, (M15.of s16).lamps, fun z hz => (valid_small (okl.val z hz)).1, by omega, (M15.of s16).rowsD.lst, fun r hr => ((M15.of s16).rowsD.all r hr).g, hdat, hrk, (M15.of s16).ord, by omega, one1.1, one1.2, fun H17 s17 => ⟨rfl, _, rfl, iteZ strs_ne ?_⟩⟩, fun np => absurd permK np⟩
    have M17 := (M15.of s16).of s17
    have hp17 := (s16.trans s17) _ _ hp15
    clear s16 s17 M15 hp15
    refine ⟨_, rfl, _, rfl, .list (os.map PyData.str), .list (os.map PyData.str), .lst (SqL.of hp17) (dpAll_strs _), .lst (SqL.of M17.ord) (dpAll_strs _), osh, osh, _, rfl, iteZ (by rw [eqv_lists, decide_eq_true rfl]; rfl) ?_⟩
    refine ⟨_, rfl, _, rfl, o, _, rfl, .inl ⟨SqL.of M17.ord, fun t ht => ?_⟩⟩
    have s18 := Same.upd_new ht (o := .tup (os.map V.str))
    have ht18 := upd_same (H := H17) (a := t) (o := .tup (os.map V.str))
    have M18 := M17.of s18
    have hp18 := s18 _ _ hp17
    generalize upd H17 t (.tup (os.map V.str)) = H18 at *
    clear s18 M17 hp17 ht
    refine ⟨_, rfl, _, rfl, rfl, rfl, x, t, gl, dk, ls, rs, os, rfl, M18.tab, ok, .inr (SqT.of ht18), os64, oscan, lg, ld, fun _ => fun H19 s19 => ⟨_, rfl, _, rfl, _, rfl, _, rfl, _, rfl, a, R, o, gl, dk, ls, os, rs, rows, rfl, (M18.of s19).lamps, fun z hz => (valid_small (okl.val z hz)).1, by omega, (M18.of s19).rowsD.lst, fun r hr => ((M18.of s19).rowsD.all r hr).g, hdat, hrk, (M18.of s19).ord, by omega, lg, ld, fun H20 s20 => ⟨rfl, _, rfl, iteZ strs_ne ?_⟩⟩, fun np => absurd permK np⟩
    have M20 := (M18.of s19).of s20
    have hp20 := (s19.trans s20) _ _ hp18
    clear s19 s20 M18 hp18
    refine ⟨_, rfl, _, rfl, _, rfl, rfl, rfl, x, p, "#", dk, ls, rs, os, rfl, M20.tab, ok, .inl (SqL.of hp20), os64, oscan, one1.1, ld, fun _ => fun H21 s21 => ⟨_, rfl, _, rfl, _, rfl, _, rfl, a, R, o, "#", dk, ls, os, rs, rows, rfl, (M20.of s21).lamps, fun z hz => (valid_small (okl.val z hz)).1, by omega, (M20.of s21).rowsD.lst, fun r hr => ((M20.of s21).rowsD.all r hr).g, hdat, hrk, (M20.of s21).ord, by omega, one1.1, ld, fun H22 s22 => ⟨rfl, _, rfl, iteZ strs_ne ?_⟩⟩, fun np => absurd permK np⟩
    have M22 := (M20.of s21).of s22
    have hp22 := (s21.trans s22) _ _ hp20
    clear s21 s22 M20 hp20
    refine ⟨_, rfl, _, rfl, _, rfl, rfl, rfl, x, p, gl, ".", ls, rs, os, rfl, M22.tab, ok, .inl (SqL.of hp22), os64, oscan, lg, one1.2, fun _ => fun H23 s23 => ⟨_, rfl, _, rfl, _, rfl, _, rfl, a, R, o, gl, ".", ls, os, rs, rows, rfl, (M22.of s23).lamps, fun z hz => (valid_small (okl.val z hz)).1, by omega, (M22.of s23).rowsD.lst, fun r hr => ((M22.of s23).rowsD.all r hr).g, hdat, hrk, (M22.of s23).ord, by omega, lg, one1.2, fun H24 s24 => ⟨rfl, _, rfl, iteZ strs_ne ?_⟩⟩, fun np => absurd permK np⟩
    have M24 := (M22.of s23).of s24
    clear s23 s24 M22 hp22
    -- the wrong orders
    have kl : (keysOf rs).length = ks.length := by unfold keysOf; rw [hks]
    have nab9 : ("absent9999" : Str) ∉ ks := short_names okk (by rw [abc_len.2.1]; decide)
    refine ⟨_, rfl, Nat.zero_le _, fun q hq => ?_⟩
    have s25 := Same.upd_new hq (o := .lst [])
    have M25 := M24.of s25
    refine ⟨.list (os.map PyData.str), .list (([] : List Str).map PyData.str), .lst (SqL.of M25.ord) (dpAll_strs _), .lst (SqL.of upd_same) (dpAll_strs []), osh, shaped_strs (by simp), _, rfl, ?_⟩
    generalize upd H24 q (.lst []) = H25 at *
    clear M24 s25 hq
    by_cases e0 : os = []
    · refine iteY (by rw [eqv_lists, decide_eq_true e0]) ?_
      refine ⟨_, rfl, by show 1 ≤ sizeLine; decide, fun q2 hq2 => ?_⟩
      have s26 := Same.upd_new hq2 (o := .lst [.str "absent9999"])
      exact ⟨x, q2, ls, rs, ["absent9999"], rfl, (M25.of s26).tab, ok, .inl (SqL.of upd_same), by decide, fun z hz => by obtain rfl := List.mem_singleton.mp hz; exact absent_can,
        fun h => by have := h.length_eq; rw [kl, ← oe, e0] at this; simp at this, fun H'' _ => k H''⟩
    · refine iteZ (by rw [eqv_lists, decide_eq_false e0]) ?_
      have op : 0 < os.length := List.length_pos_iff.mpr e0
      have ol : (os.map V.str).length = os.length := List.length_map ..
      obtain ⟨L25, hb25, ok25⟩ := M25.bag
      refine ⟨_, rfl, _, rfl, o, _, rfl, .inl (SqL.of M25.ord), b, L25, _, rfl, hb25, ok25, by rw [ol]; omega, by rw [ol]; omega, fun L26 r ok26 r0 r1 => ?_⟩
      obtain ⟨j, rfl⟩ := Int.eq_ofNat_of_zero_le r0
      rw [ol] at r1
      have hj : j < os.length := by omega
      have M26 := M25.drawn nab nob ok26
      generalize upd H25 b (.lst (L26.map V.int)) = H26 at *
      clear hb25 ok25 M25 ok26
      have ej : ((j : Nat) : Int) + 1 = ((j + 1 : Nat) : Int) := by omega
      -- one left out
      refine ⟨_, rfl, _, rfl, _, rfl, _, rfl, o, _, rfl, SqL.of M26.ord, fun p1 hp1 => ?_⟩
      rw [cut_take]
      have s27 := Same.upd_new hp1 (o := .lst ((os.map V.str).take j))
      have M27 := M26.of s27
      have hp27 := upd_same (H := H26) (a := p1) (o := .lst ((os.map V.str).take j))
      generalize upd H26 p1 (.lst ((os.map V.str).take j)) = H27 at *
      refine ⟨_, rfl, _, rfl, _, _, rfl, rfl, _, rfl, o, _, rfl, SqL.of M27.ord, fun p2 hp2 => ?_⟩
      rw [ej, cut_drop]
      have s28 := Same.upd_new hp2 (o := .lst ((os.map V.str).drop (j + 1)))
      have M28 := M27.of s28
      have hp28 := s28 _ _ hp27
      have hq28 := upd_same (H := H27) (a := p2) (o := .lst ((os.map V.str).drop (j + 1)))
      generalize upd H27 p2 (.lst ((os.map V.str).drop (j + 1))) = H28 at *
      refine ⟨p1, p2, _, _, rfl, rfl, hp28, hq28, Nat.le_of_lt (small1000 (by rw [List.length_take, List.length_drop, ol]; omega)), fun p3 hp3 => ?_⟩
      have s29 := Same.upd_new hp3 (o := .lst ((os.map V.str).take j ++ (os.map V.str).drop (j + 1)))
      have M29 := M28.of s29
      have hp29 := upd_same (H := H28) (a := p3) (o := .lst ((os.map V.str).take j ++ (os.map V.str).drop (j + 1)))
      have e1 : (os.map V.str).take j ++ (os.map V.str).drop (j + 1) = (os.take j ++ os.drop (j + 1)).map V.str := by rw [List.map_append, List.map_take, List.map_drop]
      rw [e1] at hp29 M29 ⊢
      generalize upd H28 p3 (.lst ((os.take j ++ os.drop (j + 1)).map V.str)) = H29 at *
      have mem1 : ∀ z ∈ os.take j ++ os.drop (j + 1), z ∈ os := fun z hz => by
        rcases List.mem_append.mp hz with h | h
        · exact List.mem_of_mem_take h
        · exact List.mem_of_mem_drop h
      have len1 : (os.take j ++ os.drop (j + 1)).length = os.length - 1 := by rw [List.length_append, List.length_take, List.length_drop]; omega
      refine ⟨x, p3, ls, rs, _, rfl, M29.tab, ok, .inl (SqL.of hp29), by omega, fun z hz => oscan z (mem1 z hz), fun h => by have := h.length_eq; omega, fun H30 s30 => ⟨_, rfl, iteF ?_⟩⟩
      have M30 := M29.of s30
      clear M29 M28 M27 M26 s27 s28 s29 s30 hp1 hp2 hp3 hp27 hp28 hq28 hp29 e1
      -- one exchanged
      refine ⟨_, rfl, _, rfl, _, rfl, _, rfl, o, _, rfl, SqL.of M30.ord, fun p1 hp1 => ?_⟩
      rw [cut_take]
      have s27 := Same.upd_new hp1 (o := .lst ((os.map V.str).take j))
      have M27 := M30.of s27
      have hp27 := upd_same (H := H30) (a := p1) (o := .lst ((os.map V.str).take j))
      generalize upd H30 p1 (.lst ((os.map V.str).take j)) = H31 at *
      refine ⟨by show 1 ≤ sizeLine; decide, fun p4 hp4 => ?_⟩
      have s31 := Same.upd_new hp4 (o := .lst [.str "absent9999"])
      have M31 := M27.of s31
      have hp31 := s31 _ _ hp27
      have hq31 := upd_same (H := H31) (a := p4) (o := .lst [.str "absent9999"])
      generalize upd H31 p4 (.lst [.str "absent9999"]) = H32 at *
      refine ⟨p1, p4, _, _, rfl, rfl, hp31, hq31, Nat.le_of_lt (small1000 (by rw [List.length_take, ol]; simp only [List.length_cons, List.length_nil]; omega)), fun p5 hp5 => ?_⟩
      have s32 := Same.upd_new hp5 (o := .lst ((os.map V.str).take j ++ [.str "absent9999"]))
      have M32 := M31.of s32
      have hp32 := upd_same (H := H32) (a := p5) (o := .lst ((os.map V.str).take j ++ [.str "absent9999"]))
      generalize upd H32 p5 (.lst ((os.map V.str).take j ++ [.str "absent9999"])) = H33 at *
      refine ⟨_, rfl, _, rfl, _, _, rfl, rfl, _, rfl, o, _, rfl, SqL.of M32.ord, fun p2 hp2 => ?_⟩
      rw [ej, cut_drop]
      have s28 := Same.upd_new hp2 (o := .lst ((os.map V.str).drop (j + 1)))
      have M28 := M32.of s28
      have hp28 := s28 _ _ hp32
      have hq28 := upd_same (H := H33) (a := p2) (o := .lst ((os.map V.str).drop (j + 1)))
      generalize upd H33 p2 (.lst ((os.map V.str).drop (j + 1))) = H34 at *
      refine ⟨p5, p2, _, _, rfl, rfl, hp28, hq28, Nat.le_of_lt (small1000 (by simp only [List.length_append, List.length_take, List.length_drop, ol, List.length_cons, List.length_nil]; omega)), fun p3 hp3 => ?_⟩
      have s29 := Same.upd_new hp3 (o := .lst (((os.map V.str).take j ++ [.str "absent9999"]) ++ (os.map V.str).drop (j + 1)))
      have M29 := M28.of s29
      have hp29 := upd_same (H := H34) (a := p3) (o := .lst (((os.map V.str).take j ++ [.str "absent9999"]) ++ (os.map V.str).drop (j + 1)))
      have e1 : ((os.map V.str).take j ++ [.str "absent9999"]) ++ (os.map V.str).drop (j + 1) = ((os.take j ++ [("absent9999" : Str)]) ++ os.drop (j + 1)).map V.str := by rw [List.map_append, List.map_append, List.map_take, List.map_drop]; rfl
      rw [e1] at hp29 M29 ⊢
      generalize upd H34 p3 (.lst (((os.take j ++ [("absent9999" : Str)]) ++ os.drop (j + 1)).map V.str)) = H35 at *
      refine ⟨x, p3, ls, rs, _, rfl, M29.tab, ok, .inl (SqL.of hp29), by simp only [List.length_append, List.length_take, List.length_drop, List.length_cons, List.length_nil]; omega, fun z hz => ?_, fun h => ?_, fun H36 s36 => ⟨_, rfl, iteF ?_⟩⟩
      · rcases List.mem_append.mp hz with h | h
        · rcases List.mem_append.mp h with h | h
          · exact oscan z (List.mem_of_mem_take h)
          · obtain rfl := List.mem_singleton.mp h; exact absent_can
        · exact oscan z (List.mem_of_mem_drop h)
      · refine nab9 ?_
        have q := h.subset (show ("absent9999" : Str) ∈ (os.take j ++ [("absent9999" : Str)]) ++ os.drop (j + 1) by simp)
        unfold keysOf at q
        rw [hks] at q
        exact q
      have M36 := M29.of s36
      -- one doubled
      refine ⟨_, rfl, _, rfl, _, rfl, _, rfl, o, _, _, .str os[j], rfl, rfl, SqL.of M36.ord, atI_at (by rw [List.getElem?_map, List.getElem?_eq_getElem hj]; rfl), by show 1 ≤ sizeLine; decide, fun p6 hp6 => ?_⟩
      have s37 := Same.upd_new hp6 (o := .lst [.str os[j]])
      have M37 := M36.of s37
      have hp37 := upd_same (H := H36) (a := p6) (o := .lst [.str os[j]])
      generalize upd H36 p6 (.lst [.str os[j]]) = H37 at *
      refine ⟨o, p6, _, _, rfl, rfl, M37.ord, hp37, Nat.le_of_lt (small1000 (by rw [ol]; simp only [List.length_cons, List.length_nil]; omega)), fun p7 hp7 => ?_⟩
      have s38 := Same.upd_new hp7 (o := .lst (os.map V.str ++ [.str os[j]]))
      have M38 := M37.of s38
      have hp38 := upd_same (H := H37) (a := p7) (o := .lst (os.map V.str ++ [.str os[j]]))
      have e2 : os.map V.str ++ [V.str os[j]] = (os ++ [os[j]]).map V.str := by rw [List.map_append]; rfl
      rw [e2] at hp38 M38 ⊢
      exact ⟨x, p7, ls, rs, _, rfl, M38.tab, ok, .inl (SqL.of hp38), by simp only [List.length_append, List.length_cons, List.length_nil]; omega, fun z hz => by
        rcases List.mem_append.mp hz with h | h
        · exact oscan z h
        · obtain rfl := List.mem_singleton.mp h; exact oscan _ (List.getElem_mem hj), fun h => by have := h.length_eq; simp only [List.length_append, List.length_cons, List.length_nil] at this; omega, fun H'' _ => k H''⟩
end
end Dl

namespace Dl
open PySem PySem.Spec PyProof.Rows L2
theorem own_exm {K : PySem.W.Frag} {S : Addr} (h1 : PySem.W.subIn K (.ref S) (.type "BaseException") = some true) (h2 : PySem.W.isClsIn K S = true) (h3 : PySem.W.typeIn K (.ref S) = some (.type "type")) (h4 : PySem.W.subIn K (.ref S) (.ref S) = some true) :
    PySem.W.exmOne K (.ref S) (.ref S) = some true := by
  have h5 : ((PySem.W.clsIn K S).isSome && PySem.W.typeIn K (.ref S) == some (.type "type")) = true := by
    rw [h3]
    simpa using (show (PySem.W.clsIn K S).isSome = true from h2)
  have h6 : (PySem.W.subIn K (.ref S) (.type "BaseException") == some true) = true := by rw [h1]; rfl
  have whole : PySem.W.exmOne K (.ref S) (.ref S) = if (PySem.W.subIn K (.ref S) (.type "BaseException") == some true) = true then (if ((PySem.W.clsIn K S).isSome && PySem.W.typeIn K (.ref S) == some (.type "type")) = true then PySem.W.subIn K (.ref S) (.ref S) else none) else none := rfl
  rw [whole, if_pos h6, if_pos h5, h4]
theorem all_mk {l : PySem.W.OpenLaw} {w : World} {K : PySem.W.Frag} {h : Heap} {mg : Str → Option Value} {fa D_ch f_is_name f_check_name f_check_new f_check_known f_distinct_names f_check_shown f_chosen_of f_line f_chart f_law_bag f_law_take f_law_name f_law_names f_law_free_rows f_law_planted_rows f_law_flipped f_law_rows f_law_seen f_law_given f_law_drawn f_law_refused f_law C_InvalidName f_InvalidName C_DuplicateName f_DuplicateName C_UnknownName f_UnknownName C_TooMany f_TooMany C_InvalidOrder C_DimmerError C_Table f_Table_init f_Table_seen : Addr} (X : K.In h) (G : h.Ns mainGlobals mg) (hfa : mg "law" = some (.ref fa))
    {od_is_name an_is_name od_check_name an_check_name od_check_new an_check_new od_check_known an_check_known od_distinct_names an_distinct_names od_check_shown an_check_shown od_chosen_of an_chosen_of od_line an_line od_chart an_chart od_law_bag an_law_bag od_law_take an_law_take od_law_name an_law_name od_law_names an_law_names od_law_free_rows an_law_free_rows od_law_planted_rows an_law_planted_rows od_law_flipped an_law_flipped od_law_rows an_law_rows od_law_seen an_law_seen od_law_given an_law_given od_law_drawn an_law_drawn od_law_refused an_law_refused od_law an_law od_InvalidName an_InvalidName od_DuplicateName an_DuplicateName od_UnknownName an_UnknownName od_TooMany an_TooMany od_Table_init an_Table_init od_Table_seen an_Table_seen : Option Addr} {sl_is_name sl_check_name sl_check_new sl_check_known sl_distinct_names sl_check_shown sl_chosen_of sl_line sl_chart sl_law_bag sl_law_take sl_law_name sl_law_names sl_law_free_rows sl_law_planted_rows sl_law_flipped sl_law_rows sl_law_seen sl_law_given sl_law_drawn sl_law_refused sl_law sl_InvalidName sl_DuplicateName sl_UnknownName sl_TooMany sl_Table_init sl_Table_seen : Array (Option Value)} {oc_is_name kV_is_name dc_is_name pm_is_name cd_is_name ct_is_name oc_check_name kV_check_name dc_check_name pm_check_name cd_check_name ct_check_name oc_check_new kV_check_new dc_check_new pm_check_new cd_check_new ct_check_new oc_check_known kV_check_known dc_check_known pm_check_known cd_check_known ct_check_known oc_distinct_names kV_distinct_names dc_distinct_names pm_distinct_names cd_distinct_names ct_distinct_names oc_check_shown kV_check_shown dc_check_shown pm_check_shown cd_check_shown ct_check_shown oc_chosen_of kV_chosen_of dc_chosen_of pm_chosen_of cd_chosen_of ct_chosen_of oc_line kV_line dc_line pm_line cd_line ct_line oc_chart dc_chart pm_chart cd_chart ct_chart oc_law_bag kV_law_bag dc_law_bag pm_law_bag cd_law_bag ct_law_bag oc_law_take kV_law_take dc_law_take pm_law_take cd_law_take ct_law_take oc_law_name kV_law_name dc_law_name pm_law_name cd_law_name ct_law_name oc_law_names kV_law_names dc_law_names pm_law_names cd_law_names ct_law_names oc_law_free_rows kV_law_free_rows dc_law_free_rows pm_law_free_rows cd_law_free_rows ct_law_free_rows oc_law_planted_rows kV_law_planted_rows dc_law_planted_rows pm_law_planted_rows cd_law_planted_rows ct_law_planted_rows oc_law_flipped kV_law_flipped dc_law_flipped pm_law_flipped cd_law_flipped ct_law_flipped oc_law_rows kV_law_rows dc_law_rows pm_law_rows cd_law_rows ct_law_rows oc_law_seen kV_law_seen dc_law_seen pm_law_seen cd_law_seen ct_law_seen oc_law_given kV_law_given dc_law_given pm_law_given cd_law_given ct_law_given oc_law_drawn kV_law_drawn dc_law_drawn pm_law_drawn cd_law_drawn ct_law_drawn oc_law_refused kV_law_refused dc_law_refused pm_law_refused cd_law_refused ct_law_refused oc_law kV_law dc_law pm_law cd_law ct_law oc_InvalidName kV_InvalidName dc_InvalidName pm_InvalidName cd_InvalidName ct_InvalidName oc_DuplicateName kV_DuplicateName dc_DuplicateName pm_DuplicateName cd_DuplicateName ct_DuplicateName oc_UnknownName kV_UnknownName dc_UnknownName pm_UnknownName cd_UnknownName ct_UnknownName oc_TooMany kV_TooMany dc_TooMany pm_TooMany cd_TooMany ct_TooMany oc_Table_init kV_Table_init dc_Table_init pm_Table_init cd_Table_init ct_Table_init oc_Table_seen kV_Table_seen dc_Table_seen pm_Table_seen cd_Table_seen ct_Table_seen : Value} {t_on t_off t_LONGEST t_SIGNS t_LIMIT t_NAME_WIDTH t_NUMBER_WIDTH : Tok}
    {nm_InvalidName q_InvalidName : Str} {N_InvalidName : Addr} {bs_InvalidName bm_InvalidName : List Value} {sn_InvalidName : List Str} {sub_InvalidName : List Value} {ab_InvalidName : Bool} {col_InvalidName : Option Bool} {dd_InvalidName : Option Addr} {m0_InvalidName m1_InvalidName m2_InvalidName m3_InvalidName m5_InvalidName : Option Value}
    {nm_DuplicateName q_DuplicateName : Str} {N_DuplicateName : Addr} {bs_DuplicateName bm_DuplicateName : List Value} {sn_DuplicateName : List Str} {sub_DuplicateName : List Value} {ab_DuplicateName : Bool} {col_DuplicateName : Option Bool} {dd_DuplicateName : Option Addr} {m0_DuplicateName m1_DuplicateName m2_DuplicateName m3_DuplicateName m5_DuplicateName : Option Value}
    {nm_UnknownName q_UnknownName : Str} {N_UnknownName : Addr} {bs_UnknownName bm_UnknownName : List Value} {sn_UnknownName : List Str} {sub_UnknownName : List Value} {ab_UnknownName : Bool} {col_UnknownName : Option Bool} {dd_UnknownName : Option Addr} {m0_UnknownName m1_UnknownName m2_UnknownName m3_UnknownName m5_UnknownName : Option Value}
    {nm_TooMany q_TooMany : Str} {N_TooMany : Addr} {bs_TooMany bm_TooMany : List Value} {sn_TooMany : List Str} {sub_TooMany : List Value} {ab_TooMany : Bool} {col_TooMany : Option Bool} {dd_TooMany : Option Addr} {m0_TooMany m1_TooMany m2_TooMany m3_TooMany m5_TooMany : Option Value}
    (a_is_name : PySem.W.nsIn K mainGlobals "is_name" = some (some (.ref f_is_name)))
    (l_is_name : K.lookup f_is_name = some ⟨oc_is_name, od_is_name, .func (PySem.W.fnOf "is_name" "is_name" (defArgs sIsName) (defBody sIsName) (defScope sIsName) .none kV_is_name dc_is_name pm_is_name an_is_name cd_is_name ct_is_name), sl_is_name⟩)
    (c_is_name : PySem.W.codeIn K cd_is_name "is_name" = true)
    (k_is_name : PySem.W.keepIn K (.ref f_is_name) = true)
    (a_check_name : PySem.W.nsIn K mainGlobals "check_name" = some (some (.ref f_check_name)))
    (l_check_name : K.lookup f_check_name = some ⟨oc_check_name, od_check_name, .func (PySem.W.fnOf "check_name" "check_name" (defArgs sCheckName) (defBody sCheckName) (defScope sCheckName) .none kV_check_name dc_check_name pm_check_name an_check_name cd_check_name ct_check_name), sl_check_name⟩)
    (c_check_name : PySem.W.codeIn K cd_check_name "check_name" = true)
    (k_check_name : PySem.W.keepIn K (.ref f_check_name) = true)
    (a_check_new : PySem.W.nsIn K mainGlobals "check_new" = some (some (.ref f_check_new)))
    (l_check_new : K.lookup f_check_new = some ⟨oc_check_new, od_check_new, .func (PySem.W.fnOf "check_new" "check_new" (defArgs sCheckNew) (defBody sCheckNew) (defScope sCheckNew) .none kV_check_new dc_check_new pm_check_new an_check_new cd_check_new ct_check_new), sl_check_new⟩)
    (c_check_new : PySem.W.codeIn K cd_check_new "check_new" = true)
    (k_check_new : PySem.W.keepIn K (.ref f_check_new) = true)
    (a_check_known : PySem.W.nsIn K mainGlobals "check_known" = some (some (.ref f_check_known)))
    (l_check_known : K.lookup f_check_known = some ⟨oc_check_known, od_check_known, .func (PySem.W.fnOf "check_known" "check_known" (defArgs sCheckKnown) (defBody sCheckKnown) (defScope sCheckKnown) .none kV_check_known dc_check_known pm_check_known an_check_known cd_check_known ct_check_known), sl_check_known⟩)
    (c_check_known : PySem.W.codeIn K cd_check_known "check_known" = true)
    (k_check_known : PySem.W.keepIn K (.ref f_check_known) = true)
    (a_distinct_names : PySem.W.nsIn K mainGlobals "distinct_names" = some (some (.ref f_distinct_names)))
    (l_distinct_names : K.lookup f_distinct_names = some ⟨oc_distinct_names, od_distinct_names, .func (PySem.W.fnOf "distinct_names" "distinct_names" (defArgs sDistinct) (defBody sDistinct) (defScope sDistinct) .none kV_distinct_names dc_distinct_names pm_distinct_names an_distinct_names cd_distinct_names ct_distinct_names), sl_distinct_names⟩)
    (c_distinct_names : PySem.W.codeIn K cd_distinct_names "distinct_names" = true)
    (k_distinct_names : PySem.W.keepIn K (.ref f_distinct_names) = true)
    (a_check_shown : PySem.W.nsIn K mainGlobals "_check_shown" = some (some (.ref f_check_shown)))
    (l_check_shown : K.lookup f_check_shown = some ⟨oc_check_shown, od_check_shown, .func (PySem.W.fnOf "_check_shown" "_check_shown" (defArgs sCheckShown) (defBody sCheckShown) (defScope sCheckShown) .none kV_check_shown dc_check_shown pm_check_shown an_check_shown cd_check_shown ct_check_shown), sl_check_shown⟩)
    (c_check_shown : PySem.W.codeIn K cd_check_shown "_check_shown" = true)
    (k_check_shown : PySem.W.keepIn K (.ref f_check_shown) = true)
    (a_chosen_of : PySem.W.nsIn K mainGlobals "_chosen_of" = some (some (.ref f_chosen_of)))
    (l_chosen_of : K.lookup f_chosen_of = some ⟨oc_chosen_of, od_chosen_of, .func (PySem.W.fnOf "_chosen_of" "_chosen_of" (defArgs sChosen) (defBody sChosen) (defScope sChosen) .none kV_chosen_of dc_chosen_of pm_chosen_of an_chosen_of cd_chosen_of ct_chosen_of), sl_chosen_of⟩)
    (c_chosen_of : PySem.W.codeIn K cd_chosen_of "_chosen_of" = true)
    (k_chosen_of : PySem.W.keepIn K (.ref f_chosen_of) = true)
    (a_line : PySem.W.nsIn K mainGlobals "_line" = some (some (.ref f_line)))
    (l_line : K.lookup f_line = some ⟨oc_line, od_line, .func (PySem.W.fnOf "_line" "_line" (defArgs sChLine) (defBody sChLine) (defScope sChLine) .none kV_line dc_line pm_line an_line cd_line ct_line), sl_line⟩)
    (c_line : PySem.W.codeIn K cd_line "_line" = true)
    (k_line : PySem.W.keepIn K (.ref f_line) = true)
    (a_chart : PySem.W.nsIn K mainGlobals "chart" = some (some (.ref f_chart)))
    (l_chart : K.lookup f_chart = some ⟨oc_chart, od_chart, .func (PySem.W.fnOf "chart" "chart" (defArgs sChart) (defBody sChart) (defScope sChart) .none (.ref D_ch) dc_chart pm_chart an_chart cd_chart ct_chart), sl_chart⟩)
    (c_chart : PySem.W.codeIn K cd_chart "chart" = true)
    (k_chart : PySem.W.keepIn K (.ref f_chart) = true)
    (a_law_bag : PySem.W.nsIn K mainGlobals "_law_bag" = some (some (.ref f_law_bag)))
    (l_law_bag : K.lookup f_law_bag = some ⟨oc_law_bag, od_law_bag, .func (PySem.W.fnOf "_law_bag" "_law_bag" (defArgs sBag) (defBody sBag) (defScope sBag) .none kV_law_bag dc_law_bag pm_law_bag an_law_bag cd_law_bag ct_law_bag), sl_law_bag⟩)
    (c_law_bag : PySem.W.codeIn K cd_law_bag "_law_bag" = true)
    (k_law_bag : PySem.W.keepIn K (.ref f_law_bag) = true)
    (a_law_take : PySem.W.nsIn K mainGlobals "_law_take" = some (some (.ref f_law_take)))
    (l_law_take : K.lookup f_law_take = some ⟨oc_law_take, od_law_take, .func (PySem.W.fnOf "_law_take" "_law_take" (defArgs sTake) (defBody sTake) (defScope sTake) .none kV_law_take dc_law_take pm_law_take an_law_take cd_law_take ct_law_take), sl_law_take⟩)
    (c_law_take : PySem.W.codeIn K cd_law_take "_law_take" = true)
    (k_law_take : PySem.W.keepIn K (.ref f_law_take) = true)
    (a_law_name : PySem.W.nsIn K mainGlobals "_law_name" = some (some (.ref f_law_name)))
    (l_law_name : K.lookup f_law_name = some ⟨oc_law_name, od_law_name, .func (PySem.W.fnOf "_law_name" "_law_name" (defArgs sLawName) (defBody sLawName) (defScope sLawName) .none kV_law_name dc_law_name pm_law_name an_law_name cd_law_name ct_law_name), sl_law_name⟩)
    (c_law_name : PySem.W.codeIn K cd_law_name "_law_name" = true)
    (k_law_name : PySem.W.keepIn K (.ref f_law_name) = true)
    (a_law_names : PySem.W.nsIn K mainGlobals "_law_names" = some (some (.ref f_law_names)))
    (l_law_names : K.lookup f_law_names = some ⟨oc_law_names, od_law_names, .func (PySem.W.fnOf "_law_names" "_law_names" (defArgs sLawNames) (defBody sLawNames) (defScope sLawNames) .none kV_law_names dc_law_names pm_law_names an_law_names cd_law_names ct_law_names), sl_law_names⟩)
    (c_law_names : PySem.W.codeIn K cd_law_names "_law_names" = true)
    (k_law_names : PySem.W.keepIn K (.ref f_law_names) = true)
    (a_law_free_rows : PySem.W.nsIn K mainGlobals "_law_free_rows" = some (some (.ref f_law_free_rows)))
    (l_law_free_rows : K.lookup f_law_free_rows = some ⟨oc_law_free_rows, od_law_free_rows, .func (PySem.W.fnOf "_law_free_rows" "_law_free_rows" (defArgs sLawFreeRows) (defBody sLawFreeRows) (defScope sLawFreeRows) .none kV_law_free_rows dc_law_free_rows pm_law_free_rows an_law_free_rows cd_law_free_rows ct_law_free_rows), sl_law_free_rows⟩)
    (c_law_free_rows : PySem.W.codeIn K cd_law_free_rows "_law_free_rows" = true)
    (k_law_free_rows : PySem.W.keepIn K (.ref f_law_free_rows) = true)
    (a_law_planted_rows : PySem.W.nsIn K mainGlobals "_law_planted_rows" = some (some (.ref f_law_planted_rows)))
    (l_law_planted_rows : K.lookup f_law_planted_rows = some ⟨oc_law_planted_rows, od_law_planted_rows, .func (PySem.W.fnOf "_law_planted_rows" "_law_planted_rows" (defArgs sLawPlantedRows) (defBody sLawPlantedRows) (defScope sLawPlantedRows) .none kV_law_planted_rows dc_law_planted_rows pm_law_planted_rows an_law_planted_rows cd_law_planted_rows ct_law_planted_rows), sl_law_planted_rows⟩)
    (c_law_planted_rows : PySem.W.codeIn K cd_law_planted_rows "_law_planted_rows" = true)
    (k_law_planted_rows : PySem.W.keepIn K (.ref f_law_planted_rows) = true)
    (a_law_flipped : PySem.W.nsIn K mainGlobals "_law_flipped" = some (some (.ref f_law_flipped)))
    (l_law_flipped : K.lookup f_law_flipped = some ⟨oc_law_flipped, od_law_flipped, .func (PySem.W.fnOf "_law_flipped" "_law_flipped" (defArgs sLawFlipped) (defBody sLawFlipped) (defScope sLawFlipped) .none kV_law_flipped dc_law_flipped pm_law_flipped an_law_flipped cd_law_flipped ct_law_flipped), sl_law_flipped⟩)
    (c_law_flipped : PySem.W.codeIn K cd_law_flipped "_law_flipped" = true)
    (k_law_flipped : PySem.W.keepIn K (.ref f_law_flipped) = true)
    (a_law_rows : PySem.W.nsIn K mainGlobals "_law_rows" = some (some (.ref f_law_rows)))
    (l_law_rows : K.lookup f_law_rows = some ⟨oc_law_rows, od_law_rows, .func (PySem.W.fnOf "_law_rows" "_law_rows" (defArgs sLawRows) (defBody sLawRows) (defScope sLawRows) .none kV_law_rows dc_law_rows pm_law_rows an_law_rows cd_law_rows ct_law_rows), sl_law_rows⟩)
    (c_law_rows : PySem.W.codeIn K cd_law_rows "_law_rows" = true)
    (k_law_rows : PySem.W.keepIn K (.ref f_law_rows) = true)
    (a_law_seen : PySem.W.nsIn K mainGlobals "_law_seen" = some (some (.ref f_law_seen)))
    (l_law_seen : K.lookup f_law_seen = some ⟨oc_law_seen, od_law_seen, .func (PySem.W.fnOf "_law_seen" "_law_seen" (defArgs sLawSeen) (defBody sLawSeen) (defScope sLawSeen) .none kV_law_seen dc_law_seen pm_law_seen an_law_seen cd_law_seen ct_law_seen), sl_law_seen⟩)
    (c_law_seen : PySem.W.codeIn K cd_law_seen "_law_seen" = true)
    (k_law_seen : PySem.W.keepIn K (.ref f_law_seen) = true)
    (a_law_given : PySem.W.nsIn K mainGlobals "_law_given" = some (some (.ref f_law_given)))
    (l_law_given : K.lookup f_law_given = some ⟨oc_law_given, od_law_given, .func (PySem.W.fnOf "_law_given" "_law_given" (defArgs sLawGiven) (defBody sLawGiven) (defScope sLawGiven) .none kV_law_given dc_law_given pm_law_given an_law_given cd_law_given ct_law_given), sl_law_given⟩)
    (c_law_given : PySem.W.codeIn K cd_law_given "_law_given" = true)
    (k_law_given : PySem.W.keepIn K (.ref f_law_given) = true)
    (a_law_drawn : PySem.W.nsIn K mainGlobals "_law_drawn" = some (some (.ref f_law_drawn)))
    (l_law_drawn : K.lookup f_law_drawn = some ⟨oc_law_drawn, od_law_drawn, .func (PySem.W.fnOf "_law_drawn" "_law_drawn" (defArgs sLawDrawn) (defBody sLawDrawn) (defScope sLawDrawn) .none kV_law_drawn dc_law_drawn pm_law_drawn an_law_drawn cd_law_drawn ct_law_drawn), sl_law_drawn⟩)
    (c_law_drawn : PySem.W.codeIn K cd_law_drawn "_law_drawn" = true)
    (k_law_drawn : PySem.W.keepIn K (.ref f_law_drawn) = true)
    (a_law_refused : PySem.W.nsIn K mainGlobals "_law_refused" = some (some (.ref f_law_refused)))
    (l_law_refused : K.lookup f_law_refused = some ⟨oc_law_refused, od_law_refused, .func (PySem.W.fnOf "_law_refused" "_law_refused" (defArgs sLawRefused) (defBody sLawRefused) (defScope sLawRefused) .none kV_law_refused dc_law_refused pm_law_refused an_law_refused cd_law_refused ct_law_refused), sl_law_refused⟩)
    (c_law_refused : PySem.W.codeIn K cd_law_refused "_law_refused" = true)
    (k_law_refused : PySem.W.keepIn K (.ref f_law_refused) = true)
    (a_law : PySem.W.nsIn K mainGlobals "law" = some (some (.ref f_law)))
    (l_law : K.lookup f_law = some ⟨oc_law, od_law, .func (PySem.W.fnOf "law" "law" (defArgs sLaw) (defBody sLaw) (defScope sLaw) .none kV_law dc_law pm_law an_law cd_law ct_law), sl_law⟩)
    (c_law : PySem.W.codeIn K cd_law "law" = true)
    (k_law : PySem.W.keepIn K (.ref f_law) = true)
    (a_InvalidName : PySem.W.nsIn K mainGlobals "InvalidName" = some (some (.ref C_InvalidName)))
    (x_InvalidName : K.lookup C_InvalidName = some (excClassObj nm_InvalidName q_InvalidName C_InvalidName N_InvalidName bs_InvalidName bm_InvalidName true sn_InvalidName sub_InvalidName ab_InvalidName col_InvalidName dd_InvalidName m0_InvalidName m1_InvalidName m2_InvalidName m3_InvalidName m5_InvalidName "ValueError.__new__"))
    (hb_InvalidName : PySem.HandSPX.refsVE bm_InvalidName = true)
    (sa_InvalidName : PySem.W.findIn K (.ref C_InvalidName) "__setattr__" = some (some (.builtin "object.__setattr__")))
    (e_InvalidName : PySem.W.subIn K (.ref C_InvalidName) (.type "BaseException") = some true)
    (tc_InvalidName : PySem.W.typeIn K (.ref C_InvalidName) = some (.type "type"))
    (kc_InvalidName : PySem.W.keepIn K (.ref C_InvalidName) = true)
    (no_InvalidName : PySem.W.findIn K (.ref C_InvalidName) "name" = some none)
    (i_InvalidName : PySem.W.findIn K (.ref C_InvalidName) "__init__" = some (some (.ref f_InvalidName)))
    (ti_InvalidName : PySem.W.typeIn K (.ref f_InvalidName) = some (.type "function"))
    (l_InvalidName : K.lookup f_InvalidName = some ⟨oc_InvalidName, od_InvalidName, .func (PySem.W.fnOf "__init__" "InvalidName.__init__" (defArgs sInv) (defBody sInv) (defScope sInv) .none kV_InvalidName dc_InvalidName pm_InvalidName an_InvalidName cd_InvalidName ct_InvalidName), sl_InvalidName⟩)
    (c_InvalidName : PySem.W.codeIn K cd_InvalidName "InvalidName.__init__" = true)
    (k_InvalidName : PySem.W.keepIn K (.ref f_InvalidName) = true)
    (a_DuplicateName : PySem.W.nsIn K mainGlobals "DuplicateName" = some (some (.ref C_DuplicateName)))
    (x_DuplicateName : K.lookup C_DuplicateName = some (excClassObj nm_DuplicateName q_DuplicateName C_DuplicateName N_DuplicateName bs_DuplicateName bm_DuplicateName true sn_DuplicateName sub_DuplicateName ab_DuplicateName col_DuplicateName dd_DuplicateName m0_DuplicateName m1_DuplicateName m2_DuplicateName m3_DuplicateName m5_DuplicateName "ValueError.__new__"))
    (hb_DuplicateName : PySem.HandSPX.refsVE bm_DuplicateName = true)
    (sa_DuplicateName : PySem.W.findIn K (.ref C_DuplicateName) "__setattr__" = some (some (.builtin "object.__setattr__")))
    (e_DuplicateName : PySem.W.subIn K (.ref C_DuplicateName) (.type "BaseException") = some true)
    (tc_DuplicateName : PySem.W.typeIn K (.ref C_DuplicateName) = some (.type "type"))
    (kc_DuplicateName : PySem.W.keepIn K (.ref C_DuplicateName) = true)
    (no_DuplicateName : PySem.W.findIn K (.ref C_DuplicateName) "name" = some none)
    (i_DuplicateName : PySem.W.findIn K (.ref C_DuplicateName) "__init__" = some (some (.ref f_DuplicateName)))
    (ti_DuplicateName : PySem.W.typeIn K (.ref f_DuplicateName) = some (.type "function"))
    (l_DuplicateName : K.lookup f_DuplicateName = some ⟨oc_DuplicateName, od_DuplicateName, .func (PySem.W.fnOf "__init__" "DuplicateName.__init__" (defArgs sDup) (defBody sDup) (defScope sDup) .none kV_DuplicateName dc_DuplicateName pm_DuplicateName an_DuplicateName cd_DuplicateName ct_DuplicateName), sl_DuplicateName⟩)
    (c_DuplicateName : PySem.W.codeIn K cd_DuplicateName "DuplicateName.__init__" = true)
    (k_DuplicateName : PySem.W.keepIn K (.ref f_DuplicateName) = true)
    (a_UnknownName : PySem.W.nsIn K mainGlobals "UnknownName" = some (some (.ref C_UnknownName)))
    (x_UnknownName : K.lookup C_UnknownName = some (excClassObj nm_UnknownName q_UnknownName C_UnknownName N_UnknownName bs_UnknownName bm_UnknownName true sn_UnknownName sub_UnknownName ab_UnknownName col_UnknownName dd_UnknownName m0_UnknownName m1_UnknownName m2_UnknownName m3_UnknownName m5_UnknownName "ValueError.__new__"))
    (hb_UnknownName : PySem.HandSPX.refsVE bm_UnknownName = true)
    (sa_UnknownName : PySem.W.findIn K (.ref C_UnknownName) "__setattr__" = some (some (.builtin "object.__setattr__")))
    (e_UnknownName : PySem.W.subIn K (.ref C_UnknownName) (.type "BaseException") = some true)
    (tc_UnknownName : PySem.W.typeIn K (.ref C_UnknownName) = some (.type "type"))
    (kc_UnknownName : PySem.W.keepIn K (.ref C_UnknownName) = true)
    (no_UnknownName : PySem.W.findIn K (.ref C_UnknownName) "name" = some none)
    (i_UnknownName : PySem.W.findIn K (.ref C_UnknownName) "__init__" = some (some (.ref f_UnknownName)))
    (ti_UnknownName : PySem.W.typeIn K (.ref f_UnknownName) = some (.type "function"))
    (l_UnknownName : K.lookup f_UnknownName = some ⟨oc_UnknownName, od_UnknownName, .func (PySem.W.fnOf "__init__" "UnknownName.__init__" (defArgs sUnk) (defBody sUnk) (defScope sUnk) .none kV_UnknownName dc_UnknownName pm_UnknownName an_UnknownName cd_UnknownName ct_UnknownName), sl_UnknownName⟩)
    (c_UnknownName : PySem.W.codeIn K cd_UnknownName "UnknownName.__init__" = true)
    (k_UnknownName : PySem.W.keepIn K (.ref f_UnknownName) = true)
    (a_TooMany : PySem.W.nsIn K mainGlobals "TooMany" = some (some (.ref C_TooMany)))
    (x_TooMany : K.lookup C_TooMany = some (excClassObj nm_TooMany q_TooMany C_TooMany N_TooMany bs_TooMany bm_TooMany true sn_TooMany sub_TooMany ab_TooMany col_TooMany dd_TooMany m0_TooMany m1_TooMany m2_TooMany m3_TooMany m5_TooMany "ValueError.__new__"))
    (hb_TooMany : PySem.HandSPX.refsVE bm_TooMany = true)
    (sa_TooMany : PySem.W.findIn K (.ref C_TooMany) "__setattr__" = some (some (.builtin "object.__setattr__")))
    (e_TooMany : PySem.W.subIn K (.ref C_TooMany) (.type "BaseException") = some true)
    (tc_TooMany : PySem.W.typeIn K (.ref C_TooMany) = some (.type "type"))
    (kc_TooMany : PySem.W.keepIn K (.ref C_TooMany) = true)
    (no_TooMany : PySem.W.findIn K (.ref C_TooMany) "limit" = some none)
    (i_TooMany : PySem.W.findIn K (.ref C_TooMany) "__init__" = some (some (.ref f_TooMany)))
    (ti_TooMany : PySem.W.typeIn K (.ref f_TooMany) = some (.type "function"))
    (l_TooMany : K.lookup f_TooMany = some ⟨oc_TooMany, od_TooMany, .func (PySem.W.fnOf "__init__" "TooMany.__init__" (defArgs sMany) (defBody sMany) (defScope sMany) .none kV_TooMany dc_TooMany pm_TooMany an_TooMany cd_TooMany ct_TooMany), sl_TooMany⟩)
    (c_TooMany : PySem.W.codeIn K cd_TooMany "TooMany.__init__" = true)
    (k_TooMany : PySem.W.keepIn K (.ref f_TooMany) = true)
    (a_InvalidOrder : PySem.W.nsIn K mainGlobals "InvalidOrder" = some (some (.ref C_InvalidOrder)))
    (a_DimmerError : PySem.W.nsIn K mainGlobals "DimmerError" = some (some (.ref C_DimmerError)))
    (a_Table : PySem.W.nsIn K mainGlobals "Table" = some (some (.ref C_Table)))
    (pg_Table : PySem.W.plainGet K C_Table Str.empty = true)
    (hd_Table : PySem.W.hasDictIn K C_Table = true)
    (po_Table : PySem.W.plainOver K C_Table = true)
    (sa_Table : PySem.W.findIn K (.ref C_Table) "__setattr__" = some (some (.builtin "object.__setattr__")))
    (mk_Table : PySem.W.makesIn K C_Table = true)
    (kc_Table : PySem.W.keepIn K (.ref C_Table) = true)
    (n_Table_lamps : PySem.W.findIn K (.ref C_Table) "lamps" = some none)
    (n_Table_looks : PySem.W.findIn K (.ref C_Table) "looks" = some none)
    (n_Table__shown : PySem.W.findIn K (.ref C_Table) "_shown" = some none)
    (i_Table_init : PySem.W.findIn K (.ref C_Table) "__init__" = some (some (.ref f_Table_init)))
    (fn_Table_init : PySem.W.isFn K (.ref f_Table_init) = true)
    (l_Table_init : K.lookup f_Table_init = some ⟨oc_Table_init, od_Table_init, .func (PySem.W.fnOf "__init__" "Table.__init__" (defArgs sTabInit) (defBody sTabInit) (defScope sTabInit) .none kV_Table_init dc_Table_init pm_Table_init an_Table_init cd_Table_init ct_Table_init), sl_Table_init⟩)
    (c_Table_init : PySem.W.codeIn K cd_Table_init "Table.__init__" = true)
    (k_Table_init : PySem.W.keepIn K (.ref f_Table_init) = true)
    (i_Table_seen : PySem.W.findIn K (.ref C_Table) "seen" = some (some (.ref f_Table_seen)))
    (fn_Table_seen : PySem.W.isFn K (.ref f_Table_seen) = true)
    (l_Table_seen : K.lookup f_Table_seen = some ⟨oc_Table_seen, od_Table_seen, .func (PySem.W.fnOf "seen" "Table.seen" (defArgs sTableSeen) (defBody sTableSeen) (defScope sTableSeen) .none kV_Table_seen dc_Table_seen pm_Table_seen an_Table_seen cd_Table_seen ct_Table_seen), sl_Table_seen⟩)
    (c_Table_seen : PySem.W.codeIn K cd_Table_seen "Table.seen" = true)
    (k_Table_seen : PySem.W.keepIn K (.ref f_Table_seen) = true)
    (q_exc : PySem.W.excIn K C_InvalidOrder [.type "ValueError", .type "Exception", .type "BaseException", .type "object"] "ValueError.__new__" = true)
    (q_kp : PySem.W.keepIn K (.ref C_InvalidOrder) = true)
    (q_sub : PySem.W.subIn K (.ref C_InvalidOrder) (.type "BaseException") = some true)
    (q_ty : PySem.W.typeIn K (.ref C_InvalidOrder) = some (.type "type"))
    (q_cls : (PySem.W.clsIn K C_InvalidOrder).isSome = true)
    (q_ic : PySem.W.isClsIn K C_InvalidOrder = true)
    (q_self : PySem.W.subIn K (.ref C_InvalidOrder) (.ref C_InvalidOrder) = some true)
    (q_ga : PySem.W.findIn K (.ref C_InvalidOrder) "__getattribute__" = some (some (.builtin "BaseException.__getattribute__")))
    (q_gg : PySem.W.findIn K (.ref C_InvalidOrder) "__getattr__" = some none)
    (q_class : PySem.W.findIn K (.ref C_InvalidOrder) "__class__" = some (some (.builtin "object.__class__")))
    (q_get : PySem.W.specialIn K (.builtin "object.__class__") "__get__" = some (some (.builtin "getset_descriptor.__get__")))
    (q_takes : PySem.W.takesIn K (.builtin "object.__class__") = some true)
    (q_mro : PySem.W.mroIn K C_InvalidOrder (.type "object") = some true)
    (q_kit : PySem.W.kitOne K (.ref C_InvalidOrder) (.ref C_DimmerError) = some true)
    (q_on : PySem.W.nsIn K D_ch "on" = some (some (.str "#" t_on)))
    (q_off : PySem.W.nsIn K D_ch "off" = some (some (.str "." t_off)))
    (z_len : PySem.W.nsIn K mainGlobals "len" = some none)
    (z_int : PySem.W.nsIn K mainGlobals "int" = some none)
    (z_tuple : PySem.W.nsIn K mainGlobals "tuple" = some none)
    (z_abs : PySem.W.nsIn K mainGlobals "abs" = some none)
    (z_isinstance : PySem.W.nsIn K mainGlobals "isinstance" = some none)
    (z_str : PySem.W.nsIn K mainGlobals "str" = some none)
    (z_all : PySem.W.nsIn K mainGlobals "all" = some none)
    (z_list : PySem.W.nsIn K mainGlobals "list" = some none)
    (z_range : PySem.W.nsIn K mainGlobals "range" = some none)
    (z_enumerate : PySem.W.nsIn K mainGlobals "enumerate" = some none)
    (z_sorted : PySem.W.nsIn K mainGlobals "sorted" = some none)
    (v_LONGEST : PySem.W.nsIn K mainGlobals "LONGEST" = some (some (.int 12 t_LONGEST)))
    (v_SIGNS : PySem.W.nsIn K mainGlobals "SIGNS" = some (some (.str SG t_SIGNS)))
    (v_LIMIT : PySem.W.nsIn K mainGlobals "LIMIT" = some (some (.int 24 t_LIMIT)))
    (v_NAME_WIDTH : PySem.W.nsIn K mainGlobals "NAME_WIDTH" = some (some (.int 12 t_NAME_WIDTH)))
    (v_NUMBER_WIDTH : PySem.W.nsIn K mainGlobals "NUMBER_WIDTH" = some (some (.int 3 t_NUMBER_WIDTH))) :
    ∃ fd : FuncData, (∀ (s : Shared) (v : Value), BindsTo s fd ⟨[v], []⟩ [("_law_script", v)]) ∧ ∀ base : Heap, K.In base → base.Ns mainGlobals mg → FnOk l.prog w K mg base CX0 10 fa fd ["_law_script"] (spLaw69 K) := by
  have e := hfa.symm.trans (PySem.W.mg_of X G a_law)
  cases e
  have n_len := PySem.W.mg_none_of X G z_len
  have n_int := PySem.W.mg_none_of X G z_int
  have n_tuple := PySem.W.mg_none_of X G z_tuple
  have n_abs := PySem.W.mg_none_of X G z_abs
  have n_isinstance := PySem.W.mg_none_of X G z_isinstance
  have n_str := PySem.W.mg_none_of X G z_str
  have n_all := PySem.W.mg_none_of X G z_all
  have n_list := PySem.W.mg_none_of X G z_list
  have n_range := PySem.W.mg_none_of X G z_range
  have n_enumerate := PySem.W.mg_none_of X G z_enumerate
  have n_sorted := PySem.W.mg_none_of X G z_sorted
  have TB : TxtB mg := ⟨n_len, n_int, n_abs⟩
  have TN : TxtN mg := ⟨n_isinstance, n_str, n_len, n_all, ⟨_, PySem.W.mg_of X G v_LONGEST⟩, ⟨_, PySem.W.mg_of X G v_SIGNS⟩⟩
  have TM : TxtM mg := ⟨n_range, n_len, n_str⟩
  have TR : TxtR mg := ⟨n_range, n_len, n_list⟩
  have TL : TxtL69 mg := ⟨n_list, n_len, n_tuple, n_range⟩
  have TC : TxtCh mg := ⟨n_sorted, n_str, n_len, ⟨_, PySem.W.mg_of X G v_NAME_WIDTH⟩, ⟨_, PySem.W.mg_of X G v_NUMBER_WIDTH⟩⟩
  have cl : Cls K C_Table := ⟨pg_Table, hd_Table, po_Table, sa_Table⟩
  have TT : TxtT K mg C_Table := ⟨cl, n_Table_lamps, n_Table_looks, n_Table__shown, n_len, n_tuple, ⟨_, PySem.W.mg_of X G v_LIMIT⟩⟩
  have eO : ErrO K mg "InvalidOrder" C_InvalidOrder := ⟨PySem.W.mg_of X G a_InvalidOrder, ⟨_, _, _, _, PySem.F.excBase_ValueError, q_exc⟩, q_kp, q_sub, q_ty⟩
  have isO : IsE K C_InvalidOrder := ⟨q_cls, q_ga, q_gg, q_sub, q_class, q_get, q_takes, q_mro⟩
  have te := own_exm q_sub q_ic q_ty q_self
  have E_InvalidName : ErrC K mg "InvalidName" "name" C_InvalidName f_InvalidName := ⟨⟨⟨_, _, _, _, _, _, _, _, _, _, _, _, _, _, _, x_InvalidName, hb_InvalidName⟩, sa_InvalidName, e_InvalidName, tc_InvalidName, kc_InvalidName⟩, PySem.W.mg_of X G a_InvalidName, i_InvalidName, ti_InvalidName, no_InvalidName⟩
  have E_DuplicateName : ErrC K mg "DuplicateName" "name" C_DuplicateName f_DuplicateName := ⟨⟨⟨_, _, _, _, _, _, _, _, _, _, _, _, _, _, _, x_DuplicateName, hb_DuplicateName⟩, sa_DuplicateName, e_DuplicateName, tc_DuplicateName, kc_DuplicateName⟩, PySem.W.mg_of X G a_DuplicateName, i_DuplicateName, ti_DuplicateName, no_DuplicateName⟩
  have E_UnknownName : ErrC K mg "UnknownName" "name" C_UnknownName f_UnknownName := ⟨⟨⟨_, _, _, _, _, _, _, _, _, _, _, _, _, _, _, x_UnknownName, hb_UnknownName⟩, sa_UnknownName, e_UnknownName, tc_UnknownName, kc_UnknownName⟩, PySem.W.mg_of X G a_UnknownName, i_UnknownName, ti_UnknownName, no_UnknownName⟩
  have E_TooMany : ErrC K mg "TooMany" "limit" C_TooMany f_TooMany := ⟨⟨⟨_, _, _, _, _, _, _, _, _, _, _, _, _, _, _, x_TooMany, hb_TooMany⟩, sa_TooMany, e_TooMany, tc_TooMany, kc_TooMany⟩, PySem.W.mg_of X G a_TooMany, i_TooMany, ti_TooMany, no_TooMany⟩
  let cs : Cs := ⟨C_InvalidName, C_DuplicateName, C_UnknownName, C_TooMany⟩
  have F_InvalidName := fun_mk (st := sInv) l_InvalidName c_InvalidName k_InvalidName
  have b_InvalidName := F_InvalidName.binds (ps := ["self", "name"]) fun _ _ _ _ _ _ us hl => match us, hl with | [_, _], _ => rfl
  have F_DuplicateName := fun_mk (st := sDup) l_DuplicateName c_DuplicateName k_DuplicateName
  have b_DuplicateName := F_DuplicateName.binds (ps := ["self", "name"]) fun _ _ _ _ _ _ us hl => match us, hl with | [_, _], _ => rfl
  have F_UnknownName := fun_mk (st := sUnk) l_UnknownName c_UnknownName k_UnknownName
  have b_UnknownName := F_UnknownName.binds (ps := ["self", "name"]) fun _ _ _ _ _ _ us hl => match us, hl with | [_, _], _ => rfl
  have F_TooMany := fun_mk (st := sMany) l_TooMany c_TooMany k_TooMany
  have b_TooMany := F_TooMany.binds (ps := ["self", "limit"]) fun _ _ _ _ _ _ us hl => match us, hl with | [_, _], _ => rfl
  have F_is_name := fun_mk (st := sIsName) l_is_name c_is_name k_is_name
  have b_is_name := F_is_name.binds (ps := ["value"]) fun _ _ _ _ _ _ us hl => match us, hl with | [_], _ => rfl
  have F_check_name := fun_mk (st := sCheckName) l_check_name c_check_name k_check_name
  have b_check_name := F_check_name.binds (ps := ["name"]) fun _ _ _ _ _ _ us hl => match us, hl with | [_], _ => rfl
  have F_check_new := fun_mk (st := sCheckNew) l_check_new c_check_new k_check_new
  have b_check_new := F_check_new.binds (ps := ["name", "earlier"]) fun _ _ _ _ _ _ us hl => match us, hl with | [_, _], _ => rfl
  have F_check_known := fun_mk (st := sCheckKnown) l_check_known c_check_known k_check_known
  have b_check_known := F_check_known.binds (ps := ["name", "names"]) fun _ _ _ _ _ _ us hl => match us, hl with | [_, _], _ => rfl
  have F_distinct_names := fun_mk (st := sDistinct) l_distinct_names c_distinct_names k_distinct_names
  have b_distinct_names := F_distinct_names.binds (ps := ["names"]) fun _ _ _ _ _ _ us hl => match us, hl with | [_], _ => rfl
  have F_check_shown := fun_mk (st := sCheckShown) l_check_shown c_check_shown k_check_shown
  have b_check_shown := F_check_shown.binds (ps := ["shown", "lamps"]) fun _ _ _ _ _ _ us hl => match us, hl with | [_, _], _ => rfl
  have F_chosen_of := fun_mk (st := sChosen) l_chosen_of c_chosen_of k_chosen_of
  have b_chosen_of := F_chosen_of.binds (ps := ["names", "chosen"]) fun _ _ _ _ _ _ us hl => match us, hl with | [_, _], _ => rfl
  have F_line := fun_mk (st := sChLine) l_line c_line k_line
  have b_line := F_line.binds (ps := ["lamp", "seen", "order", "on", "off"]) fun _ _ _ _ _ _ us hl => match us, hl with | [_, _, _, _, _], _ => rfl
  have F_law_bag := fun_mk (st := sBag) l_law_bag c_law_bag k_law_bag
  have b_law_bag := F_law_bag.binds (ps := ["_law_script"]) fun _ _ _ _ _ _ us hl => match us, hl with | [_], _ => rfl
  have F_law_take := fun_mk (st := sTake) l_law_take c_law_take k_law_take
  have b_law_take := F_law_take.binds (ps := ["_law_bag_here", "_law_size"]) fun _ _ _ _ _ _ us hl => match us, hl with | [_, _], _ => rfl
  have F_law_name := fun_mk (st := sLawName) l_law_name c_law_name k_law_name
  have b_law_name := F_law_name.binds (ps := ["_law_bag_here", "_law_used"]) fun _ _ _ _ _ _ us hl => match us, hl with | [_, _], _ => rfl
  have F_law_names := fun_mk (st := sLawNames) l_law_names c_law_names k_law_names
  have b_law_names := F_law_names.binds (ps := ["_law_bag_here", "_law_count"]) fun _ _ _ _ _ _ us hl => match us, hl with | [_, _], _ => rfl
  have F_law_free_rows := fun_mk (st := sLawFreeRows) l_law_free_rows c_law_free_rows k_law_free_rows
  have b_law_free_rows := F_law_free_rows.binds (ps := ["_law_bag_here", "_law_lamps", "_law_looks"]) fun _ _ _ _ _ _ us hl => match us, hl with | [_, _, _], _ => rfl
  have F_law_planted_rows := fun_mk (st := sLawPlantedRows) l_law_planted_rows c_law_planted_rows k_law_planted_rows
  have b_law_planted_rows := F_law_planted_rows.binds (ps := ["_law_bag_here", "_law_lamps", "_law_looks"]) fun _ _ _ _ _ _ us hl => match us, hl with | [_, _, _], _ => rfl
  have F_law_flipped := fun_mk (st := sLawFlipped) l_law_flipped c_law_flipped k_law_flipped
  have b_law_flipped := F_law_flipped.binds (ps := ["_law_bag_here", "_law_lamps", "_law_rows_here"]) fun _ _ _ _ _ _ us hl => match us, hl with | [_, _, _], _ => rfl
  have F_law_rows := fun_mk (st := sLawRows) l_law_rows c_law_rows k_law_rows
  have b_law_rows := F_law_rows.binds (ps := ["_law_bag_here", "_law_lamps", "_law_looks"]) fun _ _ _ _ _ _ us hl => match us, hl with | [_, _, _], _ => rfl
  have F_law_seen := fun_mk (st := sLawSeen) l_law_seen c_law_seen k_law_seen
  have b_law_seen := F_law_seen.binds (ps := ["_law_rows_here", "_law_lamp"]) fun _ _ _ _ _ _ us hl => match us, hl with | [_, _], _ => rfl
  have F_law_given := fun_mk (st := sLawGiven) l_law_given c_law_given k_law_given
  have b_law_given := F_law_given.binds (ps := ["_law_rows_here", "_law_way"]) fun _ _ _ _ _ _ us hl => match us, hl with | [_, _], _ => rfl
  have F_law_drawn := fun_mk (st := sLawDrawn) l_law_drawn c_law_drawn k_law_drawn
  have b_law_drawn := F_law_drawn.binds (ps := ["_law_lamps", "_law_rows_here", "_law_order", "_law_glow", "_law_dark"]) fun _ _ _ _ _ _ us hl => match us, hl with | [_, _, _, _, _], _ => rfl
  have F_law_refused := fun_mk (st := sLawRefused) l_law_refused c_law_refused k_law_refused
  have b_law_refused := F_law_refused.binds (ps := ["_law_table", "_law_order"]) fun _ _ _ _ _ _ us hl => match us, hl with | [_, _], _ => rfl
  have F_Table_init := fun_mk (st := sTabInit) l_Table_init c_Table_init k_Table_init
  have b_Table_init := F_Table_init.binds (ps := ["self", "lamps", "looks"]) fun _ _ _ _ _ _ us hl => match us, hl with | [_, _, _], _ => rfl
  have F_Table_seen := fun_mk (st := sTableSeen) l_Table_seen c_Table_seen k_Table_seen
  have b_Table_seen := F_Table_seen.binds (ps := ["self", "lamp"]) fun _ _ _ _ _ _ us hl => match us, hl with | [_, _], _ => rfl
  have F_ch := ch_mk l_chart c_chart k_chart ⟨_, q_on⟩ ⟨_, q_off⟩
  have mT := PySem.W.mg_of X G a_Table
  refine ⟨_, fun s v => .of_eq rfl, fun base _ _ => ok_law69 (C := cs) (CT := C_Table) (CI := C_InvalidOrder) (fun_mk (st := sLaw) l_law c_law k_law) TL mT ?_ ?_ ?_ ?_ ?_ ?_ ?_ ?_ ?_⟩
  · have xI : Ex l.prog w K mg base "InvalidName" "name" cs.inv := ⟨_, _, E_InvalidName, b_InvalidName, ok_einv F_InvalidName E_InvalidName⟩
    have xD : Ex l.prog w K mg base "DuplicateName" "name" cs.dup := ⟨_, _, E_DuplicateName, b_DuplicateName, ok_edup F_DuplicateName E_DuplicateName⟩
    have xU : Ex l.prog w K mg base "UnknownName" "name" cs.unk := ⟨_, _, E_UnknownName, b_UnknownName, ok_eunk F_UnknownName E_UnknownName⟩
    have xM : Ex l.prog w K mg base "TooMany" "limit" cs.many := ⟨_, _, E_TooMany, b_TooMany, ok_emany F_TooMany E_TooMany⟩
    have gN : Dfn l.prog w K mg base CX0 1 "is_name" ["value"] (spIsName K) := ⟨_, _, PySem.W.mg_of X G a_is_name, F_is_name.kp, b_is_name, ok_isname F_is_name TN⟩
    have gCN : Dfn l.prog w K mg base (L2.CX l.prog w) 3 "check_name" ["name"] (spCheckName cs) := ⟨_, _, PySem.W.mg_of X G a_check_name, F_check_name.kp, b_check_name, ok_checkname F_check_name gN xI⟩
    have gNL : Dfn l.prog w K mg base (L2.CX l.prog w) 4 "check_new" ["name", "earlier"] (spNewL K cs) := ⟨_, _, PySem.W.mg_of X G a_check_new, F_check_new.kp, b_check_new, ok_newL F_check_new gCN xD⟩
    have gND : Dfn l.prog w K mg base (L2.CX l.prog w) 4 "check_new" ["name", "earlier"] (spNewD K cs) := ⟨_, _, PySem.W.mg_of X G a_check_new, F_check_new.kp, b_check_new, ok_newD F_check_new gCN xD⟩
    have gK : Dfn l.prog w K mg base (L2.CX l.prog w) 4 "check_known" ["name", "names"] (spKnown K cs) := ⟨_, _, PySem.W.mg_of X G a_check_known, F_check_known.kp, b_check_known, ok_known F_check_known TN xU⟩
    have gD : Dfn l.prog w K mg base (L2.CX l.prog w) 6 "distinct_names" ["names"] (spDistinct K cs) := ⟨_, _, PySem.W.mg_of X G a_distinct_names, F_distinct_names.kp, b_distinct_names, ok_distinct F_distinct_names n_tuple gNL⟩
    have gS : Dfn l.prog w K mg base (L2.CX l.prog w) 6 "_check_shown" ["shown", "lamps"] (spShown2 K cs) := ⟨_, _, PySem.W.mg_of X G a_check_shown, F_check_shown.kp, b_check_shown, ok_shown2 F_check_shown n_enumerate gK xD⟩
    have gC : Dfn l.prog w K mg base CX0 1 "_chosen_of" ["names", "chosen"] (spChosen K) := ⟨_, _, PySem.W.mg_of X G a_chosen_of, F_chosen_of.kp, b_chosen_of, ok_chosen F_chosen_of n_tuple⟩
    have ini : ∃ fT fdT, Mk K C_Table fT ∧ Binds K fdT ["self", "lamps", "looks"] [] ∧ FnOk l.prog w K mg base (L2.CX l.prog w) 8 fT fdT ["self", "lamps", "looks"] (spTabInit2 K C_Table cs) := ⟨_, _, ⟨mk_Table, i_Table_init, fn_Table_init, kc_Table⟩, b_Table_init, ok_tabinit2 F_Table_init TT xM gD gND gS gC⟩
    exact ini
  · have xI : Ex l.prog w K mg base "InvalidName" "name" cs.inv := ⟨_, _, E_InvalidName, b_InvalidName, ok_einv F_InvalidName E_InvalidName⟩
    have xD : Ex l.prog w K mg base "DuplicateName" "name" cs.dup := ⟨_, _, E_DuplicateName, b_DuplicateName, ok_edup F_DuplicateName E_DuplicateName⟩
    have xU : Ex l.prog w K mg base "UnknownName" "name" cs.unk := ⟨_, _, E_UnknownName, b_UnknownName, ok_eunk F_UnknownName E_UnknownName⟩
    have xM : Ex l.prog w K mg base "TooMany" "limit" cs.many := ⟨_, _, E_TooMany, b_TooMany, ok_emany F_TooMany E_TooMany⟩
    have gN : Dfn l.prog w K mg base CX0 1 "is_name" ["value"] (spIsName K) := ⟨_, _, PySem.W.mg_of X G a_is_name, F_is_name.kp, b_is_name, ok_isname F_is_name TN⟩
    have gCN : Dfn l.prog w K mg base (L2.CX l.prog w) 3 "check_name" ["name"] (spCheckName cs) := ⟨_, _, PySem.W.mg_of X G a_check_name, F_check_name.kp, b_check_name, ok_checkname F_check_name gN xI⟩
    have gNL : Dfn l.prog w K mg base (L2.CX l.prog w) 4 "check_new" ["name", "earlier"] (spNewL K cs) := ⟨_, _, PySem.W.mg_of X G a_check_new, F_check_new.kp, b_check_new, ok_newL F_check_new gCN xD⟩
    have gND : Dfn l.prog w K mg base (L2.CX l.prog w) 4 "check_new" ["name", "earlier"] (spNewD K cs) := ⟨_, _, PySem.W.mg_of X G a_check_new, F_check_new.kp, b_check_new, ok_newD F_check_new gCN xD⟩
    have gK : Dfn l.prog w K mg base (L2.CX l.prog w) 4 "check_known" ["name", "names"] (spKnown K cs) := ⟨_, _, PySem.W.mg_of X G a_check_known, F_check_known.kp, b_check_known, ok_known F_check_known TN xU⟩
    have gD : Dfn l.prog w K mg base (L2.CX l.prog w) 6 "distinct_names" ["names"] (spDistinct K cs) := ⟨_, _, PySem.W.mg_of X G a_distinct_names, F_distinct_names.kp, b_distinct_names, ok_distinct F_distinct_names n_tuple gNL⟩
    have gS : Dfn l.prog w K mg base (L2.CX l.prog w) 6 "_check_shown" ["shown", "lamps"] (spShown2 K cs) := ⟨_, _, PySem.W.mg_of X G a_check_shown, F_check_shown.kp, b_check_shown, ok_shown2 F_check_shown n_enumerate gK xD⟩
    have gC : Dfn l.prog w K mg base CX0 1 "_chosen_of" ["names", "chosen"] (spChosen K) := ⟨_, _, PySem.W.mg_of X G a_chosen_of, F_chosen_of.kp, b_chosen_of, ok_chosen F_chosen_of n_tuple⟩
    have TABT : TabT l.prog w K mg base C_Table cs := ⟨cl, n_Table_lamps, n_Table_looks, n_Table__shown, n_tuple, n_len, gK⟩
    have gLn : Dfn l.prog w K mg base CX0 1 "_line" ["lamp", "seen", "order", "on", "off"] (spChLine K) := ⟨_, _, PySem.W.mg_of X G a_line, F_line.kp, b_line, ok_chline F_line TC⟩
    have gSe : ∃ f fd, Meth K C_Table "seen" f ∧ Binds K fd ["self", "lamp"] [] ∧ FnOk l.prog w K mg base (L2.CX l.prog w) 5 f fd ["self", "lamp"] (spTSeen K C_Table cs) := ⟨_, _, ⟨i_Table_seen, fn_Table_seen, F_Table_seen.kp⟩, b_Table_seen, ok_tseen F_Table_seen TABT⟩
    have okC := ok_chart (C := cs) (CT := C_Table) F_ch TC cl n_Table_lamps n_Table_looks eO gSe gLn
    exact ⟨_, _, F_ch, PySem.W.mg_of X G a_chart, okC⟩
  · exact ⟨_, _, PySem.W.mg_of X G a_law_bag, F_law_bag.kp, b_law_bag, ok_bag F_law_bag TB⟩
  · exact ⟨_, _, PySem.W.mg_of X G a_law_take, F_law_take.kp, b_law_take, ok_take F_law_take TB⟩
  · have gT : Dfn l.prog w K mg base CX0 1 "_law_take" ["_law_bag_here", "_law_size"] spTake := ⟨_, _, PySem.W.mg_of X G a_law_take, F_law_take.kp, b_law_take, ok_take F_law_take TB⟩
    have g1 : Dfn l.prog w K mg base CX0 2 "_law_name" ["_law_bag_here", "_law_used"] spName := ⟨_, _, PySem.W.mg_of X G a_law_name, F_law_name.kp, b_law_name, ok_name F_law_name TM gT⟩
    exact ⟨_, _, PySem.W.mg_of X G a_law_names, F_law_names.kp, b_law_names, ok_names F_law_names TM g1⟩
  · have gT : Dfn l.prog w K mg base CX0 1 "_law_take" ["_law_bag_here", "_law_size"] spTake := ⟨_, _, PySem.W.mg_of X G a_law_take, F_law_take.kp, b_law_take, ok_take F_law_take TB⟩
    exact ⟨_, _, PySem.W.mg_of X G a_law_rows, F_law_rows.kp, b_law_rows, ok_rows F_law_rows gT ⟨_, _, PySem.W.mg_of X G a_law_free_rows, F_law_free_rows.kp, b_law_free_rows, ok_free F_law_free_rows gT⟩ ⟨_, _, PySem.W.mg_of X G a_law_planted_rows, F_law_planted_rows.kp, b_law_planted_rows, ok_planted F_law_planted_rows TR gT⟩ ⟨_, _, PySem.W.mg_of X G a_law_flipped, F_law_flipped.kp, b_law_flipped, ok_flip F_law_flipped TR gT⟩⟩
  · exact ⟨_, _, PySem.W.mg_of X G a_law_given, F_law_given.kp, b_law_given, ok_given F_law_given TR⟩
  · have gSl : Dfn l.prog w K mg base CX0 1 "_law_seen" ["_law_rows_here", "_law_lamp"] spSeenL := ⟨_, _, PySem.W.mg_of X G a_law_seen, F_law_seen.kp, b_law_seen, ok_seenl F_law_seen⟩
    exact ⟨_, _, PySem.W.mg_of X G a_law_drawn, F_law_drawn.kp, b_law_drawn, ok_drawn F_law_drawn ⟨n_len, n_int, n_str⟩ gSl⟩
  · have xI : Ex l.prog w K mg base "InvalidName" "name" cs.inv := ⟨_, _, E_InvalidName, b_InvalidName, ok_einv F_InvalidName E_InvalidName⟩
    have xD : Ex l.prog w K mg base "DuplicateName" "name" cs.dup := ⟨_, _, E_DuplicateName, b_DuplicateName, ok_edup F_DuplicateName E_DuplicateName⟩
    have xU : Ex l.prog w K mg base "UnknownName" "name" cs.unk := ⟨_, _, E_UnknownName, b_UnknownName, ok_eunk F_UnknownName E_UnknownName⟩
    have xM : Ex l.prog w K mg base "TooMany" "limit" cs.many := ⟨_, _, E_TooMany, b_TooMany, ok_emany F_TooMany E_TooMany⟩
    have gN : Dfn l.prog w K mg base CX0 1 "is_name" ["value"] (spIsName K) := ⟨_, _, PySem.W.mg_of X G a_is_name, F_is_name.kp, b_is_name, ok_isname F_is_name TN⟩
    have gCN : Dfn l.prog w K mg base (L2.CX l.prog w) 3 "check_name" ["name"] (spCheckName cs) := ⟨_, _, PySem.W.mg_of X G a_check_name, F_check_name.kp, b_check_name, ok_checkname F_check_name gN xI⟩
    have gNL : Dfn l.prog w K mg base (L2.CX l.prog w) 4 "check_new" ["name", "earlier"] (spNewL K cs) := ⟨_, _, PySem.W.mg_of X G a_check_new, F_check_new.kp, b_check_new, ok_newL F_check_new gCN xD⟩
    have gND : Dfn l.prog w K mg base (L2.CX l.prog w) 4 "check_new" ["name", "earlier"] (spNewD K cs) := ⟨_, _, PySem.W.mg_of X G a_check_new, F_check_new.kp, b_check_new, ok_newD F_check_new gCN xD⟩
    have gK : Dfn l.prog w K mg base (L2.CX l.prog w) 4 "check_known" ["name", "names"] (spKnown K cs) := ⟨_, _, PySem.W.mg_of X G a_check_known, F_check_known.kp, b_check_known, ok_known F_check_known TN xU⟩
    have gD : Dfn l.prog w K mg base (L2.CX l.prog w) 6 "distinct_names" ["names"] (spDistinct K cs) := ⟨_, _, PySem.W.mg_of X G a_distinct_names, F_distinct_names.kp, b_distinct_names, ok_distinct F_distinct_names n_tuple gNL⟩
    have gS : Dfn l.prog w K mg base (L2.CX l.prog w) 6 "_check_shown" ["shown", "lamps"] (spShown2 K cs) := ⟨_, _, PySem.W.mg_of X G a_check_shown, F_check_shown.kp, b_check_shown, ok_shown2 F_check_shown n_enumerate gK xD⟩
    have gC : Dfn l.prog w K mg base CX0 1 "_chosen_of" ["names", "chosen"] (spChosen K) := ⟨_, _, PySem.W.mg_of X G a_chosen_of, F_chosen_of.kp, b_chosen_of, ok_chosen F_chosen_of n_tuple⟩
    have TABT : TabT l.prog w K mg base C_Table cs := ⟨cl, n_Table_lamps, n_Table_looks, n_Table__shown, n_tuple, n_len, gK⟩
    have gLn : Dfn l.prog w K mg base CX0 1 "_line" ["lamp", "seen", "order", "on", "off"] (spChLine K) := ⟨_, _, PySem.W.mg_of X G a_line, F_line.kp, b_line, ok_chline F_line TC⟩
    have gSe : ∃ f fd, Meth K C_Table "seen" f ∧ Binds K fd ["self", "lamp"] [] ∧ FnOk l.prog w K mg base (L2.CX l.prog w) 5 f fd ["self", "lamp"] (spTSeen K C_Table cs) := ⟨_, _, ⟨i_Table_seen, fn_Table_seen, F_Table_seen.kp⟩, b_Table_seen, ok_tseen F_Table_seen TABT⟩
    have okC := ok_chart (C := cs) (CT := C_Table) F_ch TC cl n_Table_lamps n_Table_looks eO gSe gLn
    obtain ⟨ds, dV, bD⟩ := ch_b F_ch
    exact ⟨_, _, PySem.W.mg_of X G a_law_refused, F_law_refused.kp, b_law_refused, ok_refused69 F_law_refused n_isinstance (PySem.W.mg_of X G a_InvalidOrder) (PySem.W.mg_of X G a_DimmerError) isO te q_kit ⟨_, _, ds, PySem.W.mg_of X G a_chart, F_ch.kp, dV, bD, okC⟩⟩
theorem walk {l : PySem.W.OpenLaw} {q : Program} {loose : List Str} {XP : (Str → Option Value) → Heap → Prop} {YP : World → Heap → Prop} {d : DefRec} {K : Params → PySem.W.Frag} (hn : l.most = some 63) (hdf : d.params.defaults = [])
    (hY : ∀ (w : World) (h : Heap), YP w h → (K w.params).In h)
    (F : ∀ (w : World) (mg : Str → Option Value) (fa : Addr) (h : Heap), (K w.params).In h → h.Ns mainGlobals mg → mg d.name = some (.ref fa) →
      ∃ fd : FuncData, (∀ (s : Shared) (u : Value), BindsTo s fd ⟨[u], []⟩ [("_law_script", u)]) ∧ ∀ base : Heap, (K w.params).In base → base.Ns mainGlobals mg → FnOk l.prog w (K w.params) mg base CX0 10 fa fd ["_law_script"] (spLaw69 (K w.params))) :
    PySem.W.WalkO q loose XP YP l.row.toRowW d [] (fun f vs => PySem.call f vs) :=
  walk_of (n := 63) (k := 10) (x := "_law_script") (CX := fun _ => CX0) (sp := fun w => spLaw69 (K w.params)) hn (by decide) hdf ⟨rfl, by decide, by decide⟩ hY F
    (fun _ _ a ns hl _ hS => ⟨a, ns, rfl, hS, hl, fun _ => rfl⟩) fun _ _ _ _ _ z => z
end Dl

open PySem PySem.W PyProof.Rows in
set_option maxRecDepth 100000 in
set_option maxHeartbeats 0 in
theorem PySem.Challenge.cw_dimmerlog_k69_charts_holds : PySem.Challenge.rw_dimmerlog_k69_charts.Holds := by
  w_on; o_law; k_head; (case hw => w_witness2)
  k_fill
  refine Dl.walk (l := PySem.Challenge.rw_dimmerlog_k69_charts) rfl rfl (fun w h Y => PySem.W.kIn_of Y) ?F
  case F =>
    intro w mg fa h KX G hmg
    refine' Dl.all_mk KX G hmg ?a_is_name ?l_is_name ?c_is_name ?k_is_name ?a_check_name ?l_check_name ?c_check_name ?k_check_name ?a_check_new ?l_check_new ?c_check_new ?k_check_new ?a_check_known ?l_check_known ?c_check_known ?k_check_known ?a_distinct_names ?l_distinct_names ?c_distinct_names ?k_distinct_names ?a_check_shown ?l_check_shown ?c_check_shown ?k_check_shown ?a_chosen_of ?l_chosen_of ?c_chosen_of ?k_chosen_of ?a_line ?l_line ?c_line ?k_line ?a_chart ?l_chart ?c_chart ?k_chart ?a_law_bag ?l_law_bag ?c_law_bag ?k_law_bag ?a_law_take ?l_law_take ?c_law_take ?k_law_take ?a_law_name ?l_law_name ?c_law_name ?k_law_name ?a_law_names ?l_law_names ?c_law_names ?k_law_names ?a_law_free_rows ?l_law_free_rows ?c_law_free_rows ?k_law_free_rows ?a_law_planted_rows ?l_law_planted_rows ?c_law_planted_rows ?k_law_planted_rows ?a_law_flipped ?l_law_flipped ?c_law_flipped ?k_law_flipped ?a_law_rows ?l_law_rows ?c_law_rows ?k_law_rows ?a_law_seen ?l_law_seen ?c_law_seen ?k_law_seen ?a_law_given ?l_law_given ?c_law_given ?k_law_given ?a_law_drawn ?l_law_drawn ?c_law_drawn ?k_law_drawn ?a_law_refused ?l_law_refused ?c_law_refused ?k_law_refused ?a_law ?l_law ?c_law ?k_law ?a_InvalidName ?x_InvalidName ?hb_InvalidName ?sa_InvalidName ?e_InvalidName ?tc_InvalidName ?kc_InvalidName ?no_InvalidName ?i_InvalidName ?ti_InvalidName ?l_InvalidName ?c_InvalidName ?k_InvalidName ?a_DuplicateName ?x_DuplicateName ?hb_DuplicateName ?sa_DuplicateName ?e_DuplicateName ?tc_DuplicateName ?kc_DuplicateName ?no_DuplicateName ?i_DuplicateName ?ti_DuplicateName ?l_DuplicateName ?c_DuplicateName ?k_DuplicateName ?a_UnknownName ?x_UnknownName ?hb_UnknownName ?sa_UnknownName ?e_UnknownName ?tc_UnknownName ?kc_UnknownName ?no_UnknownName ?i_UnknownName ?ti_UnknownName ?l_UnknownName ?c_UnknownName ?k_UnknownName ?a_TooMany ?x_TooMany ?hb_TooMany ?sa_TooMany ?e_TooMany ?tc_TooMany ?kc_TooMany ?no_TooMany ?i_TooMany ?ti_TooMany ?l_TooMany ?c_TooMany ?k_TooMany ?a_InvalidOrder ?a_DimmerError ?a_Table ?pg_Table ?hd_Table ?po_Table ?sa_Table ?mk_Table ?kc_Table ?n_Table_lamps ?n_Table_looks ?n_Table__shown ?i_Table_init ?fn_Table_init ?l_Table_init ?c_Table_init ?k_Table_init ?i_Table_seen ?fn_Table_seen ?l_Table_seen ?c_Table_seen ?k_Table_seen ?q_exc ?q_kp ?q_sub ?q_ty ?q_cls ?q_ic ?q_self ?q_ga ?q_gg ?q_class ?q_get ?q_takes ?q_mro ?q_kit ?q_on ?q_off ?z_len ?z_int ?z_tuple ?z_abs ?z_isinstance ?z_str ?z_all ?z_list ?z_range ?z_enumerate ?z_sorted ?v_LONGEST ?v_SIGNS ?v_LIMIT ?v_NAME_WIDTH ?v_NUMBER_WIDTH
    (case a_is_name => k_is)
    (case l_is_name => k_is)
    (case c_is_name => k_is)
    (case k_is_name => k_is)
    (case a_check_name => k_is)
    (case l_check_name => k_is)
    (case c_check_name => k_is)
    (case k_check_name => k_is)
    (case a_check_new => k_is)
    (case l_check_new => k_is)
    (case c_check_new => k_is)
    (case k_check_new => k_is)
    (case a_check_known => k_is)
    (case l_check_known => k_is)
    (case c_check_known => k_is)
    (case k_check_known => k_is)
    (case a_distinct_names => k_is)
    (case l_distinct_names => k_is)
    (case c_distinct_names => k_is)
    (case k_distinct_names => k_is)
    (case a_check_shown => k_is)
    (case l_check_shown => k_is)
    (case c_check_shown => k_is)
    (case k_check_shown => k_is)
    (case a_chosen_of => k_is)
    (case l_chosen_of => k_is)
    (case c_chosen_of => k_is)
    (case k_chosen_of => k_is)
    (case a_line => k_is)
    (case l_line => k_is)
    (case c_line => k_is)
    (case k_line => k_is)
    (case a_chart => k_is)
    (case l_chart => k_is)
    (case c_chart => k_is)
    (case k_chart => k_is)
    (case a_law_bag => k_is)
    (case l_law_bag => k_is)
    (case c_law_bag => k_is)
    (case k_law_bag => k_is)
    (case a_law_take => k_is)
    (case l_law_take => k_is)
    (case c_law_take => k_is)
    (case k_law_take => k_is)
    (case a_law_name => k_is)
    (case l_law_name => k_is)
    (case c_law_name => k_is)
    (case k_law_name => k_is)
    (case a_law_names => k_is)
    (case l_law_names => k_is)
    (case c_law_names => k_is)
    (case k_law_names => k_is)
    (case a_law_free_rows => k_is)
    (case l_law_free_rows => k_is)
    (case c_law_free_rows => k_is)
    (case k_law_free_rows => k_is)
    (case a_law_planted_rows => k_is)
    (case l_law_planted_rows => k_is)
    (case c_law_planted_rows => k_is)
    (case k_law_planted_rows => k_is)
    (case a_law_flipped => k_is)
    (case l_law_flipped => k_is)
    (case c_law_flipped => k_is)
    (case k_law_flipped => k_is)
    (case a_law_rows => k_is)
    (case l_law_rows => k_is)
    (case c_law_rows => k_is)
    (case k_law_rows => k_is)
    (case a_law_seen => k_is)
    (case l_law_seen => k_is)
    (case c_law_seen => k_is)
    (case k_law_seen => k_is)
    (case a_law_given => k_is)
    (case l_law_given => k_is)
    (case c_law_given => k_is)
    (case k_law_given => k_is)
    (case a_law_drawn => k_is)
    (case l_law_drawn => k_is)
    (case c_law_drawn => k_is)
    (case k_law_drawn => k_is)
    (case a_law_refused => k_is)
    (case l_law_refused => k_is)
    (case c_law_refused => k_is)
    (case k_law_refused => k_is)
    (case a_law => k_is)
    (case l_law => k_is)
    (case c_law => k_is)
    (case k_law => k_is)
    (case a_InvalidName => k_is)
    (case x_InvalidName => k_is)
    (case hb_InvalidName => (first | rfl | decide +kernel))
    (case sa_InvalidName => k_is)
    (case e_InvalidName => k_is)
    (case tc_InvalidName => k_is)
    (case kc_InvalidName => k_is)
    (case no_InvalidName => k_is)
    (case i_InvalidName => k_is)
    (case ti_InvalidName => k_is)
    (case l_InvalidName => k_is)
    (case c_InvalidName => k_is)
    (case k_InvalidName => k_is)
    (case a_DuplicateName => k_is)
    (case x_DuplicateName => k_is)
    (case hb_DuplicateName => (first | rfl | decide +kernel))
    (case sa_DuplicateName => k_is)
    (case e_DuplicateName => k_is)
    (case tc_DuplicateName => k_is)
    (case kc_DuplicateName => k_is)
    (case no_DuplicateName => k_is)
    (case i_DuplicateName => k_is)
    (case ti_DuplicateName => k_is)
    (case l_DuplicateName => k_is)
    (case c_DuplicateName => k_is)
    (case k_DuplicateName => k_is)
    (case a_UnknownName => k_is)
    (case x_UnknownName => k_is)
    (case hb_UnknownName => (first | rfl | decide +kernel))
    (case sa_UnknownName => k_is)
    (case e_UnknownName => k_is)
    (case tc_UnknownName => k_is)
    (case kc_UnknownName => k_is)
    (case no_UnknownName => k_is)
    (case i_UnknownName => k_is)
    (case ti_UnknownName => k_is)
    (case l_UnknownName => k_is)
    (case c_UnknownName => k_is)
    (case k_UnknownName => k_is)
    (case a_TooMany => k_is)
    (case x_TooMany => k_is)
    (case hb_TooMany => (first | rfl | decide +kernel))
    (case sa_TooMany => k_is)
    (case e_TooMany => k_is)
    (case tc_TooMany => k_is)
    (case kc_TooMany => k_is)
    (case no_TooMany => k_is)
    (case i_TooMany => k_is)
    (case ti_TooMany => k_is)
    (case l_TooMany => k_is)
    (case c_TooMany => k_is)
    (case k_TooMany => k_is)
    (case a_InvalidOrder => k_is)
    (case a_DimmerError => k_is)
    (case a_Table => k_is)
    (case pg_Table => k_is)
    (case hd_Table => k_is)
    (case po_Table => k_is)
    (case sa_Table => k_is)
    (case mk_Table => k_is)
    (case kc_Table => k_is)
    (case n_Table_lamps => k_is)
    (case n_Table_looks => k_is)
    (case n_Table__shown => k_is)
    (case i_Table_init => k_is)
    (case fn_Table_init => k_is)
    (case l_Table_init => k_is)
    (case c_Table_init => k_is)
    (case k_Table_init => k_is)
    (case i_Table_seen => k_is)
    (case fn_Table_seen => k_is)
    (case l_Table_seen => k_is)
    (case c_Table_seen => k_is)
    (case k_Table_seen => k_is)
    (case q_exc => (first | k_exc | rfl | decide +kernel))
    (case q_kp => (first | k_is | rfl))
    (case q_sub => (first | k_is | rfl))
    (case q_ty => (first | k_is | rfl))
    (case q_cls => (first | k_is | rfl))
    (case q_ic => (first | k_is | rfl))
    (case q_self => (first | rfl | k_is))
    (case q_ga => k_is)
    (case q_gg => k_is)
    (case q_class => k_is)
    (case q_get => (first | k_is | rfl))
    (case q_takes => (first | k_is | rfl))
    (case q_mro => (first | k_is | rfl))
    (case q_kit => (first | k_is | rfl))
    (case q_on => (first | k_is | rfl))
    (case q_off => (first | k_is | rfl))
    (case z_len => k_is)
    (case z_int => k_is)
    (case z_tuple => k_is)
    (case z_abs => k_is)
    (case z_isinstance => k_is)
    (case z_str => k_is)
    (case z_all => k_is)
    (case z_list => k_is)
    (case z_range => k_is)
    (case z_enumerate => k_is)
    (case z_sorted => k_is)
    (case v_LONGEST => k_is)
    (case v_SIGNS => k_is)
    (case v_LIMIT => k_is)
    (case v_NAME_WIDTH => k_is)
    (case v_NUMBER_WIDTH => k_is)
