import PyProof.Rows.All
import Wide.All
import OpenK.AllK
import Wide.FinOn
import HandS.ForMost
import HandS.Exc
import HandS.TryOnly
import HandS.ExcOwn
import HandS.WordsExc
import HandS.ExcInit
import HandS.ExcField
import HandS.IsInst
import HandS.Walk
import HandS.Conv
import HandS.Wide
import HandS.TryMany
import HandS.CallSlots
import HandS.Flow
import HandS.Deep
import HandS.Star
import HandS.MethStar
import HandS.ExcIs
import HandS.Rev
import HandS.More
import KE.GoesEnum
import KE.GoesMore
import HandS.ListEq
import HandS.DictEq
import HandS.DeepEq
import HandS.OwnEq
import HandS.Codes
import KE.KExcIs
import HandS.Property
import KE.KUnpackStar
import KE.GoesEnumKw
import HandS.Text
import HandS.SuiteRaise
import HandS.RaiseFrom
import HandS.HotCalls
import HandS.ExcInitHot
import HandS.ExcCtx
import HandS.ReplaceLit
import PySem.Challenge.RW_dimmerlog_k05_wrong_texts
set_option Elab.async false
set_option linter.all false
set_option maxRecDepth 100000
set_option maxHeartbeats 4000000
namespace Dl
open PySem L2
def top (i : Nat) : Stmt := PySem.Challenge.pw_dimmerlog_k05_wrong_texts.main.body.getD i (.Pass ⟨0, 0, 0, 0⟩)
abbrev sWall : Stmt := top 0
abbrev sInv : Stmt := inClass (top 3) 0
abbrev sDup : Stmt := inClass (top 4) 0
abbrev sUnk : Stmt := inClass (top 5) 0
abbrev sLine : Stmt := inClass (top 6) 0
abbrev sMany : Stmt := inClass (top 7) 0
abbrev sIsName : Stmt := top 11
abbrev sCheckName : Stmt := top 12
abbrev sCheckNew : Stmt := top 13
abbrev sCheckKnown : Stmt := top 14
abbrev sCheckAll : Stmt := top 15
abbrev sDistinct : Stmt := top 16
abbrev sTabInit : Stmt := inClass (top 19) 0
abbrev sTableRead : Stmt := inClass (top 19) 1
abbrev sTableStr : Stmt := inClass (top 19) 2
abbrev sTableGetitem : Stmt := inClass (top 19) 3
abbrev sTableIter : Stmt := inClass (top 19) 4
abbrev sTableLen : Stmt := inClass (top 19) 5
abbrev sTableEq : Stmt := inClass (top 19) 6
abbrev sTableShown : Stmt := inClass (top 19) 7
abbrev sTableSeen : Stmt := inClass (top 19) 8
abbrev sTableRows : Stmt := inClass (top 19) 9
abbrev sTableWithout : Stmt := inClass (top 19) 10
abbrev sTableOnly : Stmt := inClass (top 19) 11
abbrev sTableWithLook : Stmt := inClass (top 19) 12
abbrev sTableExchanged : Stmt := inClass (top 19) 13
abbrev sTableAlike : Stmt := inClass (top 19) 14
abbrev sTableGroups : Stmt := inClass (top 19) 15
abbrev sCheckShown : Stmt := top 20
abbrev sChosen : Stmt := top 21
abbrev sReadLamps : Stmt := top 22
abbrev sReadLook : Stmt := top 23
abbrev sBag : Stmt := top 25
abbrev sTake : Stmt := top 26
abbrev sLawName : Stmt := top 27
abbrev sLawNames : Stmt := top 28
abbrev sLawFault : Stmt := top 29
abbrev sLawNamesDue : Stmt := top 30
abbrev sLawDue : Stmt := top 31
abbrev sLawFreeRows : Stmt := top 32
abbrev sLawIsInteger : Stmt := top 33
abbrev sLawLines : Stmt := top 34
abbrev sLawFirstWrong : Stmt := top 35
abbrev sLawSpoilt : Stmt := top 36
abbrev sLawDueRows : Stmt := top 37
abbrev sLaw : Stmt := top 38
end Dl

/-! The bag of draws: _law_bag, _law_take. -/
namespace Dl
open PySem L2

/-! ### the mathematics of the bag -/
structure BagOk (L : List Int) : Prop where
  ex : ∃ (s d : Int) (r : List Int), L = s :: d :: r ∧ 0 ≤ s ∧ s < 2147483647 ∧ 0 ≤ d ∧ ∀ x ∈ r, 0 ≤ x
theorem BagOk.put0 {d : Int} {r : List Int} (x : Int) (hd : 0 ≤ d) (hr : ∀ x ∈ r, 0 ≤ x) : BagOk (x % 2147483647 :: d :: r) :=
  ⟨_, _, _, rfl, Int.emod_nonneg _ (by decide), Int.emod_lt_of_pos _ (by decide), hd, hr⟩

/-- the names that the two defs read -/
structure TxtB (mg : Str → Option Value) : Prop where
  len : mg "len" = none
  int : mg "int" = none
  abs : mg "abs" = none

def spTake : Sp := fun vs H Q _ => ∃ (b : Addr) (L : List Int) (n : Int), vs = [.ref b, .int n] ∧ H b = some (.lst (L.map V.int)) ∧ BagOk L ∧ 1 ≤ n ∧ n < 1000000 ∧
  ∀ (L' : List Int) (r : Int), BagOk L' → 0 ≤ r → r < n → Q (.int r) (upd H b (.lst (L'.map V.int)))
section
variable {P : Program} {w : World} {K : PySem.W.Frag} {mg : Str → Option Value} {base : Heap}
theorem scTake : FnScope ["_law_bag_here", "_law_size", "_law_cell", "_law_digit"] ["_law_bag_here", "_law_size"] (defScope sTake) := ⟨rfl, rfl, rfl, by decide +kernel, rfl, by decide +kernel, by decide +kernel⟩
theorem upd_upd {H : Hp} {a : Addr} {o u : HO} : upd (upd H a o) a u = upd H a u := by
  funext b
  by_cases h : b = a
  · subst h; rw [upd_same, upd_same]
  · rw [upd_ne h, upd_ne h, upd_ne h]
theorem upd_id {H : Hp} {a : Addr} {o : HO} (h : H a = some o) : upd H a o = H := by
  funext b
  by_cases e : b = a
  · subst e; rw [upd_same, h]
  · rw [upd_ne e]
theorem ix_at {n j : Nat} (h : j < n) : ixN n (j : Int) = some j := by
  unfold ixN
  rw [if_pos (by omega), if_pos (by omega)]; simp
theorem ok_take {f : Addr} {fd : FuncData} (F : Fun K "_law_take" "_law_take" sTake f fd) (T : TxtB mg) : FnOk P w K mg base CX0 1 f fd ["_law_bag_here", "_law_size"] spTake := by
  refine F.ok scTake (fun vs H Q E h => ?_) (fun cdv A outer s H vs Q E hr h => ?_)
  · obtain ⟨b, L, n, rfl, _⟩ := h
    rfl
  · obtain ⟨b, L, n, rfl, hb, ⟨z, d, r, rfl, hz0, hz1, hd0, hr0⟩, hn1, hn2, k⟩ := h
    refine ⟨_, pss_cons (ps_if (PW.pt (pw_and (pt_cmpR op_eq (pe_ix ix_list (pv 0) pe_int (fun _ _ => rfl)) pe_int (nomark _)) (pw_and1 (pt_cmpR op_gt (pe_callB call_len_seq (by rfl) T.len PySem.boot_len (pa_cons (pv 0) pa_nil)) pe_int (nomark _)))))
        (pss_cons (ps_set (i := 2) scTake.nd rfl (Or.inl rfl) (pe_bm PySem.F.plainAttrs_list PySem.F.slot_list_pop PySem.F.type_list_pop mt_popAt (pv 0) (pa_cons pe_int pa_nil)))
        (pss_one (ps_if (pt_cmpR op_ge (pv 2) (pe_op op_pow pe_int pe_int) (nomark _))
          (pss_one (ps_asg (pv 2) (pg_sub (pv 0) pe_int set_list)))
          (pss_cons (ps_asg (pe_op op_mod (pe_callTy call_int1 (by rfl) T.int (by decide +kernel) (pa_cons (pe_op op_add (pe_op op_add (pe_op op_mul (pe_ix ix_list (pv 0) pe_int (fun _ _ => rfl)) pe_int) (pe_op op_mul (pv 2) pe_int)) pe_int) pa_nil)) pe_int) (pg_sub (pv 0) pe_int set_list))
          (pss_one (ps_ret (pe_op op_mod (pe_callTy call_int1 (by rfl) T.int (by decide +kernel) (pa_cons (pe_op op_fdiv (pe_op op_add (pe_op op_mul (pe_ix ix_list (pv 0) pe_int (fun _ _ => rfl)) pe_int) pe_int) pe_int) pa_nil)) (pv 1))))))))
        pss_nil)
      (pss_cons (ps_if (pt_cmpR op_gt (pe_ix ix_list (pv 0) pe_int (fun _ _ => rfl)) pe_int (nomark _))
        (pss_cons (ps_set (i := 3) scTake.nd rfl (Or.inl rfl) (pe_op op_mod (pe_callTy call_int1 (by rfl) T.int (by decide +kernel) (pa_cons (pe_ix ix_list (pv 0) pe_int (fun _ _ => rfl)) pa_nil)) (pv 1)))
        (pss_cons (ps_asg (pe_op op_fdivW (pe_ix ix_list (pv 0) pe_int (fun _ _ => rfl)) (pv 1)) (pg_sub (pv 0) pe_int set_list))
        (pss_one (ps_ret (pv 3)))))
        pss_nil)
      (pss_cons (ps_asg (pe_op op_mod (pe_callTy call_int1 (by rfl) T.int (by decide +kernel) (pa_cons (pe_op op_mul (pe_ix ix_list (pv 0) pe_int (fun _ _ => rfl)) pe_int) pa_nil)) pe_int) (pg_sub (pv 0) pe_int set_list))
      (pss_one (ps_ret (pe_op op_mod (pe_callTy call_int1 (by rfl) T.int (by decide +kernel) (pa_cons (pe_op op_fdiv (pe_ix ix_list (pv 0) pe_int (fun _ _ => rfl)) pe_int) pa_nil)) (pv 1)))))), ?_⟩
    -- bag[1] == 0 and len(bag) > 2
    refine ⟨_, rfl, b, _, _, _, rfl, rfl, SqL.of hb, (atI_nat (j := 1) rfl), rfl, _, rfl, ?_⟩
    refine ite2 (fun e => ?_) (fun e => ?_)
    · refine ⟨_, rfl, b, _, rfl, .inl (SqL.of hb), _, _, rfl, rfl, _, rfl, ?_⟩
      refine ite2 (fun e2 => ?_) (fun e2 => ?_)
      · -- cell = bag.pop(2)
        have hl : 2 < (z :: d :: r).length := by
          have q := of_decide_eq_true e2
          have q2 : ((2 : Int) < (((z :: d :: r).map V.int).length : Nat)) := q
          rw [List.length_map] at q2
          omega
        match r, hr0, hb, k, hl with
        | [], _, _, _, hl => exact absurd hl (by simp)
        | c :: r, hr0, hb, k, _ =>
        have hc0 : 0 ≤ c := hr0 c (List.mem_cons_self ..)
        have hr1 : ∀ x ∈ r, 0 ≤ x := fun x hx => hr0 x (List.mem_cons_of_mem _ hx)
        have hsq : seqIndex? (2 : Int) ((z :: d :: c :: r).map V.int).length = some 2 := by
          have q : ((z :: d :: c :: r).map V.int).length = r.length + 3 := by simp
          rw [q]
          unfold seqIndex?
          simp
          omega
        refine ⟨_, rfl, .inl ⟨rfl, _, SqL.of hb⟩, b, _, 2, 2, _, rfl, rfl, hb, by decide, by decide, hsq, rfl, ?_⟩
        refine ⟨_, rfl, _, _, rfl, rfl, ⟨by decide, by decide, by decide⟩, _, _, rfl, rfl, _, rfl, ?_⟩
        refine ite2 (fun e4 => ?_) (fun e4 => ?_)
        · refine ⟨_, rfl, _, rfl, b, _, _, 1, rfl, rfl, upd_same, ix_at (j := 1) (by simp), ?_⟩
          have hd1 : 0 ≤ c := hc0
          have hz1' := hz0
          have hz1'' := hz1
          have k1 : ∀ (L' : List Int) (x : Int), BagOk L' → 0 ≤ x → x < n → Q (.int x) (upd (upd (upd H b (HO.lst ((z :: d :: r).map V.int))) b (HO.lst ((z :: c :: r).map V.int))) b (.lst (L'.map V.int))) := fun L' x h1 h2 h3 => by
            rw [upd_upd, upd_upd]
            exact k L' x h1 h2 h3
          have hb1 : (upd (upd H b (HO.lst ((z :: d :: r).map V.int))) b (HO.lst ((z :: c :: r).map V.int))) b = some (.lst ((z :: c :: r).map V.int)) := upd_same
          refine ⟨_, rfl, b, _, _, _, rfl, rfl, SqL.of hb1, (atI_nat (j := 1) rfl), _, _, rfl, rfl, _, rfl, ?_⟩
          refine ite2 (fun e3 => ?_) (fun e3 => ?_)
          · refine ⟨_, rfl, b, _, _, _, rfl, rfl, SqL.of hb1, (atI_nat (j := 1) rfl), .inl ⟨_, rfl, ?_⟩⟩
            refine ⟨_, rfl, _, _, rfl, rfl, (by show (0 : Int) < n; omega), ?_⟩
            refine ⟨_, rfl, b, _, _, _, rfl, rfl, SqL.of hb1, (atI_nat (j := 1) rfl), _, rfl, _, _, rfl, rfl, wide_div (b := 20) (by show (0 : Int) < n; omega) (by show n.natAbs < 2 ^ 20; omega) (by decide) (by decide), ?_⟩
            refine ⟨_, rfl, b, _, _, 1, rfl, rfl, hb1, ix_at (j := 1) (by simp), ?_⟩
            refine ⟨_, rfl, ?_⟩
            exact k1 (z :: (c / n) :: r) _ ⟨_, _, _, rfl, hz1', hz1'', Int.ediv_nonneg hd1 (by omega), hr1⟩ (Int.emod_nonneg _ (by omega)) (Int.emod_lt_of_pos _ (by omega))
          · refine ⟨_, rfl, b, _, _, _, rfl, rfl, SqL.of hb1, (atI_nat (j := 0) rfl), _, _, rfl, rfl, .inl ⟨by show -(2 ^ 64) < z; omega, by show z < 2 ^ 64; omega⟩, .inl ⟨_, rfl, ?_⟩⟩
            refine ⟨_, _, rfl, rfl, (by show (0 : Int) < 2147483647; decide), ?_⟩
            refine ⟨_, rfl, b, _, _, 0, rfl, rfl, hb1, ix_at (j := 0) (by simp), ?_⟩
            refine ⟨_, rfl, b, _, _, _, rfl, rfl, SqL.of upd_same, (atI_nat (j := 0) rfl), _, _, rfl, rfl, ⟨by decide, by decide⟩, .inl ⟨_, rfl, ?_⟩⟩
            refine ⟨_, rfl, _, _, rfl, rfl, (by show (0 : Int) < n; omega), ?_⟩
            exact k1 (z * 48271 % 2147483647 :: c :: r) _ (BagOk.put0 _ hd1 hr1) (Int.emod_nonneg _ (by omega)) (Int.emod_lt_of_pos _ (by omega))
        · have hc1 : c < 10 ^ 18 := by
            have q := of_decide_eq_false (p := ((10 : Int) ^ (18 : Int).toNat ≤ c)) (by simpa using e4)
            have q2 : (10 : Int) ^ (18 : Int).toNat = 1000000000000000000 := by decide
            omega
          refine ⟨_, rfl, b, _, _, _, rfl, rfl, SqL.of upd_same, (atI_nat (j := 0) rfl), _, _, rfl, rfl, .inl ⟨by show -(2 ^ 64) < z; omega, by show z < 2 ^ 64; omega⟩, ?_⟩
          refine ⟨_, rfl, _, _, rfl, rfl, .inl ⟨by show -(2 ^ 64) < c; omega, by show c < 2 ^ 64; omega⟩, _, _, rfl, rfl, _, _, rfl, rfl, .inl ⟨_, rfl, ?_⟩⟩
          refine ⟨_, _, rfl, rfl, (by show (0 : Int) < 2147483647; decide), ?_⟩
          refine ⟨_, rfl, b, _, _, 0, rfl, rfl, upd_same, ix_at (j := 0) (by simp), ?_⟩
          refine ⟨_, rfl, b, _, _, _, rfl, rfl, SqL.of upd_same, (atI_nat (j := 0) rfl), _, _, rfl, rfl, .inl ⟨?_, ?_⟩, _, _, rfl, rfl, _, _, rfl, rfl, ⟨by decide, by decide⟩, .inl ⟨_, rfl, ?_⟩⟩
          · have q := Int.emod_nonneg (z * 48271 + c * 69621 + 11) (show (2147483647 : Int) ≠ 0 by decide)
            show -(2 ^ 64) < (z * 48271 + c * 69621 + 11) % 2147483647
            omega
          · have q := Int.emod_lt_of_pos (z * 48271 + c * 69621 + 11) (show (0 : Int) < 2147483647 by decide)
            show (z * 48271 + c * 69621 + 11) % 2147483647 < 2 ^ 64
            omega
          refine ⟨_, rfl, _, _, rfl, rfl, (by show (0 : Int) < n; omega), ?_⟩
          have q := k ((z * 48271 + c * 69621 + 11) % 2147483647 :: d :: r) _ (BagOk.put0 _ hd0 hr1) (Int.emod_nonneg (((z * 48271 + c * 69621 + 11) % 2147483647 * 16807 + 7919) / 16) (show n ≠ 0 by omega)) (Int.emod_lt_of_pos _ (by omega))
          rw [← upd_upd] at q
          exact q
      · have hb1 := hb
        have k1 := k
        have hz1' := hz0
        have hz1'' := hz1
        have hd1 := hd0
        have hr1 := hr0
        refine ⟨_, rfl, b, _, _, _, rfl, rfl, SqL.of hb1, (atI_nat (j := 1) rfl), _, _, rfl, rfl, _, rfl, ?_⟩
        refine ite2 (fun e3 => ?_) (fun e3 => ?_)
        · refine ⟨_, rfl, b, _, _, _, rfl, rfl, SqL.of hb1, (atI_nat (j := 1) rfl), .inl ⟨_, rfl, ?_⟩⟩
          refine ⟨_, rfl, _, _, rfl, rfl, (by show (0 : Int) < n; omega), ?_⟩
          refine ⟨_, rfl, b, _, _, _, rfl, rfl, SqL.of hb1, (atI_nat (j := 1) rfl), _, rfl, _, _, rfl, rfl, wide_div (b := 20) (by show (0 : Int) < n; omega) (by show n.natAbs < 2 ^ 20; omega) (by decide) (by decide), ?_⟩
          refine ⟨_, rfl, b, _, _, 1, rfl, rfl, hb1, ix_at (j := 1) (by simp), ?_⟩
          refine ⟨_, rfl, ?_⟩
          exact k1 (z :: (d / n) :: r) _ ⟨_, _, _, rfl, hz1', hz1'', Int.ediv_nonneg hd1 (by omega), hr1⟩ (Int.emod_nonneg _ (by omega)) (Int.emod_lt_of_pos _ (by omega))
        · refine ⟨_, rfl, b, _, _, _, rfl, rfl, SqL.of hb1, (atI_nat (j := 0) rfl), _, _, rfl, rfl, .inl ⟨by show -(2 ^ 64) < z; omega, by show z < 2 ^ 64; omega⟩, .inl ⟨_, rfl, ?_⟩⟩
          refine ⟨_, _, rfl, rfl, (by show (0 : Int) < 2147483647; decide), ?_⟩
          refine ⟨_, rfl, b, _, _, 0, rfl, rfl, hb1, ix_at (j := 0) (by simp), ?_⟩
          refine ⟨_, rfl, b, _, _, _, rfl, rfl, SqL.of upd_same, (atI_nat (j := 0) rfl), _, _, rfl, rfl, ⟨by decide, by decide⟩, .inl ⟨_, rfl, ?_⟩⟩
          refine ⟨_, rfl, _, _, rfl, rfl, (by show (0 : Int) < n; omega), ?_⟩
          exact k1 (z * 48271 % 2147483647 :: d :: r) _ (BagOk.put0 _ hd1 hr1) (Int.emod_nonneg _ (by omega)) (Int.emod_lt_of_pos _ (by omega))
    · have hb1 := hb
      have k1 := k
      have hz1' := hz0
      have hz1'' := hz1
      have hd1 := hd0
      have hr1 := hr0
      refine ⟨_, rfl, b, _, _, _, rfl, rfl, SqL.of hb1, (atI_nat (j := 1) rfl), _, _, rfl, rfl, _, rfl, ?_⟩
      refine ite2 (fun e3 => ?_) (fun e3 => ?_)
      · refine ⟨_, rfl, b, _, _, _, rfl, rfl, SqL.of hb1, (atI_nat (j := 1) rfl), .inl ⟨_, rfl, ?_⟩⟩
        refine ⟨_, rfl, _, _, rfl, rfl, (by show (0 : Int) < n; omega), ?_⟩
        refine ⟨_, rfl, b, _, _, _, rfl, rfl, SqL.of hb1, (atI_nat (j := 1) rfl), _, rfl, _, _, rfl, rfl, wide_div (b := 20) (by show (0 : Int) < n; omega) (by show n.natAbs < 2 ^ 20; omega) (by decide) (by decide), ?_⟩
        refine ⟨_, rfl, b, _, _, 1, rfl, rfl, hb1, ix_at (j := 1) (by simp), ?_⟩
        refine ⟨_, rfl, ?_⟩
        exact k1 (z :: (d / n) :: r) _ ⟨_, _, _, rfl, hz1', hz1'', Int.ediv_nonneg hd1 (by omega), hr1⟩ (Int.emod_nonneg _ (by omega)) (Int.emod_lt_of_pos _ (by omega))
      · refine ⟨_, rfl, b, _, _, _, rfl, rfl, SqL.of hb1, (atI_nat (j := 0) rfl), _, _, rfl, rfl, .inl ⟨by show -(2 ^ 64) < z; omega, by show z < 2 ^ 64; omega⟩, .inl ⟨_, rfl, ?_⟩⟩
        refine ⟨_, _, rfl, rfl, (by show (0 : Int) < 2147483647; decide), ?_⟩
        refine ⟨_, rfl, b, _, _, 0, rfl, rfl, hb1, ix_at (j := 0) (by simp), ?_⟩
        refine ⟨_, rfl, b, _, _, _, rfl, rfl, SqL.of upd_same, (atI_nat (j := 0) rfl), _, _, rfl, rfl, ⟨by decide, by decide⟩, .inl ⟨_, rfl, ?_⟩⟩
        refine ⟨_, rfl, _, _, rfl, rfl, (by show (0 : Int) < n; omega), ?_⟩
        exact k1 (z * 48271 % 2147483647 :: d :: r) _ (BagOk.put0 _ hd1 hr1) (Int.emod_nonneg _ (by omega)) (Int.emod_lt_of_pos _ (by omega))
end
end Dl

namespace Dl
open PySem L2
theorem Same.upd_new {H : Hp} {a : Addr} {o : HO} (h : H a = none) : Same H (upd H a o) := fun b u e => by
  rw [upd_ne (ne_of_none e h)]; exact e
def spBag (K : PySem.W.Frag) : Sp := fun vs H Q _ => ∃ (a : Addr) (ns : List Int), vs = [.ref a] ∧ SqL K H a (ns.map V.int) ∧ ns.length ≤ 63 ∧
  ∀ (H' : Hp) (p : Addr) (L : List Int), Same H H' → H p = none → H' p = some (.lst (L.map V.int)) → BagOk L → Q (.ref p) H'
section
variable {P : Program} {w : World} {K : PySem.W.Frag} {mg : Str → Option Value} {base : Heap}
theorem scBag : FnScope ["_law_script", "_law_cell"] ["_law_script"] (defScope sBag) := ⟨rfl, rfl, rfl, by decide +kernel, rfl, by decide +kernel, by decide +kernel⟩
theorem ok_bag {f : Addr} {fd : FuncData} (F : Fun K "_law_bag" "_law_bag" sBag f fd) (T : TxtB mg) : FnOk P w K mg base CX0 1 f fd ["_law_script"] (spBag K) := by
  refine F.ok scBag (fun vs H Q E h => ?_) (fun cdv A outer s H vs Q E hr h => ?_)
  · obtain ⟨b, L, rfl, _⟩ := h
    rfl
  · obtain ⟨a, ns, rfl, hS, hlen, k⟩ := h
    refine ⟨_, pss_one (ps_ret (pe_op op_cat (pe_lst (pa_cons pe_int (pa_cons pe_int pa_nil)))
      (pe_lc (own := [("_law_cell", 1)]) (g := gName 1) (tt := tYes) rfl scBag.nd (pi_list (pe_slice sl_list (pv 0) po_none (po_some pe_int))) (blkOk_by (N := ["_law_script", "_law_cell"]) (sc := defScope sBag) (by decide +kernel))
        (fun _ _ _ _ _ => pg_name (i := 1) scBag.nd rfl (Or.inl rfl)) (fun _ _ _ _ _ => pts_nil) (fun _ _ _ _ _ => pe_callB call_abs (by rfl) T.abs (by decide +kernel) (pa_cons (pv 1) pa_nil))))), ?_⟩
    refine ⟨by show 2 ≤ sizeLine; decide, fun l hl => ?_⟩
    refine ⟨_, rfl, 63, rfl, a, _, rfl, Same.seq (Same.upd_new hl) hS, fun q hq => ?_⟩
    have hcut : ∃ ms : List Int, cutV (ns.map V.int) none (some 63) = ms.map V.int ∧ ms.length ≤ 63 := by
      refine ⟨(ns.drop (HT.sIx (ns.map V.int).length 0 none)).take (HT.sIx (ns.map V.int).length (ns.map V.int).length (some 63) - HT.sIx (ns.map V.int).length 0 none), ?_, ?_⟩
      · unfold cutV
        rw [← List.map_drop, ← List.map_take]
      · rw [List.length_take, List.length_drop]
        omega
    obtain ⟨ms, em, hm⟩ := hcut
    rw [em]
    refine ⟨q, rfl, ⟨_, SqL.of upd_same⟩, fun D hD => lc_list (xs := ms.map V.int) (fun i H' => ∃ M : List Int, H' = upd (upd (upd H l (.lst [.int 0, .int 0])) q (.lst (ms.map V.int))) D (.lst (M.map V.int)) ∧ M.length = i ∧ ∀ x ∈ M, 0 ≤ x)
      ⟨[], rfl, rfl, fun x hx => absurd hx (by simp)⟩ ?_ ?_ ?_⟩
    · rintro i H' _ ⟨M, rfl, _, _⟩
      have nqD : q ≠ D := ne_of_none (H := upd (upd H l (.lst [.int 0, .int 0])) q (.lst (ms.map V.int))) upd_same hD
      exact SqL.of (by rw [upd_ne nqD]; exact upd_same)
    · rintro i x H' hi ⟨M, rfl, hM, hx⟩
      rw [List.getElem?_map] at hi
      cases e : ms[i]? with
      | none => rw [e] at hi; cases hi
      | some u =>
      rw [e] at hi
      obtain rfl : V.int u = x := Option.some.inj hi
      refine ⟨rfl, _, rfl, u, rfl, _, upd_same, ?_, M ++ [if u < 0 then -u else u], ?_, ?_, ?_⟩
      · rw [List.length_map, hM]
        have := (List.getElem?_eq_some_iff.mp e).1
        exact small1000 (by omega)
      · rw [upd_upd, List.map_append]
        rfl
      · rw [List.length_append, hM]
        rfl
      · intro y hy
        rcases List.mem_append.mp hy with h | h
        · exact hx y h
        · obtain rfl := List.mem_singleton.mp h
          split <;> omega
    · rintro H' ⟨M, rfl, hM, hx⟩
      have nlq : l ≠ q := fun e => by rw [e, upd_same] at hq; cases hq
      have nlD : l ≠ D := fun e => by rw [← e, upd_ne nlq, upd_same] at hD; cases hD
      rw [List.length_map] at hM
      refine ⟨l, D, _, _, rfl, rfl, by rw [upd_ne nlD, upd_ne nlq, upd_same], upd_same, ?_, fun p hp => ?_⟩
      · rw [List.length_map]
        exact Nat.le_of_lt (small1000 (by simp; omega))
      · have hp0 : H p = none := by
          have npD : p ≠ D := fun e => by rw [e, upd_same] at hp; cases hp
          have npq : p ≠ q := fun e => by rw [upd_ne npD, e, upd_same] at hp; cases hp
          have npl : p ≠ l := fun e => by rw [upd_ne npD, upd_ne npq, e, upd_same] at hp; cases hp
          rw [upd_ne npD, upd_ne npq, upd_ne npl] at hp
          exact hp
        have s1 : Same H (upd H l (.lst [.int 0, .int 0])) := Same.upd_new hl
        refine k _ p (0 :: 0 :: M) ((s1.trans (Same.upd_new hq)).trans ((Same.upd_new hD).trans (Same.upd_new hp))) hp0 (by rw [upd_same]; rfl) ⟨0, 0, M, rfl, by decide, by decide, by decide, hx⟩
end
end Dl

namespace Dl
open PySem L2
/-! ### the own errors: class C, its __init__ at fI, its one field f -/
structure ErrC (K : PySem.W.Frag) (mg : Str → Option Value) (x f : Str) (C fI : Addr) : Prop where
  oex : OexC K C
  gC : mg x = some (.ref C)
  iC : PySem.W.findIn K (.ref C) "__init__" = some (some (.ref fI))
  tI : PySem.W.typeIn K (.ref fI) = some (.type "function")
  no : PySem.W.findIn K (.ref C) f = some none
/-- self.f = v -/
def spEI (K : PySem.W.Frag) (C : Addr) (f : Str) : Sp := fun vs H Q _ => ∃ (a : Addr) (v : V), vs = [.ref a, v] ∧ H a = some (exo a C none) ∧ ∀ dx, H dx = none → dx ≠ a → Q .non (upd (upd H dx (exd dx [(f, v)])) a (exo a C (some dx)))
section
variable {P : Program} {w : World} {K : PySem.W.Frag} {mg : Str → Option Value} {base : Heap}
theorem scInv : FnScope ["self", "name"] ["self", "name"] (defScope sInv) := ⟨rfl, rfl, rfl, by decide +kernel, rfl, by decide +kernel, by decide +kernel⟩
theorem ok_einv {C fI : Addr} {fd : FuncData} {x : Str} (F : Fun K "__init__" "InvalidName.__init__" sInv fI fd) (T : ErrC K mg x "name" C fI) : FnOk P w K mg base CX0 1 fI fd ["self", "name"] (spEI K C "name") := by
  refine F.ok scInv (fun vs H Q E h => ?_) (fun cdv A outer s H vs Q E hr h => ?_)
  · obtain ⟨b, n, rfl, _⟩ := h
    rfl
  · obtain ⟨a, v, rfl, ha, k⟩ := h
    exact ⟨_, pss_one (ps_ost (pv 0) (pv 1)), _, rfl, _, rfl, a, C, rfl, T.oex, T.no, .inl ⟨ha, fun dx h1 h2 => k dx h1 h2⟩⟩
theorem scDup : FnScope ["self", "name"] ["self", "name"] (defScope sDup) := ⟨rfl, rfl, rfl, by decide +kernel, rfl, by decide +kernel, by decide +kernel⟩
theorem ok_edup {C fI : Addr} {fd : FuncData} {x : Str} (F : Fun K "__init__" "DuplicateName.__init__" sDup fI fd) (T : ErrC K mg x "name" C fI) : FnOk P w K mg base CX0 1 fI fd ["self", "name"] (spEI K C "name") := by
  refine F.ok scDup (fun vs H Q E h => ?_) (fun cdv A outer s H vs Q E hr h => ?_)
  · obtain ⟨b, n, rfl, _⟩ := h
    rfl
  · obtain ⟨a, v, rfl, ha, k⟩ := h
    exact ⟨_, pss_one (ps_ost (pv 0) (pv 1)), _, rfl, _, rfl, a, C, rfl, T.oex, T.no, .inl ⟨ha, fun dx h1 h2 => k dx h1 h2⟩⟩
theorem scUnk : FnScope ["self", "name"] ["self", "name"] (defScope sUnk) := ⟨rfl, rfl, rfl, by decide +kernel, rfl, by decide +kernel, by decide +kernel⟩
theorem ok_eunk {C fI : Addr} {fd : FuncData} {x : Str} (F : Fun K "__init__" "UnknownName.__init__" sUnk fI fd) (T : ErrC K mg x "name" C fI) : FnOk P w K mg base CX0 1 fI fd ["self", "name"] (spEI K C "name") := by
  refine F.ok scUnk (fun vs H Q E h => ?_) (fun cdv A outer s H vs Q E hr h => ?_)
  · obtain ⟨b, n, rfl, _⟩ := h
    rfl
  · obtain ⟨a, v, rfl, ha, k⟩ := h
    exact ⟨_, pss_one (ps_ost (pv 0) (pv 1)), _, rfl, _, rfl, a, C, rfl, T.oex, T.no, .inl ⟨ha, fun dx h1 h2 => k dx h1 h2⟩⟩
theorem scMany : FnScope ["self", "limit"] ["self", "limit"] (defScope sMany) := ⟨rfl, rfl, rfl, by decide +kernel, rfl, by decide +kernel, by decide +kernel⟩
theorem ok_emany {C fI : Addr} {fd : FuncData} {x : Str} (F : Fun K "__init__" "TooMany.__init__" sMany fI fd) (T : ErrC K mg x "limit" C fI) : FnOk P w K mg base CX0 1 fI fd ["self", "limit"] (spEI K C "limit") := by
  refine F.ok scMany (fun vs H Q E h => ?_) (fun cdv A outer s H vs Q E hr h => ?_)
  · obtain ⟨b, n, rfl, _⟩ := h
    rfl
  · obtain ⟨a, v, rfl, ha, k⟩ := h
    exact ⟨_, pss_one (ps_ost (pv 0) (pv 1)), _, rfl, _, rfl, a, C, rfl, T.oex, T.no, .inl ⟨ha, fun dx h1 h2 => k dx h1 h2⟩⟩
end
/-- the way out of raise C(v): what is to be shown for the error's reading, from what the def's promise says -/
theorem raise_end {C : Addr} {f : Str} {K : PySem.W.Frag} {H : Hp} {v : V} {Q : XK} (q : ∀ d H', Same H H' → H d = none → H' d = some (.xd [(f, v)]) → Q (.ref C) (some d) H') :
    ([v] : List V).length ≤ 1000 ∧ ∀ a, H a = none → spEI K C f (.ref a :: ([v] ++ [])) (upd H a (exo a C none))
      (fun u H2 => u = .non ∧ ∃ (d : Addr) (fs : List (Str × V)), H2 a = some (exo a C (some d)) ∧ H2 d = some (exd d fs) ∧ H d = none ∧ Q (.ref C) (some d) (upd (del H2 a) d (.xd fs))) (fun _ _ _ => False) := by
  refine ⟨by simp, fun a ha => ⟨a, v, rfl, upd_same, fun dx hx ne => ⟨rfl, dx, [(f, v)], upd_same, ?_, ?_, ?_⟩⟩⟩
  · rw [upd_ne ne, upd_same]
  · rw [upd_ne ne] at hx
    exact hx
  · rw [upd_ne ne] at hx
    refine q dx _ (fun b o e => ?_) hx upd_same
    have nb : b ≠ dx := ne_of_none e hx
    have na : b ≠ a := ne_of_none e ha
    rw [upd_ne nb, del_ne na, upd_ne na, upd_ne nb, upd_ne na]
    exact e
end Dl

/-! raise C(e) with an own __init__, the context told to be None: my own rule, for calls in a try whose suite raises -/
namespace Dl
open PySem PySem.Spec PyProof.Rows L2
theorem pmkN {X : Cx} {CX : CXT} {x : Str} {e : Expr} {es : List Expr} {ta : TA} {p pos : Pos} {C fI : Addr} {k : Nat} {fd : FuncData} {ps : List Str} {sp : Sp} (T : OexC X.K C) (ini : PySem.W.findIn X.K (.ref C) "__init__" = some (some (.ref fI)))
    (fty : PySem.W.typeIn X.K (.ref fI) = some (.type "function")) (G : FnOk X.prog X.w X.K X.mg X.base CX k fI fd ps sp) (room : Room (k + 1) X.A) (binds : Binds X.K fd ps []) (quiet : Passes CX X (fun _ _ _ => False)) (glob : Gl X x) (at_ : X.mg x = some (.ref C)) (args : PA X (e :: es) ta)
    (dbg : (x == ("__debug__" : Str)) = false := by decide) (first : starEach (e :: es) X.env = (false, eval e X.env) :: starEach es X.env := by rfl) (plain : (backTo pos (starEach es X.env)).any (·.1) = false := by rfl) :
    L2N.PMk X (.Call (.Name x p) (e :: es) [] pos) (tMkO C sp [] ta) := by
  intro pins s σ H Q I h
  obtain ⟨nm, qn, N, bs, bm, sn, sub, ab, col, dd, k0, k1, k2, k3, k5, whole, bases⟩ := T.cls
  apply wpAny_Call_Name_kw
  refine ld_glob I glob at_ ?_ dbg
  apply PySem.W.callWith_K (h₀ := X.base) I.ok.mod.kin T.kC _ first plain
  apply thn (args.run pos pins s σ H _ I h)
  rintro us ⟨hp, g, dr, tk, os⟩ ⟨vs, H1, I1, rel, few, want⟩
  refine ⟨I1.kIn, ?_⟩
  have above : hp.objs.size ≤ hp.objs.size + 1 := Nat.le_succ _
  have ask := want _ (I1.hok.fresh above)
  rw [List.append_nil] at ask
  have stay : ∀ b o, hp.get? b = some o → ((hp.push (PySem.W.kdv_tup us)).push (PySem.HandSPX.excO C hp.objs.size)).get? b = some o := fun b o y => Heap.get?_push_of_some _ (Heap.get?_push_of_some _ y)
  have here : ((hp.push (PySem.W.kdv_tup us)).push (PySem.HandSPX.excO C hp.objs.size)).get? (hp.objs.size + 1) = some (PySem.HandSPX.excO C hp.objs.size) := by heap_get
  have J := I1.laid (t' := tk) (o := exo (hp.objs.size + 1) C none) stay above (exo_ok here)
  have rel1 : Vals (V.ref (hp.objs.size + 1) :: vs) (Value.ref (hp.objs.size + 1) :: us) := .cons rfl rel
  have size : (Value.ref (hp.objs.size + 1) :: us ++ []).length = ps.length := by
    rw [List.append_nil, ← rel1.length]
    exact G.len _ _ _ _ ask
  have room2 : us.length ≤ sizeLine := by
    have e1 := Paired.length rel
    rw [sizeLine_eq]
    omega
  have bound := binds _ (Value.ref (hp.objs.size + 1) :: us) J.kIn size
  rw [List.append_nil] at bound
  apply wpAny_call
  apply PySem.HandSPX.call_own F.excBase_ValueError (fun Y => PySem.HandSPX.refsVE_contains Y bm bases) (I1.kIn _ _ whole) (PySem.W.looks_findIn I1.kIn ini) (fun self => PySem.W.bind_fn I1.kIn self fty) room2
  refine codeAny_mono (G.run _ X.stack _ _ ⟨Value.ref (hp.objs.size + 1) :: us, []⟩ _ _ _ (fun _ _ _ => False) (room.make C us []) (J.env0.make C us []) bound rel1 ask) ?_
  intro r s' out
  match r, out with
  | .error er, out => exact quiet pins σ _ _ er s' J out
  | .ok (.ret u), out =>
    obtain ⟨v, H2, os2, bare2, un2, hok2, rv, rfl, d, fs, ea, ed, hd1, q2⟩ := out
    obtain ⟨h2, g2, d2, t2, os'⟩ := s'
    obtain ⟨t0, G2, J2, keep, gone, obj, free⟩ := mk_end0 (d2 := d2) (t2 := t2) I1 above stay un2 hok2 os2 bare2 ea ed hd1
    refine ⟨rv, hp.objs.size + 1, _, _, ⟨G2, g2, d2, t2, os'⟩, _, .ref C, some d, rfl, J2, keep, gone, obj, ⟨rfl, rfl, ?_⟩, rfl, rfl, free, rfl, bare2, raises_own T.exC T.tyC, q2⟩
    rintro ws hw
    cases hw
    rfl
theorem okN {P : Program} {w : World} {K : PySem.W.Frag} {mg : Str → Option Value} {base : Heap} {x qual : Str} {st : Stmt} {f : Addr} {fd : FuncData} {N ps : List Str} {k : Nat} {sp : Sp} (F : Fun K x qual st f fd) (S : FnScope N ps (defScope st)) (len : ∀ vs H Q E, sp vs H Q E → vs.length = ps.length)
    (body : ∀ (cdv : Value) (A : Around) (outer : List Env) (s : Shared) (H : Hp) (vs : List V) (Q : VK) (E : XK), Room k (A.deeper (envOfC qual (defScope st) s.heap.objs.size f cdv)) → sp vs H Q E →
      ∃ t, PSs (cxOf (L2N.CX P w) P w K mg base N qual (defScope st) f cdv A outer s H E) (defBody st) t ∧ t { nx := fun _ H' => Q .non H', rt := Q } (start N vs) H) : FnOk P w K mg base (L2N.CX P w) (k + 1) f fd ps sp := by
  obtain ⟨oc, od, kV, doc, pm, an, cdv, ct, osl, rfl, lk, hcd⟩ := F.ex
  exact fn_of lk hcd S len fun A outer s H vs Q E hr hsp => body cdv A outer s H vs Q E hr hsp
end Dl

namespace Dl
open PySem L2
/-! ### names -/
def SG : Str := "abcdefghijklmnopqrstuvwxyz0123456789"
def validN (z : Str) : Bool := decide (1 ≤ z.length) && (decide (z.length ≤ 12) && z.cps.toList.all fun c => decide (c ∈ SG.cps.toList))
def isNm : V → Bool
  | .str z => validN z
  | _ => false
/-- what may be passed as a name: a text, an int, None, a list -/
def NmOk (H : Hp) : V → Prop
  | .str z => z.length ≤ sizeLine
  | .int _ => True
  | .non => True
  | .ref p => ∃ xs, H p = some (.lst xs)
  | _ => False
structure TxtN (mg : Str → Option Value) : Prop where
  isi : mg "isinstance" = none
  str : mg "str" = none
  len : mg "len" = none
  all : mg "all" = none
  longest : ∃ t, mg "LONGEST" = some (.int 12 t)
  signs : ∃ t, mg "SIGNS" = some (.str SG t)
theorem nm_type (K : PySem.W.Frag) {H : Hp} {v : V} (hv : NmOk H v) : ∃ (ty : String) (b : Bool), TyX K H v (.type ty) ∧ PySem.W.kitOne K (.type ty) (.type "str") = some b ∧ ((b = false ∧ isNm v = false ∧ ∀ z, v ≠ .str z) ∨ (b = true ∧ ∃ z, v = .str z ∧ z.length ≤ sizeLine)) := by
  cases v with
  | int i => exact ⟨"int", false, .base (.int i), kit_ty (by decide +kernel), .inl ⟨rfl, rfl, fun z h => by cases h⟩⟩
  | non => exact ⟨"NoneType", false, .base .non, kit_ty (by decide +kernel), .inl ⟨rfl, rfl, fun z h => by cases h⟩⟩
  | ref p => obtain ⟨xs, hp⟩ := hv; exact ⟨"list", false, .base (.lst hp), kit_ty (by decide +kernel), .inl ⟨rfl, rfl, fun z h => by cases h⟩⟩
  | str z => exact ⟨"str", true, .base (.str z), kit_ty (by decide +kernel), .inr ⟨rfl, z, rfl, hv⟩⟩
  | bl _ => exact hv.elim
  | byt _ => exact hv.elim
  | flt _ => exact hv.elim
  | ty _ => exact hv.elim
def spIsName (K : PySem.W.Frag) : Sp := fun vs H Q _ => ∃ v : V, vs = [v] ∧ NmOk H v ∧ ∀ H', Same H H' → Q (.bl (isNm v)) H'
theorem int_le_nat {a b : Nat} : decide ((a : Int) ≤ (b : Int)) = decide (a ≤ b) := by simp
section
variable {P : Program} {w : World} {K : PySem.W.Frag} {mg : Str → Option Value} {base : Heap}
theorem scIsName : FnScope ["value", "sign"] ["value"] (defScope sIsName) := ⟨rfl, rfl, rfl, by decide +kernel, rfl, by decide +kernel, by decide +kernel⟩
theorem ok_isname {f : Addr} {fd : FuncData} (F : Fun K "is_name" "is_name" sIsName f fd) (T : TxtN mg) : FnOk P w K mg base CX0 1 f fd ["value"] (spIsName K) := by
  refine F.ok scIsName (fun vs H Q E h => ?_) (fun cdv A outer s H vs Q E hr h => ?_)
  · obtain ⟨b, rfl, _⟩ := h
    rfl
  · obtain ⟨v, rfl, hv, k⟩ := h
    obtain ⟨t1, hL⟩ := T.longest
    obtain ⟨t2, hG⟩ := T.signs
    refine ⟨_, pss_cons (ps_if (PW.pt (pw_or (pt_not (pt_val (pe_callB call_isi (by rfl) T.isi (by decide +kernel) (pa_cons (pv 0) (pa_cons (pe_bltn (v := .ty "str") (by rfl) T.str (by decide +kernel) rfl) pa_nil)))))
        (pw_or1 (pt_not (pt_chain op_le op_le pe_int (pe_callB call_len_str (by rfl) T.len PySem.boot_len (pa_cons (pv 0) pa_nil)) (pe_glob (v := .int 12) (by rfl) hL ⟨_, rfl⟩))))))
        (pss_one (ps_ret pe_bl)) pss_nil)
      (pss_one (ps_ret (pe_callB (cr_all rfl) (by rfl) T.all (by decide +kernel) (pa_cons
        (pe_lc (own := [("sign", 1)]) (g := gName 1) (tt := tYes) rfl scIsName.nd (pi_str (pv 0)) (blkOk_by (N := ["value", "sign"]) (sc := defScope sIsName) (by decide +kernel))
          (fun _ _ _ _ _ => pg_name (i := 1) scIsName.nd rfl (Or.inl rfl)) (fun _ _ _ _ _ => pts_nil) (fun _ _ _ _ _ => pe_cmpR op_in_sign (pv 1) (pe_glob (v := .str SG) (by rfl) hG ⟨_, rfl⟩) (by rfl)))
        pa_nil)))), ?_⟩
    obtain ⟨ty, b, h1, h2, h3⟩ := nm_type K hv
    refine ⟨_, rfl, v, _, _, _, b, rfl, ClsV.ty "str", h1, h2, b, rfl, ?_⟩
    rcases h3 with ⟨rfl, h3, _⟩ | ⟨rfl, z, rfl, hz⟩
    · refine iteT (?_)
      show Q (.bl false) H
      rw [← h3]
      exact k H (Same.refl H)
    · refine iteF (?_)
      refine ⟨_, rfl, z, rfl, hz, _, _, rfl, rfl, _, rfl, ?_⟩
      refine ite2 (fun e1 => ?_) (fun e1 => ?_)
      · have e1' : (1 : Nat) ≤ z.length := by
          have q : (1 : Int) ≤ (z.length : Nat) := of_decide_eq_true e1
          omega
        refine ⟨_, _, rfl, rfl, _, rfl, ?_⟩
        by_cases e2 : z.length ≤ 12
        · have e2' : decide (((z.length : Nat) : Int) ≤ (12 : Int)) = true := decide_eq_true (by omega)
          rw [e2']
          refine iteF (?_)
          refine ⟨_, rfl, z, rfl, fun D hD => lc_it (w := walk_str) (fun i H' => H' = upd H D (.lst (((z.cps.toList.take i).map fun c => decide (c ∈ SG.cps.toList)).map V.bl)) ∧ True) ⟨rfl, trivial⟩ (fun _ _ _ _ => trivial) ?_ ?_⟩
          · rintro i x H' H2 hi ⟨rfl, _⟩ ⟨rfl, c, hc, rfl⟩
            refine ⟨rfl, _, rfl, c, SG, rfl, rfl, _, upd_same, ?_, ?_, trivial⟩
            · rw [List.length_map, List.length_map, List.length_take]
              have ez : z.cps.size = z.length := rfl
              exact small1000 (by omega)
            · have hc2 : z.cps.toList[i]? = some c := by rw [Array.getElem?_toList]; exact hc
              rw [upd_upd, List.take_succ, hc2]
              simp
          · rintro H' ⟨rfl, _⟩
            refine ⟨D, _, rfl, SqL.of upd_same, ?_⟩
            have q := k _ (Same.upd_new hD (o := .lst (((z.cps.toList.take z.cps.size).map fun c => decide (c ∈ SG.cps.toList)).map V.bl)))
            have e : isNm (.str z) = ((z.cps.toList.take z.cps.size).map fun c => decide (c ∈ SG.cps.toList)).all id := by
              show validN z = _
              unfold validN
              rw [decide_eq_true e1', decide_eq_true e2, List.take_of_length_le (by simp)]
              simp [List.all_map]
            rw [e] at q
            exact q
        · have e2' : decide (((z.length : Nat) : Int) ≤ (12 : Int)) = false := decide_eq_false (by omega)
          rw [e2']
          refine iteT (?_)
          have q := k H (Same.refl H)
          have e : isNm (.str z) = false := by
            show validN z = _
            unfold validN
            rw [decide_eq_false e2]
            simp
          rw [e] at q
          exact q
      · have q := k H (Same.refl H)
        have e1' : ¬ (1 : Nat) ≤ z.length := fun x => e1 (decide_eq_true (by
          show (1 : Int) ≤ (z.length : Nat)
          omega))
        have e : isNm (.str z) = false := by
          show validN z = _
          unfold validN
          rw [decide_eq_false e1']
          rfl
        rw [e] at q
        exact ⟨_, rfl, iteT q⟩
end
end Dl

namespace Dl
open PySem L2
/-- a def that stands at a global name and keeps its promise -/
def Dfn (P : Program) (w : World) (K : PySem.W.Frag) (mg : Str → Option Value) (base : Heap) (CX : CXT) (k : Nat) (x : Str) (ps : List Str) (sp : Sp) : Prop :=
  ∃ f fd, mg x = some (.ref f) ∧ PySem.W.keepIn K (.ref f) = true ∧ Binds K fd ps [] ∧ FnOk P w K mg base CX k f fd ps sp
/-- an own error with its __init__ -/
def Ex (P : Program) (w : World) (K : PySem.W.Frag) (mg : Str → Option Value) (base : Heap) (x f : Str) (C : Addr) : Prop :=
  ∃ fI fd, ErrC K mg x f C fI ∧ Binds K fd ["self", f] [] ∧ FnOk P w K mg base CX0 1 fI fd ["self", f] (spEI K C f)
/-- the classes of the errors -/
structure Cs where
  inv : Addr
  dup : Addr
  unk : Addr
  many : Addr
inductive Er where
  | inv (v : V)
  | dup (v : V)
  | unk (v : V)
  | many
/-- an error with one field leaves: what the caller wants of it -/
def Out1 (C : Addr) (f : Str) (v : V) (H : Hp) (E : XK) : Prop := ∀ d H', Same H H' → H d = none → H' d = some (.xd [(f, v)]) → E (.ref C) (some d) H'
def Out (C : Cs) (H : Hp) (E : XK) : Er → Prop
  | .inv v => Out1 C.inv "name" v H E
  | .dup v => Out1 C.dup "name" v H E
  | .unk v => Out1 C.unk "name" v H E
  | .many => Out1 C.many "limit" (.int 24) H E
theorem Out1.of {C : Addr} {f : Str} {v : V} {H H1 : Hp} {E : XK} (s : Same H H1) (h : Out1 C f v H E) : Out1 C f v H1 E := fun d H' s' n e => h d H' (s.trans s') (s.free n) e
theorem Out.of {C : Cs} {H H1 : Hp} {E : XK} {e : Er} (s : Same H H1) (h : Out C H E e) : Out C H1 E e := by
  cases e <;> exact Out1.of s h
theorem Out1.imp {C : Addr} {f : Str} {v : V} {H : Hp} {E E' : XK} (i : ∀ c d H', E c d H' → E' c d H') (h : Out1 C f v H E) : Out1 C f v H E' := fun d H' s' n e => i _ _ _ (h d H' s' n e)
/-- check_new's word -/
def chkNew (v : V) (es : List Str) : Option Er :=
  match v with
  | .str z => if validN z then (if z ∈ es then some (.dup v) else none) else some (.inv v)
  | _ => some (.inv v)
/-- earlier is a list, a tuple or a dict of texts -/
def spNewL (K : PySem.W.Frag) (C : Cs) : Sp := fun vs H Q E => ∃ (v : V) (p : Addr) (es : List Str), vs = [v, .ref p] ∧ NmOk H v ∧ H p = some (.lst (es.map V.str)) ∧ (∀ H', Same H H' → chkNew v es = none → Q .non H') ∧ ∀ e, chkNew v es = some e → Out C H E e
def spNewD (K : PySem.W.Frag) (C : Cs) : Sp := fun vs H Q E => ∃ (v : V) (p : Addr) (kvs : List (Key × V)) (es : List Str), vs = [v, .ref p] ∧ NmOk H v ∧ H p = some (.dK kvs) ∧ kvs.map (·.1) = es.map Sum.inr ∧ (∀ H', Same H H' → chkNew v es = none → Q .non H') ∧ ∀ e, chkNew v es = some e → Out C H E e
theorem inV_str {z : Str} {es : List Str} : inV (.str z) (es.map V.str) = decide (z ∈ es) := by
  unfold inV
  rw [List.any_map]
  induction es with
  | nil => simp
  | cons a r ih =>
    rw [List.any_cons, ih]
    have e : ((fun y => eqV y (V.str z)) ∘ V.str) a = decide (a = z) := by
      show eqV (V.str a) (V.str z) = decide (a = z)
      unfold eqV
      first | rfl | simp
    rw [e]
    by_cases h : a = z
    · subst h; simp
    · have h2 : ¬ z = a := fun q => h q.symm
      simp [h, h2]
theorem flat_strs (es : List Str) : (es.map V.str).all flatV = true := by
  rw [List.all_map]
  induction es with
  | nil => rfl
  | cons a r ih => rw [List.all_cons, ih]; rfl
/-- check_name(name): nothing happens if it is a valid name, else InvalidName -/
def spCheckName (C : Cs) : Sp := fun vs H Q E => ∃ v : V, vs = [v] ∧ NmOk H v ∧ (∀ H', Same H H' → isNm v = true → Q .non H') ∧ (isNm v = false → Out C H E (.inv v))
section
variable {P : Program} {w : World} {K : PySem.W.Frag} {mg : Str → Option Value} {base : Heap} {C : Cs}
theorem scCheckName : FnScope ["name"] ["name"] (defScope sCheckName) := ⟨rfl, rfl, rfl, by decide +kernel, rfl, by decide +kernel, by decide +kernel⟩
theorem ok_checkname {f : Addr} {fd : FuncData} (F : Fun K "check_name" "check_name" sCheckName f fd) (gN : Dfn P w K mg base CX0 1 "is_name" ["value"] (spIsName K)) (xI : Ex P w K mg base "InvalidName" "name" C.inv) :
    FnOk P w K mg base (L2N.CX P w) 3 f fd ["name"] (spCheckName C) := by
  obtain ⟨fN, dN, mN, kN, bN, GN⟩ := gN
  obtain ⟨fI, dI, TI, bI, GI⟩ := xI
  refine okN F scCheckName (fun vs H Q E h => ?_) (fun cdv A outer s H vs Q E hr h => ?_)
  · obtain ⟨b, rfl, _⟩ := h
    rfl
  · obtain ⟨v, rfl, hv, k, kx⟩ := h
    have hr1 : Room 1 _ := hr.mono (by decide)
    have hr2 : Room 2 _ := hr.mono (by decide)
    refine ⟨_, pss_one (ps_if (pt_not (pt_val (pe_call GN hr1 (by rfl) mN kN bN .nil pass0 (pa_cons (pv 0) pa_nil))))
        (pss_one (L2N.ps_raise rfl (L2N.takes_of rfl rfl rfl rfl) (pmkN TI.oex TI.iC TI.tI GI hr2 bI pass0 (by rfl) TI.gC (pa_cons (pv 0) pa_nil)))) pss_nil), ?_⟩
    refine ⟨_, rfl, v, rfl, hv, fun H1 s1 => ⟨_, rfl, ?_⟩⟩
    by_cases hn : isNm v = true
    · rw [hn]
      exact iteF (k H1 s1 hn)
    · have hn' : isNm v = false := by simpa using hn
      rw [hn']
      exact iteT ⟨_, rfl, raise_end (Out.of s1 (kx hn'))⟩
theorem scCheckNew : FnScope ["name", "earlier"] ["name", "earlier"] (defScope sCheckNew) := ⟨rfl, rfl, rfl, by decide +kernel, rfl, by decide +kernel, by decide +kernel⟩
theorem isNm_str {v : V} (h : isNm v = true) : ∃ z, v = .str z ∧ validN z = true := by
  cases v with
  | str z => exact ⟨z, rfl, h⟩
  | _ => cases h
theorem isSome_valV {kvs : List (Key × V)} {es : List Str} (h : kvs.map (·.1) = es.map Sum.inr) {z : Str} : (valV kvs (Sum.inr z)).isSome = decide (z ∈ es) := by
  unfold valV
  rw [Option.isSome_map, List.isSome_find?]
  have e : kvs.any (fun kv => decide (kv.1 = (Sum.inr z : Key))) = (kvs.map (·.1)).any (fun k => decide (k = (Sum.inr z : Key))) := by rw [List.any_map]; rfl
  rw [e, h, List.any_map]
  clear h e
  induction es with
  | nil => simp
  | cons a r ih =>
    rw [List.any_cons, ih]
    by_cases q : a = z
    · subst q; simp
    · have q2 : ¬ z = a := fun x => q x.symm
      simp [q, q2]
theorem ok_newL {f : Addr} {fd : FuncData} (F : Fun K "check_new" "check_new" sCheckNew f fd) (gN : Dfn P w K mg base (L2N.CX P w) 3 "check_name" ["name"] (spCheckName C)) (xD : Ex P w K mg base "DuplicateName" "name" C.dup) :
    FnOk P w K mg base (L2N.CX P w) 4 f fd ["name", "earlier"] (spNewL K C) := by
  obtain ⟨fN, dN, mN, kN, bN, GN⟩ := gN
  obtain ⟨fD, dD, TD, bD, GD⟩ := xD
  refine okN F scCheckNew (fun vs H Q E h => ?_) (fun cdv A outer s H vs Q E hr h => ?_)
  · obtain ⟨b, n, es, rfl, _⟩ := h
    rfl
  · obtain ⟨v, p, es, rfl, hv, hp, k, kx⟩ := h
    have hr3 : Room 3 _ := hr.mono (by decide)
    have hr2 : Room 2 _ := hr.mono (by decide)
    refine ⟨_, pss_cons (ps_expr (pe_call GN hr3 (by rfl) mN kN bN .nil (L2N.passes_call (L2N.takes_of rfl rfl rfl rfl) (fun _ _ _ _ h => h)) (pa_cons (pv 0) pa_nil)))
      (pss_one (ps_if (pt_cmpR op_in_seq (pv 0) (pv 1) (by rfl))
        (pss_one (L2N.ps_raise rfl (L2N.takes_of rfl rfl rfl rfl) (pmkN TD.oex TD.iC TD.tI GD hr2 bD pass0 (by rfl) TD.gC (pa_cons (pv 0) pa_nil)))) pss_nil)), ?_⟩
    refine ⟨_, rfl, v, rfl, hv, fun H1 s1 hn => ?_, fun hn' => ?_⟩
    · obtain ⟨z, rfl, hz⟩ := isNm_str hn
      refine ⟨_, rfl, _, rfl, p, _, rfl, .inl (SqL.of (s1 _ _ hp)), rfl, flat_strs es, _, rfl, ?_⟩
      show if (inV (.str z) (es.map V.str)) = true then _ else _
      by_cases hm : z ∈ es
      · rw [inV_str, decide_eq_true hm]
        refine iteT (?_)
        exact ⟨_, rfl, raise_end (Out.of s1 (kx (.dup (.str z)) (by simp [chkNew, hz, hm])))⟩
      · rw [inV_str, decide_eq_false hm]
        refine iteF (?_)
        exact k H1 s1 (by simp [chkNew, hz, hm])
    · have hc : chkNew v es = some (.inv v) := by
        cases v with
        | str z =>
          have hz : validN z = false := hn'
          simp [chkNew, hz]
        | _ => rfl
      exact kx _ hc
theorem ok_newD {f : Addr} {fd : FuncData} (F : Fun K "check_new" "check_new" sCheckNew f fd) (gN : Dfn P w K mg base (L2N.CX P w) 3 "check_name" ["name"] (spCheckName C)) (xD : Ex P w K mg base "DuplicateName" "name" C.dup) :
    FnOk P w K mg base (L2N.CX P w) 4 f fd ["name", "earlier"] (spNewD K C) := by
  obtain ⟨fN, dN, mN, kN, bN, GN⟩ := gN
  obtain ⟨fD, dD, TD, bD, GD⟩ := xD
  refine okN F scCheckNew (fun vs H Q E h => ?_) (fun cdv A outer s H vs Q E hr h => ?_)
  · obtain ⟨b, n, kvs, es, rfl, _⟩ := h
    rfl
  · obtain ⟨v, p, kvs, es, rfl, hv, hp, hkv, k, kx⟩ := h
    have hr3 : Room 3 _ := hr.mono (by decide)
    have hr2 : Room 2 _ := hr.mono (by decide)
    refine ⟨_, pss_cons (ps_expr (pe_call GN hr3 (by rfl) mN kN bN .nil (L2N.passes_call (L2N.takes_of rfl rfl rfl rfl) (fun _ _ _ _ h => h)) (pa_cons (pv 0) pa_nil)))
      (pss_one (ps_if (pt_cmp (pc_din (hu_of hr) (pv 0) (pv 1)))
        (pss_one (L2N.ps_raise rfl (L2N.takes_of rfl rfl rfl rfl) (pmkN TD.oex TD.iC TD.tI GD hr2 bD pass0 (by rfl) TD.gC (pa_cons (pv 0) pa_nil)))) pss_nil)), ?_⟩
    refine ⟨_, rfl, v, rfl, hv, fun H1 s1 hn => ?_, fun hn' => ?_⟩
    · obtain ⟨z, rfl, hz⟩ := isNm_str hn
      refine ⟨_, rfl, _, rfl, p, _, rfl, DGet.k (k := Sum.inr z) (s1 _ _ hp), _, rfl, ?_⟩
      by_cases hm : z ∈ es
      · rw [isSome_valV hkv, decide_eq_true hm]
        refine iteT (?_)
        exact ⟨_, rfl, raise_end (Out.of s1 (kx (.dup (.str z)) (by simp [chkNew, hz, hm])))⟩
      · rw [isSome_valV hkv, decide_eq_false hm]
        refine iteF (?_)
        exact k H1 s1 (by simp [chkNew, hz, hm])
    · have hc : chkNew v es = some (.inv v) := by
        cases v with
        | str z =>
          have hz : validN z = false := hn'
          simp [chkNew, hz]
        | _ => rfl
      exact kx _ hc
end
end Dl

/-! tuple(d) of a dict: my own rule -/
namespace Dl
open PySem PySem.Spec PyProof.Rows PySem.W PySem.Calls
section
variable {prog : Program} {w : World} {A : Around} {E : Value → Shared → Prop} {s : Shared} {d : Addr} {n : Nat} {P : Nat → Value → Prop} {OK : Heap → Prop}
theorem collect_src {Q : List Value → Shared → Prop} (K : KdlSrc prog w "dict" d d n P OK) (hh : A.handled = none) (hok : OK s.heap) (hn : n ≤ sizeLine)
    (hQ : ∀ (h' : Heap) (tk : Nat) (acc : Array Value), (∀ b o, s.heap.get? b = some o → h'.get? b = some o) → ItemsOf P acc n → Q acc.toList { s with heap := h', toks := tk }) :
    wpAny (model prog w) A (collect (.ref d)) Q E s := by
  unfold collect
  refine wpAny_bind (wpAny_runValue (codeAny_builtin F.entry_proto_collect ?_))
  rw [Around.under_plainId F.plain_proto_collect _]
  show wpAny _ A.in1 (newList [] >>= fun l => again (.builtin "list.__iadd__" ⟨[l, .ref d], []⟩)) _ _ s
  refine wpAny_bind (wpAny_newObj_type ?_)
  refine wpAny_pure ⟨plainId_quiet F.plain_list_iadd _, codeAny_builtin F.entry_list_iadd ?_⟩
  rw [Around.under_plainId F.plain_list_iadd _]
  show wpAny _ A.in1 (Builtin.List.listExtendWith (.ref s.heap.objs.size) (.ref d) (.ref s.heap.objs.size)) _ _ _
  have hS : (s.heap.push { cls := .type "list", data := .seq ([] : List Value).toArray }).get? s.heap.objs.size = some { cls := .type "list", data := .seq #[] 0 } := Heap.get?_push_size _ rfl
  have hlt := K.there _ hok
  refine wpAny_mono (kdl_extend (A := A) (R := fun rr s' => rr = .ok (.ret (.ref s.heap.objs.size)) ∧ ∃ (h' : Heap) (tk : Nat) (acc : Array Value) (c' : Nat), s' = { s with heap := h', toks := tk } ∧
      (∀ b o, s.heap.get? b = some o → h'.get? b = some o) ∧ h'.get? s.heap.objs.size = some { cls := .type "list", dict := none, data := .seq acc c', slots := #[] } ∧ ItemsOf P acc n)
    (s := { s with heap := s.heap.push { cls := .type "list", data := .seq ([] : List Value).toArray } }) K hh (K.keep _ _ hok fun b _ o e => Heap.get?_push_of_some _ e) _ (Nat.ne_of_gt hlt.1) (Nat.ne_of_gt hlt.2) _ 0 hS
    (fun h' tk acc c' hk e hi => ⟨rfl, h', tk, acc, c', rfl, fun b o q => hk b o (Nat.ne_of_lt (Heap.lt_size q)) (Heap.get?_push_of_some _ q), e, hi⟩) hn) (fun fin s' h => ?_) (fun e s' h => ?_)
  · cases fin with
    | done f =>
      obtain ⟨e, h', tk, acc, c', rfl, hk, hS', hi⟩ := h
      cases e
      show wpAny _ A (load s.heap.objs.size >>= _) _ _ _
      exact wpAny_bind (wpAny_load hS' (wpAny_pure (hQ h' tk acc hk hi)))
    | again c' =>
      refine ⟨h.1, codeAny_mono h.2 fun rr s'' hr' => ?_⟩
      obtain ⟨rfl, h', tk, acc, c', rfl, hk, hS', hi⟩ := hr'
      show wpAny _ A (load s.heap.objs.size >>= _) _ _ _
      exact wpAny_bind (wpAny_load hS' (wpAny_pure (hQ h' tk acc hk hi)))
  · exact absurd h.1 (by simp)
theorem code_tuple_new_src {Q₁ : Value → Shared → Prop} (K : KdlSrc prog w "dict" d d n P OK) (hh : A.handled = none) (hok : OK s.heap) (hn : n ≤ sizeLine)
    (h : ∀ (h' : Heap) (tk : Nat) (acc : Array Value), (∀ b o, s.heap.get? b = some o → h'.get? b = some o) → ItemsOf P acc n →
      Q₁ (.ref h'.objs.size) { s with heap := h'.push { cls := .type "tuple", data := .seq acc }, toks := tk }) :
    codeAny (model prog w) A (.call (.builtin "tuple.__new__") ⟨[.type "tuple", .ref d], []⟩) (wants Q₁ E) s := by
  refine codeAny_of_tree ?_
  show wpAny _ A.in1 (do checkBuiltinCall "tuple.__new__" ⟨[.type "tuple", .ref d], []⟩; again (.builtin "tuple.__new__" ⟨[.type "tuple", .ref d], []⟩)) _ _ s
  refine wpAny_bind (wpAny_of_eq (F.newCall_tuple_1 _) (wpAny_pure ⟨plainId_quiet F.plain_tuple_new _, codeAny_builtin F.entry_tuple_new ?_⟩))
  rw [Around.under_plainId F.plain_tuple_new _]
  have hsub := sub_tuple_self
  have hinit := init_tuple_lookup
  have hmh := madeHere_tuple
  have hTI : s.TypeIs (.ref d) "dict" := K.type _ hok
  have hh1 : A.in1.handled = none := hh
  wp_walk using wpAny_typeOf hTI, collect_src (A := A.in1) K hh1 hok hn
  intro h' tk acc hk hacc
  show wpAny _ _ (Builtin.Tuple.tupleExact acc.toList.toArray >>= fun v => ret v) _ _ _
  unfold Builtin.Tuple.tupleExact
  refine wpAny_bind (wpAny_newObj_type ?_ (by show acc.toList.toArray.size ≤ sizeLine; simp only [Array.toArray_toList]; rw [hacc.1]; exact hn))
  refine wpAny_pure ?_
  have e : acc.toList.toArray = acc := by simp
  rw [e]
  exact h h' tk acc hk hacc
theorem call_tuple_src {Q : Value → Shared → Prop} (K : KdlSrc prog w "dict" d d n P OK) (hh : A.handled = none) (hok : OK s.heap) (hn : n ≤ sizeLine)
    (hQ : ∀ (h' : Heap) (tk : Nat) (acc : Array Value), (∀ b o, s.heap.get? b = some o → h'.get? b = some o) → ItemsOf P acc n →
      Q (.ref h'.objs.size) { s with heap := h'.push { cls := .type "tuple", data := .seq acc }, toks := tk }) :
    wpAny (model prog w) A (call (.type "tuple") [.ref d]) Q E s := by
  refine callType_codes (Q₁ := fun obj s₁ => s₁.TypeIs obj "tuple" ∧ Q obj s₁) F.called_tuple (F.typeCall_tuple_1 _) F.entry_object_init
    (code_tuple_new_src (A := A.in1) K hh hok hn fun h' tk acc hk hacc => ⟨⟨_, Heap.get?_push_size _ rfl, rfl⟩, hQ h' tk acc hk hacc⟩) fun obj s₁ h₁ => ?_
  exact ⟨h₁.1, F.args_object_init_2 obj _, object_init_meets F.called_tuple.init.lookup F.called_tuple.made (by decide) prog w A.in1 _ s₁ ⟨h₁.1, rfl, h₁.2⟩⟩
end
open L2
theorem call_tuple_dK {X : Cx} (hc : X.calm = true) : CallR X (.type "tuple") (fun xs H Q => ∃ p kvs, xs = [.ref p] ∧ H p = some (.dK kvs) ∧ ∀ q, H q = none → Q (.ref q) (upd H q (.tup (kvs.map fun kv => kV kv.1)))) := by
  intro pins s σ H xs us Q I r h
  obtain ⟨p, kvs, e, hk, q⟩ := h
  subst e
  obtain ⟨u, eu, rx⟩ := vals1 r
  subst eu
  obtain rfl : u = Value.ref p := rx
  obtain ⟨z, lo, vs, rk, hd⟩ := (show ObjOk X.prog X.w H s.heap p (.dK kvs) from I.hok p _ hk)
  obtain ⟨ep, hat⟩ := hd.dictAt
  have hl : kvs.length = vs.length := Paired.length rk
  refine call_tuple_src (PySem.W.kdl_dict (knd := mixKind X.prog X.w) (kvs := vs) (ep := ep) lo) (I.ok.hd hc) hat (by rw [← hl]; exact z) fun h' tk acc hkeep hacc => ?_
  have I2 : Inv X pins σ H { s with heap := h', toks := tk } := I.kept hkeep
  refine ⟨.ref h'.objs.size, upd H h'.objs.size (.tup (kvs.map fun kv => kV kv.1)), I2.laid (t' := tk) (fun c o e => Heap.get?_push_of_some _ e) (Nat.le_refl _) (show ObjOk X.prog X.w _ _ _ (.tup (kvs.map fun kv => kV kv.1)) from ⟨?_, acc.toList, ?_, ?_⟩), rfl, q _ (I2.hok.fresh (Nat.le_refl _))⟩
  · rw [List.length_map]; exact z
  · have el : acc.toList.length = acc.size := by simp
    refine vals_of_at (by rw [List.length_map, el, hacc.1, hl]) fun j x w h1 h2 => ?_
    obtain ⟨k, y, hky, hi⟩ := hacc.2 j w (by rw [← Array.getElem?_toList]; exact h2)
    have e1 : (kvs.map (·.1))[j]? = some k := by
      rw [KV.keys rk, List.getElem?_map, hky] <;> rfl
    have e2 : (kvs.map fun kv => kV kv.1)[j]? = some (kV k) := by
      have e3 : (kvs.map fun kv => kV kv.1) = (kvs.map (·.1)).map kV := by rw [List.map_map] <;> rfl
      rw [e3, List.getElem?_map, e1] <;> rfl
    rw [e2] at h1
    cases h1
    exact keyIs_rel hi
  · rw [Array.toArray_toList]; exact IsTup.new _ _
end Dl

namespace Dl
open PySem L2
theorem NmOk.of {H H' : Hp} {v : V} (s : Same H H') (h : NmOk H v) : NmOk H' v := by
  cases v with
  | ref p => obtain ⟨xs, e⟩ := h; exact ⟨xs, s _ _ e⟩
  | str z => exact h
  | int i => exact h
  | non => exact h
  | bl _ => exact h
  | byt _ => exact h
  | flt _ => exact h
  | ty _ => exact h
theorem Same.tup {K : PySem.W.Frag} {H H' : Hp} {a : Addr} {xs : List V} (e : Same H H') (h : SqT K H a xs) : SqT K H' a xs := by
  rcases h with (h | ⟨o, h⟩) | h
  · exact .inl (.inl (e _ _ h))
  · exact .inl (.inr ⟨o, e _ _ h⟩)
  · exact .inr h
def knows (v : V) (es : List Str) : Bool :=
  match v with
  | .str z => decide (z ∈ es)
  | _ => false
/-- check_known(name, names), names a tuple of texts -/
def spKnown (K : PySem.W.Frag) (C : Cs) : Sp := fun vs H Q E => ∃ (v : V) (p : Addr) (es : List Str), vs = [v, .ref p] ∧ NmOk H v ∧ SqT K H p (es.map V.str) ∧ (knows v es = true → Q .non H) ∧ (knows v es = false → Out1 C.unk "name" v H E)
def strOf : V → Str
  | .str z => z
  | _ => ""
def chkNames : List V → List Str → Except Er (List Str)
  | [], acc => .ok acc
  | v :: r, acc => match chkNew v acc with
    | some e => .error e
    | none => chkNames r (acc ++ [strOf v])
theorem chkNew_none {v : V} {es : List Str} (h : chkNew v es = none) : ∃ z, v = .str z ∧ validN z = true ∧ z ∉ es := by
  cases v with
  | str z =>
    refine ⟨z, rfl, ?_⟩
    unfold chkNew at h
    by_cases h1 : validN z = true
    · by_cases h2 : z ∈ es
      · simp [h1, h2] at h
      · exact ⟨h1, h2⟩
    · simp [h1] at h
  | _ => simp [chkNew] at h
/-- distinct_names(names), names a list or a tuple -/
def spDistinct (K : PySem.W.Frag) (C : Cs) : Sp := fun vs H Q E => ∃ (p : Addr) (xs : List V), vs = [.ref p] ∧ (SqL K H p xs ∨ SqT K H p xs) ∧ (∀ v ∈ xs, NmOk H v) ∧ xs.length ≤ 1000 ∧
  (∀ es, chkNames xs [] = .ok es → ∀ H' t, Same H H' → H t = none → H' t = some (.tup (es.map V.str)) → Q (.ref t) H') ∧ ∀ e, chkNames xs [] = .error e → Out C H E e
section
variable {P : Program} {w : World} {K : PySem.W.Frag} {mg : Str → Option Value} {base : Heap} {C : Cs}
theorem scCheckKnown : FnScope ["name", "names"] ["name", "names"] (defScope sCheckKnown) := ⟨rfl, rfl, rfl, by decide +kernel, rfl, by decide +kernel, by decide +kernel⟩
theorem ok_known {f : Addr} {fd : FuncData} (F : Fun K "check_known" "check_known" sCheckKnown f fd) (T : TxtN mg) (xU : Ex P w K mg base "UnknownName" "name" C.unk) :
    FnOk P w K mg base (L2N.CX P w) 4 f fd ["name", "names"] (spKnown K C) := by
  obtain ⟨fI, dI, TI, bI, GI⟩ := xU
  refine okN F scCheckKnown (fun vs H Q E h => ?_) (fun cdv A outer s H vs Q E hr h => ?_)
  · obtain ⟨b, n, es, rfl, _⟩ := h
    rfl
  · obtain ⟨v, p, es, rfl, hv, hp, k, kx⟩ := h
    have hr2 : Room 2 _ := hr.mono (by decide)
    refine ⟨_, pss_one (ps_if (PW.pt (pw_or (pt_not (pt_val (pe_callB call_isi (by rfl) T.isi (by decide +kernel) (pa_cons (pv 0) (pa_cons (pe_bltn (v := .ty "str") (by rfl) T.str (by decide +kernel) rfl) pa_nil)))))
        (pw_or1 (pt_cmpR op_notIn_seq (pv 0) (pv 1) (by rfl)))))
        (pss_one (L2N.ps_raise rfl (L2N.takes_of rfl rfl rfl rfl) (pmkN TI.oex TI.iC TI.tI GI hr2 bI pass0 (by rfl) TI.gC (pa_cons (pv 0) pa_nil)))) pss_nil), ?_⟩
    obtain ⟨ty, b, h1, h2, h3⟩ := nm_type K hv
    refine ⟨_, rfl, v, _, _, _, b, rfl, ClsV.ty "str", h1, h2, b, rfl, ?_⟩
    rcases h3 with ⟨rfl, h3, hns⟩ | ⟨rfl, z, rfl, hz⟩
    · refine iteT (?_)
      have hk : knows v es = false := by
        cases v with
        | str z => exact absurd rfl (hns z)
        | _ => rfl
      exact ⟨_, rfl, raise_end (kx hk)⟩
    · refine iteF (?_)
      refine ⟨_, rfl, _, rfl, p, _, rfl, .inr hp, rfl, flat_strs es, _, rfl, ?_⟩
      show if (!inV (.str z) (es.map V.str)) = true then _ else _
      rw [inV_str]
      by_cases hm : z ∈ es
      · rw [decide_eq_true hm]
        exact iteF (k (by simp [knows, hm]))
      · rw [decide_eq_false hm]
        exact iteT (⟨_, rfl, raise_end (kx (by simp [knows, hm]))⟩)
theorem scDistinct : FnScope ["names", "found", "name"] ["names"] (defScope sDistinct) := ⟨rfl, rfl, rfl, by decide +kernel, rfl, by decide +kernel, by decide +kernel⟩
theorem ok_distinct {f : Addr} {fd : FuncData} (F : Fun K "distinct_names" "distinct_names" sDistinct f fd) (mT : mg "tuple" = none) (gN : Dfn P w K mg base (L2N.CX P w) 4 "check_new" ["name", "earlier"] (spNewL K C)) :
    FnOk P w K mg base (L2N.CX P w) 6 f fd ["names"] (spDistinct K C) := by
  obtain ⟨fN, dN, mN, kN, bN, GN⟩ := gN
  refine okN F scDistinct (fun vs H Q E h => ?_) (fun cdv A outer s H vs Q E hr h => ?_)
  · obtain ⟨b, n, rfl, _⟩ := h
    rfl
  · obtain ⟨p, xs, rfl, hp, hx, hlen, k, kx⟩ := h
    have hr4 : Room 4 _ := hr.mono (by decide)
    rcases hp with hp | hp
    · refine ⟨_, pss_cons (ps_set (i := 1) scDistinct.nd rfl (Or.inl rfl) (pe_lst pa_nil)) (pss_cons (ps_for (passes_of rfl) rfl (pi_list (pv 0)) (pg_name (i := 2) scDistinct.nd rfl (Or.inl rfl))
        (pss_cons (ps_expr (pe_call GN hr4 (by rfl) mN kN bN .nil (L2N.passes_call (L2N.takes_of rfl rfl rfl rfl) (fun _ _ _ _ h => h)) (pa_cons (pv 2) (pa_cons (pv 1) pa_nil))))
        (pss_one (ps_expr (pe_bm PySem.F.plainAttrs_list PySem.F.slot_list_append PySem.F.type_list_append mt_append (pv 1) (pa_cons (pv 2) pa_nil))))))
        (pss_one (ps_ret (pe_callTy call_tuple_of (by rfl) mT (by decide +kernel) (pa_cons (pv 1) pa_nil))))), ?_⟩
      refine ⟨Nat.zero_le _, fun l hl => ⟨_, rfl, p, rfl, ⟨_, Same.seq (Same.upd_new hl) hp⟩, for_it (walk_list (K := K) (a := p) (xs := xs)) (fun i σ H' => ∃ (acc : List Str) (x : Option V), σ = [some (.ref p), some (.ref l), x] ∧ H' l = some (.lst (acc.map V.str)) ∧ Same H H' ∧ chkNames (xs.drop i) acc = chkNames xs [] ∧ acc.length ≤ i)
        ⟨[], none, rfl, upd_same, Same.upd_new hl, rfl, Nat.le_refl _⟩ (fun i σ H' _ ⟨_, _, _, _, s1, _⟩ => Same.seq s1 hp) ?_ ?_⟩⟩
      · rintro i v σ H1 H2 hi ⟨acc, x, rfl, hL, s1, hc, ha⟩ ⟨rfl, hv⟩
        have hd : xs.drop i = v :: xs.drop (i + 1) := by
          rw [List.drop_eq_getElem_cons hi]
          have q := (List.getElem?_eq_some_iff.mp hv).2
          rw [q]
        rw [hd] at hc
        refine ⟨_, rfl, _, rfl, v, l, acc, rfl, (hx v (List.mem_of_getElem? hv)).of s1, hL, fun H3 s3 hn => ?_, fun e he => ?_⟩
        · obtain ⟨z, rfl, _, _⟩ := chkNew_none hn
          refine ⟨_, rfl, .inl ⟨rfl, _, SqL.of (s3 _ _ hL)⟩, _, rfl, l, _, _, rfl, rfl, s3 _ _ hL, ?_, ?_⟩
          · rw [List.length_map]
            exact small1000 (by omega)
          · refine ⟨acc ++ [z], _, rfl, ?_, fun b o e => ?_, ?_, ?_⟩
            · rw [upd_same, List.map_append]; rfl
            · rw [upd_ne (ne_of_none e hl)]
              exact s3 _ _ (s1 _ _ e)
            · rw [← hc, chkNames, hn]
              rfl
            · rw [List.length_append]
              simp
              omega
        · have hce : chkNames xs [] = .error e := by rw [← hc, chkNames, he]
          exact Out.of s1 (kx e hce)
      · rintro σ H1 ⟨acc, x, rfl, hL, s1, hc, ha⟩
        rw [List.drop_length] at hc
        refine ⟨_, rfl, l, _, rfl, .inl ⟨SqL.of hL, fun t ht => ?_⟩⟩
        exact k acc hc.symm _ t (s1.trans (Same.upd_new ht)) (s1.free ht) upd_same
    · refine ⟨_, pss_cons (ps_set (i := 1) scDistinct.nd rfl (Or.inl rfl) (pe_lst pa_nil)) (pss_cons (ps_for (passes_of rfl) rfl (pi_tup (pv 0)) (pg_name (i := 2) scDistinct.nd rfl (Or.inl rfl))
        (pss_cons (ps_expr (pe_call GN hr4 (by rfl) mN kN bN .nil (L2N.passes_call (L2N.takes_of rfl rfl rfl rfl) (fun _ _ _ _ h => h)) (pa_cons (pv 2) (pa_cons (pv 1) pa_nil))))
        (pss_one (ps_expr (pe_bm PySem.F.plainAttrs_list PySem.F.slot_list_append PySem.F.type_list_append mt_append (pv 1) (pa_cons (pv 2) pa_nil))))))
        (pss_one (ps_ret (pe_callTy call_tuple_of (by rfl) mT (by decide +kernel) (pa_cons (pv 1) pa_nil))))), ?_⟩
      refine ⟨Nat.zero_le _, fun l hl => ⟨_, rfl, p, rfl, ⟨_, Same.tup (Same.upd_new hl) hp⟩, for_it (walk_tup (K := K) (a := p) (xs := xs)) (fun i σ H' => ∃ (acc : List Str) (x : Option V), σ = [some (.ref p), some (.ref l), x] ∧ H' l = some (.lst (acc.map V.str)) ∧ Same H H' ∧ chkNames (xs.drop i) acc = chkNames xs [] ∧ acc.length ≤ i)
        ⟨[], none, rfl, upd_same, Same.upd_new hl, rfl, Nat.le_refl _⟩ (fun i σ H' _ ⟨_, _, _, _, s1, _⟩ => Same.tup s1 hp) ?_ ?_⟩⟩
      · rintro i v σ H1 H2 hi ⟨acc, x, rfl, hL, s1, hc, ha⟩ ⟨rfl, hv⟩
        have hd : xs.drop i = v :: xs.drop (i + 1) := by
          rw [List.drop_eq_getElem_cons hi]
          have q := (List.getElem?_eq_some_iff.mp hv).2
          rw [q]
        rw [hd] at hc
        refine ⟨_, rfl, _, rfl, v, l, acc, rfl, (hx v (List.mem_of_getElem? hv)).of s1, hL, fun H3 s3 hn => ?_, fun e he => ?_⟩
        · obtain ⟨z, rfl, _, _⟩ := chkNew_none hn
          refine ⟨_, rfl, .inl ⟨rfl, _, SqL.of (s3 _ _ hL)⟩, _, rfl, l, _, _, rfl, rfl, s3 _ _ hL, ?_, ?_⟩
          · rw [List.length_map]
            exact small1000 (by omega)
          · refine ⟨acc ++ [z], _, rfl, ?_, fun b o e => ?_, ?_, ?_⟩
            · rw [upd_same, List.map_append]; rfl
            · rw [upd_ne (ne_of_none e hl)]
              exact s3 _ _ (s1 _ _ e)
            · rw [← hc, chkNames, hn]
              rfl
            · rw [List.length_append]
              simp
              omega
        · have hce : chkNames xs [] = .error e := by rw [← hc, chkNames, he]
          exact Out.of s1 (kx e hce)
      · rintro σ H1 ⟨acc, x, rfl, hL, s1, hc, ha⟩
        rw [List.drop_length] at hc
        refine ⟨_, rfl, l, _, rfl, .inl ⟨SqL.of hL, fun t ht => ?_⟩⟩
        exact k acc hc.symm _ t (s1.trans (Same.upd_new ht)) (s1.free ht) upd_same
end
end Dl

namespace Dl
open PySem L2
/-- the shown lamps: known ones, none of them twice -/
def chkShown : List V → List Str → List Str → Option Er
  | [], _, _ => none
  | v :: r, es, prev => if knows v es then (if strOf v ∈ prev then some (.dup v) else chkShown r es (prev ++ [strOf v])) else some (.unk v)
theorem knows_str {v : V} {es : List Str} (h : knows v es = true) : ∃ z, v = .str z ∧ z ∈ es := by
  cases v with
  | str z => exact ⟨z, rfl, of_decide_eq_true h⟩
  | _ => cases h
def spShown (K : PySem.W.Frag) (C : Cs) : Sp := fun vs H Q E => ∃ (p q : Addr) (xs : List V) (es : List Str), vs = [.ref p, .ref q] ∧ SqL K H p xs ∧ (∀ v ∈ xs, NmOk H v) ∧ xs.length ≤ 1000 ∧ SqT K H q (es.map V.str) ∧
  (∀ H', chkShown xs es [] = none → Same H H' → Q .non H') ∧ ∀ e, chkShown xs es [] = some e → Out C H E e
theorem cut_take (xs : List V) (i : Nat) : cutV xs none (some (i : Int)) = xs.take i := by
  unfold cutV
  rw [HT.sIx_nat, HT.sIx_none]
  simp only [List.drop_zero, Nat.sub_zero]
  by_cases h : i ≤ xs.length
  · rw [Nat.min_eq_left h]
  · rw [Nat.min_eq_right (by omega), List.take_of_length_le (by omega), List.take_of_length_le (by omega)]
section
variable {P : Program} {w : World} {K : PySem.W.Frag} {mg : Str → Option Value} {base : Heap} {C : Cs}
theorem scCheckShown : FnScope ["shown", "lamps", "at", "lamp"] ["shown", "lamps"] (defScope sCheckShown) := ⟨rfl, rfl, rfl, by decide +kernel, rfl, by decide +kernel, by decide +kernel⟩
theorem ok_shown {f : Addr} {fd : FuncData} (F : Fun K "_check_shown" "_check_shown" sCheckShown f fd) (mE : mg "enumerate" = none) (gN : Dfn P w K mg base (L2N.CX P w) 4 "check_known" ["name", "names"] (spKnown K C)) (xD : Ex P w K mg base "DuplicateName" "name" C.dup) :
    FnOk P w K mg base (L2N.CX P w) 6 f fd ["shown", "lamps"] (spShown K C) := by
  obtain ⟨fN, dN, mN, kN, bN, GN⟩ := gN
  obtain ⟨fD, dD, TD, bD, GD⟩ := xD
  refine okN F scCheckShown (fun vs H Q E h => ?_) (fun cdv A outer s H vs Q E hr h => ?_)
  · obtain ⟨b, n, xs, es, rfl, _⟩ := h
    rfl
  · obtain ⟨p, q, xs, es, rfl, hp, hx, hlen, hq, k, kx⟩ := h
    have hr4 : Room 4 _ := hr.mono (by decide)
    have hr2 : Room 2 _ := hr.mono (by decide)
    refine ⟨_, pss_one (ps_for (passes_of rfl) rfl (pi_enum (by rfl) mE (pa_cons (pv 0) pa_nil)) (pg_tup rfl (pgs_cons (pg_name (i := 2) scCheckShown.nd rfl (Or.inl rfl)) (pgs_cons (pg_name (i := 3) scCheckShown.nd rfl (Or.inl rfl)) pgs_nil)))
        (pss_cons (ps_expr (pe_call GN hr4 (by rfl) mN kN bN .nil (L2N.passes_call (L2N.takes_of rfl rfl rfl rfl) (fun _ _ _ _ h => h)) (pa_cons (pv 3) (pa_cons (pv 1) pa_nil))))
        (pss_one (ps_if (pt_cmpR op_in_seq (pv 3) (pe_slice sl_list (pv 0) po_none (po_some (pv 2))) (by rfl))
          (pss_one (L2N.ps_raise rfl (L2N.takes_of rfl rfl rfl rfl) (pmkN TD.oex TD.iC TD.tI GD hr2 bD pass0 (by rfl) TD.gC (pa_cons (pv 3) pa_nil)))) pss_nil)))), ?_⟩
    refine ⟨_, rfl, p, xs, rfl, hp, for_it (walk_enum (K := K) (a := p) (xs := xs)) (fun i σ H' => ∃ (x y : Option V) (prev : List Str), σ = [some (.ref p), some (.ref q), x, y] ∧ Same H H' ∧ xs.take i = prev.map V.str ∧ chkShown (xs.drop i) es prev = chkShown xs es [])
      ⟨none, none, [], rfl, Same.refl H, rfl, rfl⟩ (fun i σ H' _ ⟨_, _, _, _, s1, _⟩ => Same.seq s1 hp) ?_ ?_⟩
    · rintro i v σ H1 H2 hi ⟨x, y, prev, rfl, s1, ht, hc⟩ ⟨T, a, v, rfl, hT, rfl, ea, hv⟩
      cases ea
      have hd : xs.drop i = v :: xs.drop (i + 1) := by
        rw [List.drop_eq_getElem_cons hi]
        have q := (List.getElem?_eq_some_iff.mp hv).2
        rw [q]
      rw [hd] at hc
      have s2 : Same H (upd H1 T (.tup [.int (i : Nat), v])) := s1.trans (Same.upd_new hT)
      refine ⟨T, _, rfl, SqT.of upd_same, rfl, _, _, rfl, _, _, rfl, rfl, ?_⟩
      refine ⟨_, rfl, _, rfl, v, q, es, rfl, (hx v (List.mem_of_getElem? hv)).of s2, Same.tup s2 hq, fun hk => ?_, fun hk => ?_⟩
      · obtain ⟨z, rfl, hz⟩ := knows_str hk
        refine ⟨_, rfl, _, rfl, _, rfl, (i : Int), rfl, p, xs, rfl, Same.seq s2 hp, fun l hl => ?_⟩
        have hl' : (upd H1 T (.tup [.int (i : Nat), V.str z])) l = none := hl
        refine ⟨l, _, rfl, .inl (SqL.of upd_same), rfl, ?_, _, rfl, ?_⟩
        · rw [cut_take, ht]
          exact flat_strs prev
        · show if (inV (.str z) (cutV xs none (some (i : Int)))) = true then _ else _
          rw [cut_take, ht, inV_str]
          by_cases hm : z ∈ prev
          · rw [decide_eq_true hm]
            refine iteT (⟨_, rfl, raise_end ?_⟩)
            have hce : chkShown xs es [] = some (.dup (.str z)) := by
              rw [← hc, chkShown, if_pos hk, if_pos (show strOf (.str z) ∈ prev from hm)]
            exact Out.of (e := .dup (.str z)) (s2.trans (Same.upd_new hl')) (kx _ hce)
          · rw [decide_eq_false hm]
            refine iteF ?_
            refine ⟨_, _, prev ++ [z], rfl, s2.trans (Same.upd_new hl'), ?_, ?_⟩
            · have hv2 : xs[i]? = some (V.str z) := hv
              rw [List.take_succ, ht, hv2, List.map_append]
              rfl
            · rw [← hc, chkShown, if_pos hk, if_neg (show ¬ strOf (.str z) ∈ prev from hm)]
              rfl
      · have hce : chkShown xs es [] = some (.unk v) := by
          rw [← hc, chkShown, if_neg (by rw [hk]; decide)]
        exact Out1.of s2 (kx _ hce)
    · rintro σ H1 ⟨x, y, prev, rfl, s1, ht, hc⟩
      rw [List.drop_length] at hc
      exact k H1 hc.symm s1
end
end Dl

namespace Dl
open PySem PySem.Spec PyProof.Rows L2
/-! enumerate(t) of a tuple: my own rule -/
theorem enum_new_tup (l : Addr) (items : Array Value) (n : Nat) (dct : Option Addr) (sl : Array (Option Value)) :
    Meets (Builtin.«enumerate.__new__» ⟨[.type "enumerate", .ref l], []⟩) (fun _ R s => s.heap.get? l = some { cls := .type "tuple", dict := dct, data := .seq items n, slots := sl } ∧
      R (.ok (.ret (.ref (s.heap.push { cls := .type "tuple_iterator", data := .fields #[.ref l, .int 0 0] }).objs.size)))
        { s with heap := (s.heap.push { cls := .type "tuple_iterator", data := .fields #[.ref l, .int 0 0] }).push { cls := .type "enumerate", data := .fields #[.none, .bool false, .ref s.heap.objs.size, rawInt 0, .none, .none] } }) :=
  .of_wp fun prog w A R s h => by
    obtain ⟨hp, g, d, tk, os⟩ := s
    obtain ⟨hl, h⟩ := h
    have hsub := sub_enumerate
    have hT : Heap.IsTuple (Shared.heap ⟨hp, g, d, tk, os⟩) l items := ⟨_, hl, rfl, n, rfl⟩
    wp_walk using AutoSeq1.wpAny_loadPart' hl
    refine wpAny_stack_any fun st => wpAny_pure ?_
    split
    · rename_i c _ _ _ _ _
      cases (c == Value.type "enumerate") <;>
        (wp_walk using AutoSeq1.wpAny_loadPart' hl, wpAny_pyIter_tuple hT
         exact ⟨_, rfl, h⟩)
    · wp_walk using AutoSeq1.wpAny_loadPart' hl, wpAny_pyIter_tuple hT
      exact ⟨_, rfl, h⟩
end Dl
namespace Dl
open PySem PySem.Spec PyProof.Rows L2
section
variable {prog : Program} {w : World} {A : Around} {E : Value → Shared → Prop} {s : Shared}
theorem call_enum_tup {l : Addr} {items : Array Value} {Q : Value → Shared → Prop} (hL : s.heap.IsTuple l items)
    (h : ∀ h', IsEnum h' (s.heap.objs.size + 1) s.heap.objs.size 0 .none → h'.IsTupleIter s.heap.objs.size l 0 → h'.objs.size = s.heap.objs.size + 2 →
      (∀ b o, s.heap.get? b = some o → h'.get? b = some o) → Q (.ref (s.heap.objs.size + 1)) { s with heap := h' }) :
    wpAny (model prog w) A (call (.type "enumerate") [.ref l]) Q E s := by
  obtain ⟨⟨c, dct, dt, sl⟩, hl, hc, n, hd⟩ := hL
  have hc' : c = .type "tuple" := hc
  have hd' : dt = .seq items n := hd
  subst hc' hd'
  refine callType_new F.called_enumerate (by decide) (F.typeCall_enumerate_1 _) (F.newCall_enumerate_1 _) (fun obj => F.args_object_init_2 obj _) F.entry_enumerate_new (enum_new_tup l items n dct sl) ⟨hl, ?_⟩
  generalize hp1 : s.heap.push { cls := .type "tuple_iterator", data := .fields #[.ref l, .int 0 0] } = h1
  have hz : h1.objs.size = s.heap.objs.size + 1 := by rw [← hp1]; exact Heap.size_push ..
  show _ ∧ _
  rw [hz]
  generalize hp2 : h1.push { cls := .type "enumerate", data := .fields #[.none, .bool false, .ref s.heap.objs.size, rawInt 0, .none, .none] } = h2
  have he : IsEnum h2 (s.heap.objs.size + 1) s.heap.objs.size 0 .none := by
    have q := Heap.get?_push_size h1 (o := { cls := .type "enumerate", data := .fields #[.none, .bool false, .ref s.heap.objs.size, rawInt 0, .none, .none] }) rfl
    rw [hz, hp2] at q
    exact q
  have up1 : ∀ b o, s.heap.get? b = some o → h1.get? b = some o := fun b o x => by rw [← hp1]; exact Heap.get?_push_of_some _ x
  have up2 : ∀ b o, h1.get? b = some o → h2.get? b = some o := fun b o x => by rw [← hp2]; exact Heap.get?_push_of_some _ x
  have it1 : h1.get? s.heap.objs.size = some { cls := .type "tuple_iterator", data := .fields #[.ref l, .int 0 0] } := by rw [← hp1]; exact Heap.get?_push_size _ rfl
  exact ⟨⟨_, he, rfl⟩, h _ he ⟨_, up2 _ _ it1, rfl, rfl⟩ (by rw [← hp2, Heap.size_push, hz]) fun b o x => up2 _ _ (up1 _ _ x)⟩
end
/-- the tuple at a, each item in a new pair with its number -/
def IteT (K : PySem.W.Frag) (a : Addr) : It :=
  ⟨fun i H => ∃ (xs : List V) (x : V), SqT K H a xs ∧ xs[i]? = some x, fun i H v H' => ∃ T x, v = .ref T ∧ H T = none ∧ H' = upd H T (.tup [.int (i : Nat), x]) ∧ ∀ xs, SqT K H a xs → xs[i]? = some x, fun i H => ∃ xs : List V, SqT K H a xs ∧ xs.length = i⟩
theorem turn_enumT {P : Program} {w : World} {K : PySem.W.Frag} {elts : List Expr} {kk : Nat} {tpos : Pos} (a e it : Addr) :
    Turn P w K (.Tuple elts kk tpos) (IteT K a) [e, it] e (fun i h => (∃ old, IsEnum h e it ((i : Nat) : Int) old) ∧ h.IsTupleIter it a i ∧ e ≠ it) where
  mem := by simp
  obj := fun i h st b hb => by
    obtain ⟨⟨old, he⟩, ⟨o, ho, hc, hd⟩, _⟩ := st
    have two : b = e ∨ b = it := by simpa using hb
    rcases two with rfl | rfl
    · exact ⟨_, he, fun v q => nomatch q⟩
    · exact ⟨o, ho, fun v q => by rw [hd] at q; cases q⟩
  keep := fun i h h' st k => by
    obtain ⟨⟨old, he⟩, hi, hne⟩ := st
    exact ⟨⟨old, k e (by simp) _ he⟩, hi.at fun o q => k it (by simp) o q, hne⟩
  item := by
    intro X hP hw hK hc i pins s σ H E I hf st hg
    subst hP hw hK
    obtain ⟨⟨old, he⟩, hit, hne⟩ := st
    obtain ⟨xs, x, hq, hx⟩ := hg
    obtain ⟨its, rv, p, hz⟩ := I.tuple hq
    have hp : s.heap.IsTuple a its.toArray := p
    obtain ⟨u, hu, ru⟩ := rv.get hx
    have hel : e < s.heap.objs.size := Heap.lt_size he
    have hil : it < s.heap.objs.size := by obtain ⟨_, q, _⟩ := hit; exact Heap.lt_size q
    have nai : a ≠ it := fun z => by
      obtain ⟨o1, q1, c1, _⟩ := hp
      obtain ⟨o2, q2, c2, _⟩ := hit
      rw [z, q2] at q1
      cases q1
      rw [c2] at c1
      exact absurd c1 (by decide)
    have nea : e ≠ a := fun z => by
      obtain ⟨o1, q1, c1, _⟩ := hp
      have q2 := he
      rw [z] at q2
      have q3 := q1.symm.trans q2
      cases q3
      have c2 : Value.type "enumerate" = Value.type "tuple" := c1
      exact absurd c2 (by decide)
    have hi : i < its.toArray.size := by
      have := (List.getElem?_eq_some_iff.mp hu).1
      simpa using this
    refine wpAny_pyNext_enum_itemC (Draws.tuple (prog := X.prog) (w := X.w) (A := X.A.in1) (show X.A.in1.handled = none from I.ok.hd hc) it a nai its.toArray) he ⟨hit, hp⟩ hi hne (by simp [hne, nea]) fun y h' tk hy ho st' hT hsz hk => ?_
    have ey : y = u := by
      have q : its.toArray[i]? = some y := hy
      rw [List.getElem?_toArray, hu] at q
      exact (Option.some.inj q).symm
    subst ey
    refine ⟨_, rfl, wpAny_letOwnedTupleGo_enum (s := { s with heap := h', toks := tk + 1 }) ho fun h'' he' sb => ?_⟩
    have hT2 : h''.get? s.heap.objs.size = some { cls := .type "tuple", data := .seq #[.int i tk, y] } := (sb.2 _ (Nat.ne_of_gt hel)).trans hT
    have new : ObjOk X.prog X.w (upd H s.heap.objs.size (.tup [.int (i : Nat), x])) h'' s.heap.objs.size (.tup [.int (i : Nat), x]) :=
      ⟨by show 2 ≤ sizeLine; decide, [.int i tk, y], .cons ⟨_, rfl⟩ (.cons ru .nil), ⟨_, hT2, rfl, _, rfl⟩⟩
    have I1 : Inv X pins σ (upd H s.heap.objs.size (.tup [.int (i : Nat), x])) { s with heap := h'', toks := tk + 1 } :=
      I.turnedNew (t' := tk + 1) (ch := [e, it]) (fun b ob hb q => (sb.2 b (fun z => hb (by simp [z]))).trans (hk b ob (fun z => hb (by simp [z])) (fun z => hb (by simp [z])) q)) hf (Nat.le_refl _) new
    refine ⟨.ref s.heap.objs.size, _, I1, rfl, ⟨_, x, rfl, I.hok.fresh (Nat.le_refl _), rfl, fun ys hys => by rw [I.tuple_inj hys hq]; exact hx⟩, ⟨⟨y, ?_⟩, st'.1.at fun o q => (sb.2 it (Ne.symm hne)).trans q, hne⟩, fun b hb => ?_⟩
    · have e1 : ((i + 1 : Nat) : Int) = (i : Int) + 1 := by omega
      rw [e1]
      exact he'
    · have lt : b < s.heap.objs.size := by
        have two : b = e ∨ b = it := by simpa using hb
        rcases two with rfl | rfl
        · exact hel
        · exact hil
      rw [upd_ne (Nat.ne_of_lt lt)]
      exact (hf b hb).1
  done := by
    intro X hP hw hK hc i pins s σ H E I hf st hg
    subst hP hw hK
    obtain ⟨⟨old, he⟩, hit, hne⟩ := st
    obtain ⟨xs, hq, hx⟩ := hg
    obtain ⟨its, rv, p, hz⟩ := I.tuple hq
    have hp : s.heap.IsTuple a its.toArray := p
    obtain ⟨f0, f1, f2, f3, f4, f5⟩ := hf it (by simp)
    have nai : a ≠ it := fun z => by
      obtain ⟨o1, q1, c1, _⟩ := hp
      obtain ⟨o2, q2, c2, _⟩ := hit
      rw [z, q2] at q1
      cases q1
      rw [c2] at c1
      exact absurd c1 (by decide)
    have hl : its.toArray.size = i := by
      have := rv.length
      simp
      omega
    exact wpAny_pyNext_enum_endD (Draws.tuple (prog := X.prog) (w := X.w) (A := X.A.in1) (show X.A.in1.handled = none from I.ok.hd hc) it a nai its.toArray) he ⟨by rw [hl]; exact hit, hp⟩ fun h' eb => ⟨rfl, I.turned (t' := s.toks) (fun b o hb q => eb b o hb q) f0 f1 f3 f4 f5⟩
  self := fun A i s Q E st h => let ⟨⟨_, he⟩, _⟩ := st; wpAny_pyIter_enum he h
def iEnumT (K : PySem.W.Frag) (ta : TA) : TI := fun σ H R => ta σ H fun vs H1 => ∃ a xs, vs = [.ref a] ∧ SqT K H1 a xs ∧ R (IteT K a) H1
theorem pi_enumT {X : Cx} {e : Expr} {ta : TA} {p pos tpos : Pos} {elts : List Expr} {kk : Nat} (hg : Gl X "enumerate") (hm : X.mg "enumerate" = none) (ha : PA X [e] ta) (hs : starEach [e] X.env = [(false, eval e X.env)] := by rfl) :
    PI X (.Tuple elts kk tpos) (.Call (.Name "enumerate" p) [e] [] pos) (iEnumT X.K ta) := by
  constructor
  intro pins s σ H R I h
  refine Call_ ?_
  refine ld_blt I hg hm boot_enumerate ?_
  apply PyProof.Rows.callWith_type1 _ hs rfl
  apply thn (ha.run pos pins s σ H _ I h)
  rintro us s1 ⟨vs, H1, I1, r1, a, xs, rfl, hq, q⟩
  obtain ⟨u, rfl, ru⟩ := vals1 r1
  cases ru
  obtain ⟨its, rv, p', hz⟩ := I1.tuple hq
  refine call_enum_tup (show s1.heap.IsTuple a its.toArray from p') fun h' he hit hsz hk => wpAny_pyIter_enum he ?_
  have I2 : Inv X pins σ H1 { s1 with heap := h' } := I1.kept (t' := s1.toks) hk
  refine ⟨s1.heap.objs.size + 1, [s1.heap.objs.size + 1, s1.heap.objs.size], _, _, H1, rfl, I2, turn_enumT a (s1.heap.objs.size + 1) s1.heap.objs.size, ⟨⟨.none, he⟩, hit, Nat.succ_ne_self _⟩, fun b hb => ?_, q⟩
  have hle : s1.heap.objs.size ≤ b := by
    have two : b = s1.heap.objs.size + 1 ∨ b = s1.heap.objs.size := by simpa using hb
    rcases two with z | z
    · rw [z]; exact Nat.le_add_right _ _
    · rw [z]; exact Nat.le_refl _
  exact I1.fpOk hle (I1.hok.fresh hle)
theorem walk_enumT {K : PySem.W.Frag} {a : Addr} {xs : List V} : Walk (IteT K a) xs.length (fun H => SqT K H a xs) (YPair (fun i => some (.int (i : Nat))) (fun i => xs[i]?)) := by
  constructor
  · intro i H hi q
    exact ⟨xs, xs[i], q, by simp [hi]⟩
  · intro H q
    exact ⟨xs, q, rfl⟩
  · rintro i H v H' _ q ⟨T, x, h1, h2, h3, h4⟩
    exact ⟨T, .int (i : Nat), x, h1, h2, h3, rfl, h4 xs q⟩
end Dl

namespace Dl
open PySem L2
def spShown2 (K : PySem.W.Frag) (C : Cs) : Sp := fun vs H Q E => ∃ (p q : Addr) (xs : List V) (es : List Str), vs = [.ref p, .ref q] ∧ (SqL K H p xs ∨ SqT K H p xs) ∧ (∀ v ∈ xs, NmOk H v) ∧ xs.length ≤ 1000 ∧ SqT K H q (es.map V.str) ∧
  (∀ H', chkShown xs es [] = none → Same H H' → Q .non H') ∧ ∀ e, chkShown xs es [] = some e → Out C H E e
section
variable {P : Program} {w : World} {K : PySem.W.Frag} {mg : Str → Option Value} {base : Heap} {C : Cs}
theorem ok_shown2 {f : Addr} {fd : FuncData} (F : Fun K "_check_shown" "_check_shown" sCheckShown f fd) (mE : mg "enumerate" = none) (gN : Dfn P w K mg base (L2N.CX P w) 4 "check_known" ["name", "names"] (spKnown K C)) (xD : Ex P w K mg base "DuplicateName" "name" C.dup) :
    FnOk P w K mg base (L2N.CX P w) 6 f fd ["shown", "lamps"] (spShown2 K C) := by
  obtain ⟨fN, dN, mN, kN, bN, GN⟩ := gN
  obtain ⟨fD, dD, TD, bD, GD⟩ := xD
  refine okN F scCheckShown (fun vs H Q E h => ?_) (fun cdv A outer s H vs Q E hr h => ?_)
  · obtain ⟨b, n, xs, es, rfl, _⟩ := h
    rfl
  · obtain ⟨p, q, xs, es, rfl, hp, hx, hlen, hq, k, kx⟩ := h
    have hr4 : Room 4 _ := hr.mono (by decide)
    have hr2 : Room 2 _ := hr.mono (by decide)
    rcases hp with hp | hp
    · refine ⟨_, pss_one (ps_for (passes_of rfl) rfl (pi_enum (by rfl) mE (pa_cons (pv 0) pa_nil)) (pg_tup rfl (pgs_cons (pg_name (i := 2) scCheckShown.nd rfl (Or.inl rfl)) (pgs_cons (pg_name (i := 3) scCheckShown.nd rfl (Or.inl rfl)) pgs_nil)))
          (pss_cons (ps_expr (pe_call GN hr4 (by rfl) mN kN bN .nil (L2N.passes_call (L2N.takes_of rfl rfl rfl rfl) (fun _ _ _ _ h => h)) (pa_cons (pv 3) (pa_cons (pv 1) pa_nil))))
          (pss_one (ps_if (pt_cmpR op_in_seq (pv 3) (pe_slice sl_list (pv 0) po_none (po_some (pv 2))) (by rfl))
            (pss_one (L2N.ps_raise rfl (L2N.takes_of rfl rfl rfl rfl) (pmkN TD.oex TD.iC TD.tI GD hr2 bD pass0 (by rfl) TD.gC (pa_cons (pv 3) pa_nil)))) pss_nil)))), ?_⟩
      refine ⟨_, rfl, p, xs, rfl, hp, for_it (walk_enum (K := K) (a := p) (xs := xs)) (fun i σ H' => ∃ (x y : Option V) (prev : List Str), σ = [some (.ref p), some (.ref q), x, y] ∧ Same H H' ∧ xs.take i = prev.map V.str ∧ chkShown (xs.drop i) es prev = chkShown xs es [])
        ⟨none, none, [], rfl, Same.refl H, rfl, rfl⟩ (fun i σ H' _ ⟨_, _, _, _, s1, _⟩ => Same.seq s1 hp) ?_ ?_⟩
      · rintro i v σ H1 H2 hi ⟨x, y, prev, rfl, s1, ht, hc⟩ ⟨T, a, v, rfl, hT, rfl, ea, hv⟩
        cases ea
        have hd : xs.drop i = v :: xs.drop (i + 1) := by
          rw [List.drop_eq_getElem_cons hi]
          have q := (List.getElem?_eq_some_iff.mp hv).2
          rw [q]
        rw [hd] at hc
        have s2 : Same H (upd H1 T (.tup [.int (i : Nat), v])) := s1.trans (Same.upd_new hT)
        refine ⟨T, _, rfl, SqT.of upd_same, rfl, _, _, rfl, _, _, rfl, rfl, ?_⟩
        refine ⟨_, rfl, _, rfl, v, q, es, rfl, (hx v (List.mem_of_getElem? hv)).of s2, Same.tup s2 hq, fun hk => ?_, fun hk => ?_⟩
        · obtain ⟨z, rfl, hz⟩ := knows_str hk
          refine ⟨_, rfl, _, rfl, _, rfl, (i : Int), rfl, p, xs, rfl, Same.seq s2 hp, fun l hl => ?_⟩
          have hl' : (upd H1 T (.tup [.int (i : Nat), V.str z])) l = none := hl
          refine ⟨l, _, rfl, .inl (SqL.of upd_same), rfl, ?_, _, rfl, ?_⟩
          · rw [cut_take, ht]
            exact flat_strs prev
          · show if (inV (.str z) (cutV xs none (some (i : Int)))) = true then _ else _
            rw [cut_take, ht, inV_str]
            by_cases hm : z ∈ prev
            · rw [decide_eq_true hm]
              refine iteT (⟨_, rfl, raise_end ?_⟩)
              have hce : chkShown xs es [] = some (.dup (.str z)) := by
                rw [← hc, chkShown, if_pos hk, if_pos (show strOf (.str z) ∈ prev from hm)]
              exact Out.of (e := .dup (.str z)) (s2.trans (Same.upd_new hl')) (kx _ hce)
            · rw [decide_eq_false hm]
              refine iteF ?_
              refine ⟨_, _, prev ++ [z], rfl, s2.trans (Same.upd_new hl'), ?_, ?_⟩
              · have hv2 : xs[i]? = some (V.str z) := hv
                rw [List.take_succ, ht, hv2, List.map_append]
                rfl
              · rw [← hc, chkShown, if_pos hk, if_neg (show ¬ strOf (.str z) ∈ prev from hm)]
                rfl
        · have hce : chkShown xs es [] = some (.unk v) := by
            rw [← hc, chkShown, if_neg (by rw [hk]; decide)]
          exact Out1.of s2 (kx _ hce)
      · rintro σ H1 ⟨x, y, prev, rfl, s1, ht, hc⟩
        rw [List.drop_length] at hc
        exact k H1 hc.symm s1
    · refine ⟨_, pss_one (ps_for (passes_of rfl) rfl (pi_enumT (by rfl) mE (pa_cons (pv 0) pa_nil)) (pg_tup rfl (pgs_cons (pg_name (i := 2) scCheckShown.nd rfl (Or.inl rfl)) (pgs_cons (pg_name (i := 3) scCheckShown.nd rfl (Or.inl rfl)) pgs_nil)))
          (pss_cons (ps_expr (pe_call GN hr4 (by rfl) mN kN bN .nil (L2N.passes_call (L2N.takes_of rfl rfl rfl rfl) (fun _ _ _ _ h => h)) (pa_cons (pv 3) (pa_cons (pv 1) pa_nil))))
          (pss_one (ps_if (pt_cmpR op_in_seq (pv 3) (pe_slice sl_tup (pv 0) po_none (po_some (pv 2))) (by rfl))
            (pss_one (L2N.ps_raise rfl (L2N.takes_of rfl rfl rfl rfl) (pmkN TD.oex TD.iC TD.tI GD hr2 bD pass0 (by rfl) TD.gC (pa_cons (pv 3) pa_nil)))) pss_nil)))), ?_⟩
      refine ⟨_, rfl, p, xs, rfl, hp, for_it (walk_enumT (K := K) (a := p) (xs := xs)) (fun i σ H' => ∃ (x y : Option V) (prev : List Str), σ = [some (.ref p), some (.ref q), x, y] ∧ Same H H' ∧ xs.take i = prev.map V.str ∧ chkShown (xs.drop i) es prev = chkShown xs es [])
        ⟨none, none, [], rfl, Same.refl H, rfl, rfl⟩ (fun i σ H' _ ⟨_, _, _, _, s1, _⟩ => Same.tup s1 hp) ?_ ?_⟩
      · rintro i v σ H1 H2 hi ⟨x, y, prev, rfl, s1, ht, hc⟩ ⟨T, a, v, rfl, hT, rfl, ea, hv⟩
        cases ea
        have hd : xs.drop i = v :: xs.drop (i + 1) := by
          rw [List.drop_eq_getElem_cons hi]
          have q := (List.getElem?_eq_some_iff.mp hv).2
          rw [q]
        rw [hd] at hc
        have s2 : Same H (upd H1 T (.tup [.int (i : Nat), v])) := s1.trans (Same.upd_new hT)
        refine ⟨T, _, rfl, SqT.of upd_same, rfl, _, _, rfl, _, _, rfl, rfl, ?_⟩
        refine ⟨_, rfl, _, rfl, v, q, es, rfl, (hx v (List.mem_of_getElem? hv)).of s2, Same.tup s2 hq, fun hk => ?_, fun hk => ?_⟩
        · obtain ⟨z, rfl, hz⟩ := knows_str hk
          have whole : ¬ (HT.sIx xs.length 0 none = 0 ∧ HT.sIx xs.length xs.length (some ((i : Nat) : Int)) = xs.length) := by
            rw [HT.sIx_nat]
            omega
          refine ⟨_, rfl, _, rfl, _, rfl, (i : Int), rfl, p, xs, rfl, Same.tup s2 hp, whole, fun l hl => ?_⟩
          have hl' : (upd H1 T (.tup [.int (i : Nat), V.str z])) l = none := hl
          refine ⟨l, _, rfl, .inr (SqT.of upd_same), rfl, ?_, _, rfl, ?_⟩
          · rw [cut_take, ht]
            exact flat_strs prev
          · show if (inV (.str z) (cutV xs none (some (i : Int)))) = true then _ else _
            rw [cut_take, ht, inV_str]
            by_cases hm : z ∈ prev
            · rw [decide_eq_true hm]
              refine iteT (⟨_, rfl, raise_end ?_⟩)
              have hce : chkShown xs es [] = some (.dup (.str z)) := by
                rw [← hc, chkShown, if_pos hk, if_pos (show strOf (.str z) ∈ prev from hm)]
              exact Out.of (e := .dup (.str z)) (s2.trans (Same.upd_new hl')) (kx _ hce)
            · rw [decide_eq_false hm]
              refine iteF ?_
              refine ⟨_, _, prev ++ [z], rfl, s2.trans (Same.upd_new hl'), ?_, ?_⟩
              · have hv2 : xs[i]? = some (V.str z) := hv
                rw [List.take_succ, ht, hv2, List.map_append]
                rfl
              · rw [← hc, chkShown, if_pos hk, if_neg (show ¬ strOf (.str z) ∈ prev from hm)]
                rfl
        · have hce : chkShown xs es [] = some (.unk v) := by
            rw [← hc, chkShown, if_neg (by rw [hk]; decide)]
          exact Out1.of s2 (kx _ hce)
      · rintro σ H1 ⟨x, y, prev, rfl, s1, ht, hc⟩
        rw [List.drop_length] at hc
        exact k H1 hc.symm s1
end
end Dl

namespace Dl
open PySem L2
def chosen (ns cs : List Str) : List Str := ns.filter fun z => decide (z ∈ cs)
def spChosen (K : PySem.W.Frag) : Sp := fun vs H Q _ => ∃ (p q : Addr) (ns cs : List Str), vs = [.ref p, .ref q] ∧ SqT K H p (ns.map V.str) ∧ (SqL K H q (cs.map V.str) ∨ SqT K H q (cs.map V.str)) ∧ ns.length ≤ 1000 ∧
  ∀ H' t, Same H H' → H t = none → H' t = some (.tup ((chosen ns cs).map V.str)) → Q (.ref t) H'
theorem Same.either {K : PySem.W.Frag} {H H' : Hp} {a : Addr} {xs : List V} (e : Same H H') (h : SqL K H a xs ∨ SqT K H a xs) : SqL K H' a xs ∨ SqT K H' a xs := h.imp (Same.seq e) (Same.tup e)
section
variable {P : Program} {w : World} {K : PySem.W.Frag} {mg : Str → Option Value} {base : Heap} {C : Cs}
theorem scChosen : FnScope ["names", "chosen", "name"] ["names", "chosen"] (defScope sChosen) := ⟨rfl, rfl, rfl, by decide +kernel, rfl, by decide +kernel, by decide +kernel⟩
theorem ok_chosen {f : Addr} {fd : FuncData} (F : Fun K "_chosen_of" "_chosen_of" sChosen f fd) (mT : mg "tuple" = none) : FnOk P w K mg base CX0 1 f fd ["names", "chosen"] (spChosen K) := by
  refine F.ok scChosen (fun vs H Q E h => ?_) (fun cdv A outer s H vs Q E hr h => ?_)
  · obtain ⟨b, n, xs, es, rfl, _⟩ := h
    rfl
  · obtain ⟨p, q, ns, cs, rfl, hp, hq, hlen, k⟩ := h
    refine ⟨_, pss_one (ps_ret (pe_callTy call_tuple_of (by rfl) mT (by decide +kernel) (pa_cons
      (pe_lc (own := [("name", 2)]) (g := gName 2) (tt := tTest (tOp (rIn K false) (tVar 2) (tVar 1))) rfl scChosen.nd (pi_tup (pv 0)) (blkOk_by (N := ["names", "chosen", "name"]) (sc := defScope sChosen) (by decide +kernel))
          (fun _ _ _ _ _ => pg_name (i := 2) scChosen.nd rfl (Or.inl rfl)) (fun _ _ _ _ _ => pts_one (pt_cmpR op_in_seq (pv 2) (pv 1) (by rfl))) (fun _ _ _ _ _ => pv 2)) pa_nil))), ?_⟩
    refine ⟨_, rfl, p, rfl, ⟨_, hp⟩, fun D hD => lc_it (walk_tup (K := K) (a := p) (xs := ns.map V.str)) (fun i H' => H' = upd H D (.lst ((chosen (ns.take i) cs).map V.str))) rfl (fun i H' _ e => by rw [e]; exact Same.tup (Same.upd_new hD) hp) ?_ ?_⟩
    · rintro i x H1 H2 hi rfl ⟨rfl, hx⟩
      rw [List.length_map] at hi
      have hx2 : (ns.map V.str)[i]? = some x := hx
      rw [List.getElem?_map] at hx2
      cases e : ns[i]? with
      | none => rw [e] at hx2; cases hx2
      | some z =>
      rw [e] at hx2
      obtain rfl : V.str z = x := Option.some.inj hx2
      have s1 : Same H (upd H D (.lst ((chosen (ns.take i) cs).map V.str))) := Same.upd_new hD
      have st : chosen (ns.take (i + 1)) cs = chosen (ns.take i) cs ++ (if decide (z ∈ cs) = true then [z] else []) := by
        unfold chosen
        rw [List.take_succ, e, List.filter_append]
        by_cases hz : z ∈ cs <;> simp [hz]
      refine ⟨rfl, _, rfl, _, rfl, q, _, rfl, Same.either s1 hq, rfl, flat_strs cs, inV (.str z) (cs.map V.str), rfl, ?_⟩
      rw [inV_str]
      by_cases hz : z ∈ cs
      · rw [decide_eq_true hz]
        refine iteT ⟨_, rfl, _, upd_same, ?_, ?_⟩
        · have q1 : (chosen (ns.take i) cs).length ≤ i := Nat.le_trans (List.length_filter_le _ _) (by rw [List.length_take]; omega)
          rw [List.length_map]
          exact small1000 (by omega)
        · rw [upd_upd, st, decide_eq_true hz, if_pos rfl, List.map_append]
          rfl
      · rw [decide_eq_false hz]
        refine iteF ?_
        rw [st, decide_eq_false hz, if_neg (by decide), List.append_nil]
    · rintro H1 rfl
      refine ⟨D, _, rfl, .inl ⟨SqL.of upd_same, fun t ht => ?_⟩⟩
      have ht' : (upd H D (.lst ((chosen (ns.take (ns.map V.str).length) cs).map V.str))) t = none := ht
      refine k _ t ((Same.upd_new hD).trans (Same.upd_new ht')) ((Same.upd_new hD).free ht') ?_
      rw [upd_same, List.length_map, List.take_length]
end
end Dl

namespace Dl
open PySem L2
/-! ### the fields of a table, in the order in which they are set -/
theorem ne_sl : ¬ (("_shown" : Str) = "lamps") := by decide +kernel
theorem ne_ls : ¬ (("lamps" : Str) = "_shown") := by decide +kernel
theorem ne_ll : ¬ (("lamps" : Str) = "looks") := by decide +kernel
theorem ne_l2 : ¬ (("looks" : Str) = "lamps") := by decide +kernel
theorem ne_sk : ¬ (("_shown" : Str) = "looks") := by decide +kernel
theorem ne_ks : ¬ (("looks" : Str) = "_shown") := by decide +kernel
def pf1 (a : V) : List (Str × V) := putF "lamps" a []
def pf2 (a b : V) : List (Str × V) := putF "_shown" b (pf1 a)
def pf3 (a b c : V) : List (Str × V) := putF "looks" c (pf2 a b)
theorem putF_length (f : Str) (v : V) : ∀ fs : List (Str × V), (putF f v fs).length ≤ fs.length + 1
  | [] => by simp [putF]
  | (g, x) :: r => by
    unfold putF
    by_cases h : g = f
    · rw [if_pos h]; simp
    · rw [if_neg h]
      have := putF_length f v r
      simp only [List.length_cons]; omega
theorem pf1_len (a : V) : (pf1 a).length ≤ 1 := putF_length _ _ _
theorem pf2_len (a b : V) : (pf2 a b).length ≤ 2 := Nat.le_trans (putF_length _ _ _) (Nat.succ_le_succ (pf1_len a))
theorem pf1_lamps (a : V) : (pf1 a).lookup ("lamps" : Str) = some a := by unfold pf1; rw [lookup_putF, if_pos rfl]
theorem pf2_lamps (a b : V) : (pf2 a b).lookup ("lamps" : Str) = some a := by unfold pf2; rw [lookup_putF, if_neg ne_ls, pf1_lamps]
theorem pf2_shown (a b : V) : (pf2 a b).lookup ("_shown" : Str) = some b := by unfold pf2; rw [lookup_putF, if_pos rfl]
theorem pf3_lamps (a b c : V) : (pf3 a b c).lookup ("lamps" : Str) = some a := by unfold pf3; rw [lookup_putF, if_neg ne_ll, pf2_lamps]
theorem pf3_shown (a b c : V) : (pf3 a b c).lookup ("_shown" : Str) = some b := by unfold pf3; rw [lookup_putF, if_neg ne_sk, pf2_shown]
theorem pf3_looks (a b c : V) : (pf3 a b c).lookup ("looks" : Str) = some c := by unfold pf3; rw [lookup_putF, if_pos rfl]
theorem pf3_no (a b c : V) {m : Str} (h1 : ¬ m = "lamps") (h2 : ¬ m = "_shown") (h3 : ¬ m = "looks") : (pf3 a b c).lookup m = none := by
  unfold pf3 pf2 pf1
  rw [lookup_putF, if_neg h3, lookup_putF, if_neg h2, lookup_putF, if_neg h1]
  rfl
/-! ### what a table holds -/
inductive RowsAt (H : Hp) : List (Str × List Str) → List (Key × V) → Prop
  | nil : RowsAt H [] []
  | cons {k : Str} {sh : List Str} {a : Addr} {r : List (Str × List Str)} {kvs : List (Key × V)} : H a = some (.tup (sh.map V.str)) → RowsAt H r kvs → RowsAt H ((k, sh) :: r) ((Sum.inr k, .ref a) :: kvs)
theorem RowsAt.keys {H : Hp} {rs : List (Str × List Str)} {kvs : List (Key × V)} (h : RowsAt H rs kvs) : kvs.map (·.1) = (rs.map (·.1)).map Sum.inr := by
  induction h with
  | nil => rfl
  | cons _ _ ih => rw [List.map_cons, List.map_cons, List.map_cons, ih]
theorem RowsAt.length {H : Hp} {rs : List (Str × List Str)} {kvs : List (Key × V)} (h : RowsAt H rs kvs) : kvs.length = rs.length := by
  have q := congrArg List.length h.keys
  rw [List.length_map, List.length_map, List.length_map] at q
  exact q
theorem RowsAt.of {H H' : Hp} {rs : List (Str × List Str)} {kvs : List (Key × V)} (s : ∀ b xs, H b = some (.tup xs) → H' b = some (.tup xs)) (h : RowsAt H rs kvs) : RowsAt H' rs kvs := by
  induction h with
  | nil => exact .nil
  | cons e _ ih => exact .cons (s _ _ e) ih
theorem RowsAt.snoc {H : Hp} {rs : List (Str × List Str)} {kvs : List (Key × V)} {k : Str} {sh : List Str} {a : Addr} (h : RowsAt H rs kvs) (e : H a = some (.tup (sh.map V.str))) : RowsAt H (rs ++ [(k, sh)]) (kvs ++ [(Sum.inr k, .ref a)]) := by
  induction h with
  | nil => exact .cons e .nil
  | cons e' _ ih => exact .cons e' ih
structure TableAt (C : Addr) (H : Hp) (p : Addr) (ls : List Str) (rs : List (Str × List Str)) : Prop where
  ex : ∃ (dx lt sd kt : Addr) (kvs : List (Key × V)), H p = some (.ins C dx (pf3 (.ref lt) (.ref sd) (.ref kt))) ∧ H lt = some (.tup (ls.map V.str)) ∧ H sd = some (.dK kvs) ∧ H kt = some (.tup ((rs.map (·.1)).map V.str)) ∧ RowsAt H rs kvs
/-- one look as it is passed: the pair's place, the name, the lamps' place, the lamps -/
structure RowIn where
  t : Addr
  look : V
  s : Addr
  xs : List V
structure RowOk (K : PySem.W.Frag) (H : Hp) (r : RowIn) : Prop where
  pair : SqT K H r.t [r.look, .ref r.s]
  name : NmOk H r.look
  lst : SqL K H r.s r.xs
  all : ∀ v ∈ r.xs, NmOk H v
  len : r.xs.length ≤ 1000
theorem RowOk.of {K : PySem.W.Frag} {H H' : Hp} {r : RowIn} (s : Same H H') (h : RowOk K H r) : RowOk K H' r :=
  ⟨Same.tup s h.pair, h.name.of s, Same.seq s h.lst, fun v hv => (h.all v hv).of s, h.len⟩
/-- the rows as the checks in order give them -/
def initRows (ls : List Str) : List (V × List V) → List (Str × List Str) → Except Er (List (Str × List Str))
  | [], acc => .ok acc
  | (k, xs) :: r, acc => match chkNew k (acc.map (·.1)) with
    | some e => .error e
    | none => match chkShown xs ls [] with
      | some e => .error e
      | none => initRows ls r (acc ++ [(strOf k, chosen ls (xs.map strOf))])
def initT (lamps : List V) (rows : List (V × List V)) : Except Er (List Str × List (Str × List Str)) :=
  if 24 < lamps.length ∨ 24 < rows.length then .error .many else
  match chkNames lamps [] with
  | .error e => .error e
  | .ok ls => match initRows ls rows [] with
    | .error e => .error e
    | .ok rs => .ok (ls, rs)
def RowIn.dat (r : RowIn) : V × List V := (r.look, r.xs)
def spTabInit (K : PySem.W.Frag) (CT : Addr) (C : Cs) : Sp := fun vs H Q E => ∃ (H0 : Hp) (p dx a b : Addr) (lamps : List V) (rows : List RowIn), vs = [.ref p, .ref a, .ref b] ∧ Same H0 H ∧ H0 p = none ∧ H p = some (.ins CT dx []) ∧
  (SqL K H0 a lamps ∨ SqT K H0 a lamps) ∧ (∀ v ∈ lamps, NmOk H0 v) ∧ lamps.length ≤ 1000 ∧ SqL K H0 b (rows.map fun r => V.ref r.t) ∧ (∀ r ∈ rows, RowOk K H0 r) ∧ rows.length ≤ 1000 ∧
  (∀ ls rs, initT lamps (rows.map RowIn.dat) = .ok (ls, rs) → ∀ H', Same H0 H' → TableAt CT H' p ls rs → Q .non H') ∧ ∀ e, initT lamps (rows.map RowIn.dat) = .error e → Out C H0 E e
structure TxtT (K : PySem.W.Frag) (mg : Str → Option Value) (CT : Addr) : Prop where
  cl : Cls K CT
  nL : NoAttr K CT "lamps"
  nK : NoAttr K CT "looks"
  nS : NoAttr K CT "_shown"
  len : mg "len" = none
  tup : mg "tuple" = none
  lim : ∃ t, mg "LIMIT" = some (.int 24 t)
theorem shown_strs' : ∀ {xs : List V} {ls prev : List Str}, chkShown xs ls prev = none → xs = (xs.map strOf).map V.str
  | [], _, _, _ => rfl
  | v :: r, ls, prev, h => by
    unfold chkShown at h
    by_cases hk : knows v ls = true
    · obtain ⟨z, rfl, hz⟩ := knows_str hk
      rw [if_pos hk] at h
      by_cases hm : strOf (.str z) ∈ prev
      · rw [if_pos hm] at h; cases h
      · rw [if_neg hm] at h
        rw [List.map_cons, List.map_cons, ← shown_strs' h]
        rfl
    · rw [if_neg hk] at h; cases h
theorem shown_strs {xs : List V} {ls : List Str} (h : chkShown xs ls [] = none) : xs = (xs.map strOf).map V.str := shown_strs' h
theorem names_len : ∀ {xs : List V} {acc es : List Str}, chkNames xs acc = .ok es → es.length = acc.length + xs.length
  | [], acc, es, h => by cases h; simp
  | v :: r, acc, es, h => by
    unfold chkNames at h
    cases e : chkNew v acc with
    | some q => rw [e] at h; cases h
    | none =>
      rw [e] at h
      have q := names_len h
      rw [List.length_append] at q
      simp at q ⊢
      omega
section
variable {P : Program} {w : World} {K : PySem.W.Frag} {mg : Str → Option Value} {base : Heap} {C : Cs} {CT : Addr}
theorem scTabInit : FnScope ["self", "lamps", "looks", "look", "shown"] ["self", "lamps", "looks"] (defScope sTabInit) := ⟨rfl, rfl, rfl, by decide +kernel, rfl, by decide +kernel, by decide +kernel⟩
theorem ok_tabinit {f : Addr} {fd : FuncData} (F : Fun K "__init__" "Table.__init__" sTabInit f fd) (T : TxtT K mg CT) (xM : Ex P w K mg base "TooMany" "limit" C.many)
    (gD : Dfn P w K mg base (L2N.CX P w) 6 "distinct_names" ["names"] (spDistinct K C)) (gN : Dfn P w K mg base (L2N.CX P w) 4 "check_new" ["name", "earlier"] (spNewD K C))
    (gS : Dfn P w K mg base (L2N.CX P w) 6 "_check_shown" ["shown", "lamps"] (spShown K C)) (gC : Dfn P w K mg base CX0 1 "_chosen_of" ["names", "chosen"] (spChosen K)) :
    FnOk P w K mg base (L2N.CX P w) 8 f fd ["self", "lamps", "looks"] (spTabInit K CT C) := by
  obtain ⟨fI, dI, TI, bI, GI⟩ := xM
  obtain ⟨fD, dD, mD, kD, bD, GD⟩ := gD
  obtain ⟨fN, dN, mN, kN, bN, GN⟩ := gN
  obtain ⟨fS, dS, mS, kS, bS, GS⟩ := gS
  obtain ⟨fC, dC, mC, kC, bC, GC⟩ := gC
  obtain ⟨tl, hlim⟩ := T.lim
  refine okN F scTabInit (fun vs H Q E h => ?_) (fun cdv A outer s H vs Q E hr h => ?_)
  · obtain ⟨H0, p, dx, a, b, lamps, rows, rfl, _⟩ := h
    rfl
  · obtain ⟨H0, p, dx, a, b, lamps, rows, rfl, s0, hp0, hp, ha, hla, hll, hb, hrw, hrl, k, kx⟩ := h
    have hr6 : Room 6 _ := hr.mono (by decide)
    have hr4 : Room 4 _ := hr.mono (by decide)
    have hr2 : Room 2 _ := hr.mono (by decide)
    have hr1 : Room 1 _ := hr.mono (by decide)
    refine ⟨_, pss_cons (ps_if (PW.pt (pw_or (pt_cmpR op_gt (pe_callB call_len_seq (by rfl) T.len PySem.boot_len (pa_cons (pv 1) pa_nil)) (pe_glob (v := .int 24) (by rfl) hlim ⟨_, rfl⟩) (nomark _))
          (pw_or1 (pt_cmpR op_gt (pe_callB call_len_seq (by rfl) T.len PySem.boot_len (pa_cons (pv 2) pa_nil)) (pe_glob (v := .int 24) (by rfl) hlim ⟨_, rfl⟩) (nomark _)))))
        (pss_one (L2N.ps_raise rfl (L2N.takes_of rfl rfl rfl rfl) (pmkN TI.oex TI.iC TI.tI GI hr2 bI pass0 (by rfl) TI.gC (pa_cons (pe_glob (v := .int 24) (by rfl) hlim ⟨_, rfl⟩) pa_nil)))) pss_nil)
      (pss_cons (ps_fld (pv 0) (pe_call GD hr6 (by rfl) mD kD bD .nil (L2N.passes_call (L2N.takes_of rfl rfl rfl rfl) (fun _ _ _ _ h => h)) (pa_cons (pv 1) pa_nil)) rfl)
      (pss_cons (ps_fld (pv 0) pe_dnewK rfl)
      (pss_cons (ps_for (passes_of rfl) rfl (pi_list (pv 2)) (pg_tup rfl (pgs_cons (pg_name (i := 3) scTabInit.nd rfl (Or.inl rfl)) (pgs_cons (pg_name (i := 4) scTabInit.nd rfl (Or.inl rfl)) pgs_nil)))
        (pss_cons (ps_expr (pe_call GN hr4 (by rfl) mN kN bN .nil (L2N.passes_call (L2N.takes_of rfl rfl rfl rfl) (fun _ _ _ _ h => h)) (pa_cons (pv 3) (pa_cons (pe_fld (pv 0) rfl) pa_nil))))
        (pss_cons (ps_expr (pe_call GS hr6 (by rfl) mS kS bS .nil (L2N.passes_call (L2N.takes_of rfl rfl rfl rfl) (fun _ _ _ _ h => h)) (pa_cons (pv 4) (pa_cons (pe_fld (pv 0) rfl) pa_nil))))
        (pss_one (ps_dput (hu_of hr) (pe_fld (pv 0) rfl) (pv 3) (pe_call GC hr1 (by rfl) mC kC bC .nil pass0 (pa_cons (pe_fld (pv 0) rfl) (pa_cons (pv 4) pa_nil))) rfl)))))
      (pss_one (ps_fld (pv 0) (pe_callTy (call_tuple_dK rfl) (by rfl) T.tup (by decide +kernel) (pa_cons (pe_fld (pv 0) rfl) pa_nil)) rfl))))), ?_⟩
    have small : ∀ n : Nat, n ≤ 2 → n < 1000 := fun n h => by omega
    have hmany : 24 < lamps.length ∨ 24 < (rows.map RowIn.dat).length → Out C H E .many := fun h => Out.of s0 (kx .many (by unfold initT; rw [if_pos h]))
    refine ⟨_, rfl, a, _, rfl, Same.either s0 ha, _, _, rfl, rfl, _, rfl, ?_⟩
    refine ite2 (fun c1 => ?_) (fun c1 => ?_)
    · exact raise_end (hmany (.inl (by have q : (24 : Int) < (lamps.length : Nat) := of_decide_eq_true c1; omega)))
    have c1' : ¬ 24 < lamps.length := fun x => c1 (decide_eq_true (by show (24 : Int) < (lamps.length : Nat); omega))
    refine ⟨_, rfl, b, _, rfl, .inl (Same.seq s0 hb), _, _, rfl, rfl, _, rfl, ?_⟩
    refine ite2 (fun c2 => ?_) (fun c2 => ?_)
    · exact raise_end (hmany (.inr (by
        have q : (24 : Int) < ((rows.map fun r => V.ref r.t).length : Nat) := of_decide_eq_true c2
        rw [List.length_map] at q ⊢
        omega)))
    have c2' : ¬ 24 < (rows.map RowIn.dat).length := fun x => c2 (decide_eq_true (by
      show (24 : Int) < ((rows.map fun r => V.ref r.t).length : Nat)
      rw [List.length_map] at x ⊢
      omega))
    have hT : initT lamps (rows.map RowIn.dat) = match chkNames lamps [] with
        | .error e => .error e
        | .ok ls => match initRows ls (rows.map RowIn.dat) [] with
          | .error e => .error e
          | .ok rs => .ok (ls, rs) := by
      show (if _ then _ else _) = _
      rw [if_neg (by intro z; rcases z with z | z; exact c1' z; exact c2' z)]
    -- self.lamps = distinct_names(lamps)
    refine ⟨_, rfl, a, lamps, rfl, Same.either s0 ha, fun v hv => (hla v hv).of s0, hll, fun ls hls H1 lt s1 hlt e1 => ?_, fun e he => Out.of s0 (kx e (by rw [hT, he]))⟩
    rw [hls] at hT
    dsimp only at hT
    have s01 : Same H0 H1 := s0.trans s1
    refine ⟨_, rfl, p, CT, dx, [], rfl, s1 _ _ hp, T.cl, T.nL, by decide, ?_⟩
    have nltp : lt ≠ p := fun z => by rw [z, hp] at hlt; cases hlt
    have keep0 : ∀ {Hx : Hp} {o : HO}, Same H0 Hx → Same H0 (upd Hx p o) := fun {Hx o} s b u e => by
      rw [upd_ne (ne_of_none e hp0)]; exact s _ _ e
    -- self._shown = {}
    refine fun sd hsd => ⟨_, rfl, p, CT, dx, pf1 (.ref lt), rfl, (by rw [upd_ne (ne_of_none upd_same hsd), upd_same]; rfl), T.cl, T.nS, small _ (Nat.le_trans (pf1_len _) (by decide)), ?_⟩
    have hsd1 : H1 sd = none := by
      have nsd : sd ≠ p := fun z => by rw [z, upd_same] at hsd; cases hsd
      rw [upd_ne nsd] at hsd
      exact hsd
    have nsp : p ≠ sd := fun z => by
      have q := s1 _ _ hp
      rw [z, hsd1] at q
      cases q
    have nls : lt ≠ sd := ne_of_none e1 hsd1
    have hsd0 : H0 sd = none := s01.free hsd1
    refine ⟨_, rfl, b, rfl, ⟨rows.map fun r => V.ref r.t, ?_⟩, for_it (walk_list (K := K) (a := b) (xs := rows.map fun r => V.ref r.t)) (fun i σ H' => ∃ (x y : Option V) (kvs : List (Key × V)) (acc : List (Str × List Str)),
        σ = [some (.ref p), some (.ref a), some (.ref b), x, y] ∧ H' p = some (.ins CT dx (pf2 (.ref lt) (.ref sd))) ∧ H' lt = some (.tup (ls.map V.str)) ∧ H' sd = some (.dK kvs) ∧ RowsAt H' acc kvs ∧ Same H0 H' ∧
        initRows ls ((rows.map RowIn.dat).drop i) acc = initRows ls (rows.map RowIn.dat) [] ∧ acc.length ≤ i) ?_ ?_ ?_ ?_⟩
    · exact Same.seq (keep0 ((keep0 s01).trans (Same.upd_new hsd))) hb
    · refine ⟨none, none, [], [], rfl, upd_same, ?_, ?_, .nil, keep0 ((keep0 s01).trans (Same.upd_new hsd)), rfl, Nat.le_refl _⟩
      · rw [upd_ne nltp, upd_ne nls, upd_ne nltp]; exact e1
      · rw [upd_ne nsp.symm, upd_same]
    · rintro i σ H' _ ⟨_, _, _, _, _, _, _, _, _, s', _⟩
      exact Same.seq s' hb
    · rintro i v σ H2 H3 hi ⟨x, y, kvs, acc, rfl, h2p, h2l, h2s, hrs, s2, hc, hal⟩ ⟨rfl, hv⟩
      have hv2 : (rows.map fun r => V.ref r.t)[i]? = some v := hv
      rw [List.length_map] at hi
      obtain ⟨r, hr, rfl⟩ : ∃ r, rows[i]? = some r ∧ v = V.ref r.t := by
        rw [List.getElem?_map] at hv2
        cases e : rows[i]? with
        | none => rw [e] at hv2; cases hv2
        | some r => rw [e] at hv2; exact ⟨r, rfl, (Option.some.inj hv2).symm⟩
      have hd : (rows.map RowIn.dat).drop i = (r.look, r.xs) :: (rows.map RowIn.dat).drop (i + 1) := by
        rw [List.drop_eq_getElem_cons (by rw [List.length_map]; exact hi)]
        rw [List.getElem_map, (List.getElem?_eq_some_iff.mp hr).2]
        rfl
      rw [hd] at hc
      have R := hrw r (List.mem_of_getElem? hr)
      have R2 := R.of s2
      refine ⟨r.t, _, rfl, R2.pair, rfl, _, _, rfl, _, _, rfl, rfl, ?_⟩
      -- check_new(look, self._shown)
      refine ⟨_, rfl, _, rfl, p, CT, dx, _, _, rfl, h2p, T.cl, T.nS, pf2_shown _ _, r.look, sd, kvs, acc.map (·.1), rfl, R2.name, h2s, hrs.keys, fun H4 s4 hn => ?_, fun e he => ?_⟩
      · obtain ⟨z, ez, hz, hza⟩ := chkNew_none hn
        -- _check_shown(shown, self.lamps)
        refine ⟨_, rfl, _, rfl, p, CT, dx, _, _, rfl, s4 _ _ h2p, T.cl, T.nL, pf2_lamps _ _, r.s, lt, r.xs, ls, rfl, Same.seq s4 R2.lst, (R2.of s4).all, R.len, SqT.of (s4 _ _ h2l), fun H5 hsn s5 => ?_, fun e he => ?_⟩
        · -- self._shown[look] = _chosen_of(self.lamps, shown)
          have s45 : Same H3 H5 := s4.trans s5
          have hxs : r.xs = (r.xs.map strOf).map V.str := shown_strs hsn
          refine ⟨_, rfl, p, CT, dx, _, _, rfl, s45 _ _ h2p, T.cl, T.nL, pf2_lamps _ _, _, rfl, lt, r.s, ls, r.xs.map strOf, rfl, SqT.of (s45 _ _ h2l), .inl (by rw [← hxs]; exact Same.seq s45 R2.lst), ?_, fun H6 t s6 ht et => ?_⟩
          · have q := names_len hls
            simp at q
            omega
          · have s26 : Same H3 H6 := s45.trans s6
            refine ⟨_, rfl, p, CT, dx, _, _, rfl, s26 _ _ h2p, T.cl, T.nS, pf2_shown _ _, _, rfl, sd, _, rfl, (by rw [ez]; exact DPut.k (k := Sum.inr z) (s26 _ _ h2s) (by rw [hrs.length]; exact small1000 (by omega))), ?_⟩
            have hval : valV kvs (Sum.inr z) = none := by
              have q := isSome_valV (es := acc.map (·.1)) hrs.keys (z := z)
              rw [decide_eq_false hza] at q
              cases e : valV kvs (Sum.inr z) with
              | none => rfl
              | some u => rw [e] at q; cases q
            rw [putK_new _ hval]
            have tups : ∀ b xs, H6 b = some (.tup xs) → upd H6 sd (.dK (kvs ++ [(Sum.inr z, .ref t)])) b = some (.tup xs) := fun b xs e => by
              have nb : b ≠ sd := fun q => by rw [q, s26 _ _ h2s] at e; cases e
              rw [upd_ne nb]; exact e
            refine ⟨_, _, kvs ++ [(Sum.inr z, .ref t)], acc ++ [(z, chosen ls (r.xs.map strOf))], rfl, ?_, tups _ _ (s26 _ _ h2l), upd_same, ?_, fun b o e => ?_, ?_, ?_⟩
            · have np : p ≠ sd := nsp
              rw [upd_ne np]; exact s26 _ _ h2p
            · exact (hrs.of fun b xs e => tups b xs (s26 _ _ e)).snoc (tups _ _ et)
            · rw [upd_ne (ne_of_none e hsd0)]
              exact s26 _ _ (s2 _ _ e)
            · rw [← hc, initRows, hn, hsn, ez]
              rfl
            · rw [List.length_append]
              simp
              omega
        · have hce : initRows ls (rows.map RowIn.dat) [] = .error e := by rw [← hc, initRows, hn, he]
          exact Out.of (s2.trans s4) (kx e (by rw [hT, hce]))
      · have hce : initRows ls (rows.map RowIn.dat) [] = .error e := by rw [← hc, initRows, he]
        exact Out.of s2 (kx e (by rw [hT, hce]))
    · rintro σ H2 ⟨x, y, kvs, acc, rfl, h2p, h2l, h2s, hrs, s2, hc, hal⟩
      have hc' : initRows ls (rows.map RowIn.dat) [] = .ok acc := by
        rw [← hc, List.drop_eq_nil_of_le (by simp)]
        rfl
      -- self.looks = tuple(self._shown)
      refine ⟨_, rfl, p, CT, dx, _, _, rfl, h2p, T.cl, T.nS, pf2_shown _ _, sd, kvs, rfl, h2s, fun kt hkt => ?_⟩
      have ntp : p ≠ kt := ne_of_none h2p hkt
      refine ⟨_, rfl, p, CT, dx, _, rfl, (by rw [upd_ne ntp]; exact h2p), T.cl, T.nK, small _ (pf2_len _ _), ?_⟩
      refine k ls acc (by rw [hT, hc']) _ (keep0 (s2.trans (Same.upd_new hkt))) ⟨dx, lt, sd, kt, kvs, upd_same, ?_, ?_, ?_, ?_⟩
      · rw [upd_ne nltp, upd_ne (ne_of_none h2l hkt)]; exact h2l
      · rw [upd_ne nsp.symm, upd_ne (ne_of_none h2s hkt)]; exact h2s
      · have q : (kvs.map fun kv => kV kv.1) = (kvs.map (·.1)).map kV := by rw [List.map_map]; rfl
        rw [upd_ne ntp.symm, upd_same, q, hrs.keys, List.map_map]
        rfl
      · refine hrs.of fun b xs e => ?_
        have nb : b ≠ p := fun q => by rw [q, h2p] at e; cases e
        rw [upd_ne nb, upd_ne (ne_of_none e hkt)]; exact e
end
end Dl

namespace Dl
open PySem L2
/-- one look as it is passed, the lamps as a list or as a tuple -/
structure RowE (K : PySem.W.Frag) (H : Hp) (r : RowIn) : Prop where
  pair : SqT K H r.t [r.look, .ref r.s]
  name : NmOk H r.look
  seq : SqL K H r.s r.xs ∨ SqT K H r.s r.xs
  all : ∀ v ∈ r.xs, NmOk H v
  len : r.xs.length ≤ 1000
theorem RowE.of {K : PySem.W.Frag} {H H' : Hp} {r : RowIn} (s : Same H H') (h : RowE K H r) : RowE K H' r :=
  ⟨Same.tup s h.pair, h.name.of s, Same.either s h.seq, fun v hv => (h.all v hv).of s, h.len⟩
theorem RowOk.e {K : PySem.W.Frag} {H : Hp} {r : RowIn} (h : RowOk K H r) : RowE K H r := ⟨h.pair, h.name, .inl h.lst, h.all, h.len⟩
def spTabInit2 (K : PySem.W.Frag) (CT : Addr) (C : Cs) : Sp := fun vs H Q E => ∃ (H0 : Hp) (p dx a b : Addr) (lamps : List V) (rows : List RowIn), vs = [.ref p, .ref a, .ref b] ∧ Same H0 H ∧ H0 p = none ∧ H p = some (.ins CT dx []) ∧
  (SqL K H0 a lamps ∨ SqT K H0 a lamps) ∧ (∀ v ∈ lamps, NmOk H0 v) ∧ lamps.length ≤ 1000 ∧ (SqL K H0 b (rows.map fun r => V.ref r.t) ∨ SqT K H0 b (rows.map fun r => V.ref r.t)) ∧ (∀ r ∈ rows, RowE K H0 r) ∧ rows.length ≤ 1000 ∧
  (∀ ls rs, initT lamps (rows.map RowIn.dat) = .ok (ls, rs) → ∀ H', Same H0 H' → TableAt CT H' p ls rs → Q .non H') ∧ ∀ e, initT lamps (rows.map RowIn.dat) = .error e → Out C H0 E e
section
variable {P : Program} {w : World} {K : PySem.W.Frag} {mg : Str → Option Value} {base : Heap} {C : Cs} {CT : Addr}
theorem ok_tabinit2 {f : Addr} {fd : FuncData} (F : Fun K "__init__" "Table.__init__" sTabInit f fd) (T : TxtT K mg CT) (xM : Ex P w K mg base "TooMany" "limit" C.many)
    (gD : Dfn P w K mg base (L2N.CX P w) 6 "distinct_names" ["names"] (spDistinct K C)) (gN : Dfn P w K mg base (L2N.CX P w) 4 "check_new" ["name", "earlier"] (spNewD K C))
    (gS : Dfn P w K mg base (L2N.CX P w) 6 "_check_shown" ["shown", "lamps"] (spShown2 K C)) (gC : Dfn P w K mg base CX0 1 "_chosen_of" ["names", "chosen"] (spChosen K)) :
    FnOk P w K mg base (L2N.CX P w) 8 f fd ["self", "lamps", "looks"] (spTabInit2 K CT C) := by
  obtain ⟨fI, dI, TI, bI, GI⟩ := xM
  obtain ⟨fD, dD, mD, kD, bD, GD⟩ := gD
  obtain ⟨fN, dN, mN, kN, bN, GN⟩ := gN
  obtain ⟨fS, dS, mS, kS, bS, GS⟩ := gS
  obtain ⟨fC, dC, mC, kC, bC, GC⟩ := gC
  obtain ⟨tl, hlim⟩ := T.lim
  refine okN F scTabInit (fun vs H Q E h => ?_) (fun cdv A outer s H vs Q E hr h => ?_)
  · obtain ⟨H0, p, dx, a, b, lamps, rows, rfl, _⟩ := h
    rfl
  · obtain ⟨H0, p, dx, a, b, lamps, rows, rfl, s0, hp0, hp, ha, hla, hll, hb, hrw, hrl, k, kx⟩ := h
    have hr6 : Room 6 _ := hr.mono (by decide)
    have hr4 : Room 4 _ := hr.mono (by decide)
    have hr2 : Room 2 _ := hr.mono (by decide)
    have hr1 : Room 1 _ := hr.mono (by decide)
    rcases hb with hb | hb
    · refine ⟨_, pss_cons (ps_if (PW.pt (pw_or (pt_cmpR op_gt (pe_callB call_len_seq (by rfl) T.len PySem.boot_len (pa_cons (pv 1) pa_nil)) (pe_glob (v := .int 24) (by rfl) hlim ⟨_, rfl⟩) (nomark _))
            (pw_or1 (pt_cmpR op_gt (pe_callB call_len_seq (by rfl) T.len PySem.boot_len (pa_cons (pv 2) pa_nil)) (pe_glob (v := .int 24) (by rfl) hlim ⟨_, rfl⟩) (nomark _)))))
          (pss_one (L2N.ps_raise rfl (L2N.takes_of rfl rfl rfl rfl) (pmkN TI.oex TI.iC TI.tI GI hr2 bI pass0 (by rfl) TI.gC (pa_cons (pe_glob (v := .int 24) (by rfl) hlim ⟨_, rfl⟩) pa_nil)))) pss_nil)
        (pss_cons (ps_fld (pv 0) (pe_call GD hr6 (by rfl) mD kD bD .nil (L2N.passes_call (L2N.takes_of rfl rfl rfl rfl) (fun _ _ _ _ h => h)) (pa_cons (pv 1) pa_nil)) rfl)
        (pss_cons (ps_fld (pv 0) pe_dnewK rfl)
        (pss_cons (ps_for (passes_of rfl) rfl (pi_list (pv 2)) (pg_tup rfl (pgs_cons (pg_name (i := 3) scTabInit.nd rfl (Or.inl rfl)) (pgs_cons (pg_name (i := 4) scTabInit.nd rfl (Or.inl rfl)) pgs_nil)))
          (pss_cons (ps_expr (pe_call GN hr4 (by rfl) mN kN bN .nil (L2N.passes_call (L2N.takes_of rfl rfl rfl rfl) (fun _ _ _ _ h => h)) (pa_cons (pv 3) (pa_cons (pe_fld (pv 0) rfl) pa_nil))))
          (pss_cons (ps_expr (pe_call GS hr6 (by rfl) mS kS bS .nil (L2N.passes_call (L2N.takes_of rfl rfl rfl rfl) (fun _ _ _ _ h => h)) (pa_cons (pv 4) (pa_cons (pe_fld (pv 0) rfl) pa_nil))))
          (pss_one (ps_dput (hu_of hr) (pe_fld (pv 0) rfl) (pv 3) (pe_call GC hr1 (by rfl) mC kC bC .nil pass0 (pa_cons (pe_fld (pv 0) rfl) (pa_cons (pv 4) pa_nil))) rfl)))))
        (pss_one (ps_fld (pv 0) (pe_callTy (call_tuple_dK rfl) (by rfl) T.tup (by decide +kernel) (pa_cons (pe_fld (pv 0) rfl) pa_nil)) rfl))))), ?_⟩
      have small : ∀ n : Nat, n ≤ 2 → n < 1000 := fun n h => by omega
      have hmany : 24 < lamps.length ∨ 24 < (rows.map RowIn.dat).length → Out C H E .many := fun h => Out.of s0 (kx .many (by unfold initT; rw [if_pos h]))
      refine ⟨_, rfl, a, _, rfl, Same.either s0 ha, _, _, rfl, rfl, _, rfl, ?_⟩
      refine ite2 (fun c1 => ?_) (fun c1 => ?_)
      · exact raise_end (hmany (.inl (by have q : (24 : Int) < (lamps.length : Nat) := of_decide_eq_true c1; omega)))
      have c1' : ¬ 24 < lamps.length := fun x => c1 (decide_eq_true (by show (24 : Int) < (lamps.length : Nat); omega))
      refine ⟨_, rfl, b, _, rfl, .inl (Same.seq s0 hb), _, _, rfl, rfl, _, rfl, ?_⟩
      refine ite2 (fun c2 => ?_) (fun c2 => ?_)
      · exact raise_end (hmany (.inr (by
          have q : (24 : Int) < ((rows.map fun r => V.ref r.t).length : Nat) := of_decide_eq_true c2
          rw [List.length_map] at q ⊢
          omega)))
      have c2' : ¬ 24 < (rows.map RowIn.dat).length := fun x => c2 (decide_eq_true (by
        show (24 : Int) < ((rows.map fun r => V.ref r.t).length : Nat)
        rw [List.length_map] at x ⊢
        omega))
      have hT : initT lamps (rows.map RowIn.dat) = match chkNames lamps [] with
          | .error e => .error e
          | .ok ls => match initRows ls (rows.map RowIn.dat) [] with
            | .error e => .error e
            | .ok rs => .ok (ls, rs) := by
        show (if _ then _ else _) = _
        rw [if_neg (by intro z; rcases z with z | z; exact c1' z; exact c2' z)]
        try rfl
      -- self.lamps = distinct_names(lamps)
      refine ⟨_, rfl, a, lamps, rfl, Same.either s0 ha, fun v hv => (hla v hv).of s0, hll, fun ls hls H1 lt s1 hlt e1 => ?_, fun e he => Out.of s0 (kx e (by rw [hT, he]))⟩
      rw [hls] at hT
      dsimp only at hT
      have s01 : Same H0 H1 := s0.trans s1
      refine ⟨_, rfl, p, CT, dx, [], rfl, s1 _ _ hp, T.cl, T.nL, by decide, ?_⟩
      have nltp : lt ≠ p := fun z => by rw [z, hp] at hlt; cases hlt
      have keep0 : ∀ {Hx : Hp} {o : HO}, Same H0 Hx → Same H0 (upd Hx p o) := fun {Hx o} s b u e => by
        rw [upd_ne (ne_of_none e hp0)]; exact s _ _ e
      -- self._shown = {}
      refine fun sd hsd => ⟨_, rfl, p, CT, dx, pf1 (.ref lt), rfl, (by rw [upd_ne (ne_of_none upd_same hsd), upd_same]; rfl), T.cl, T.nS, small _ (Nat.le_trans (pf1_len _) (by decide)), ?_⟩
      have hsd1 : H1 sd = none := by
        have nsd : sd ≠ p := fun z => by rw [z, upd_same] at hsd; cases hsd
        rw [upd_ne nsd] at hsd
        exact hsd
      have nsp : p ≠ sd := fun z => by
        have q := s1 _ _ hp
        rw [z, hsd1] at q
        cases q
      have nls : lt ≠ sd := ne_of_none e1 hsd1
      have hsd0 : H0 sd = none := s01.free hsd1
      refine ⟨_, rfl, b, rfl, ⟨rows.map fun r => V.ref r.t, ?_⟩, for_it (walk_list (K := K) (a := b) (xs := rows.map fun r => V.ref r.t)) (fun i σ H' => ∃ (x y : Option V) (kvs : List (Key × V)) (acc : List (Str × List Str)),
          σ = [some (.ref p), some (.ref a), some (.ref b), x, y] ∧ H' p = some (.ins CT dx (pf2 (.ref lt) (.ref sd))) ∧ H' lt = some (.tup (ls.map V.str)) ∧ H' sd = some (.dK kvs) ∧ RowsAt H' acc kvs ∧ Same H0 H' ∧
          initRows ls ((rows.map RowIn.dat).drop i) acc = initRows ls (rows.map RowIn.dat) [] ∧ acc.length ≤ i) ?_ ?_ ?_ ?_⟩
      · exact Same.seq (keep0 ((keep0 s01).trans (Same.upd_new hsd))) hb
      · refine ⟨none, none, [], [], rfl, upd_same, ?_, ?_, .nil, keep0 ((keep0 s01).trans (Same.upd_new hsd)), rfl, Nat.le_refl _⟩
        · rw [upd_ne nltp, upd_ne nls, upd_ne nltp]; exact e1
        · rw [upd_ne nsp.symm, upd_same]
      · rintro i σ H' _ ⟨_, _, _, _, _, _, _, _, _, s', _⟩
        exact Same.seq s' hb
      · rintro i v σ H2 H3 hi ⟨x, y, kvs, acc, rfl, h2p, h2l, h2s, hrs, s2, hc, hal⟩ ⟨rfl, hv⟩
        have hv2 : (rows.map fun r => V.ref r.t)[i]? = some v := hv
        rw [List.length_map] at hi
        obtain ⟨r, hr, rfl⟩ : ∃ r, rows[i]? = some r ∧ v = V.ref r.t := by
          rw [List.getElem?_map] at hv2
          cases e : rows[i]? with
          | none => rw [e] at hv2; cases hv2
          | some r => rw [e] at hv2; exact ⟨r, rfl, (Option.some.inj hv2).symm⟩
        have hd : (rows.map RowIn.dat).drop i = (r.look, r.xs) :: (rows.map RowIn.dat).drop (i + 1) := by
          rw [List.drop_eq_getElem_cons (by rw [List.length_map]; exact hi)]
          rw [List.getElem_map, (List.getElem?_eq_some_iff.mp hr).2]
          rfl
        rw [hd] at hc
        have R := hrw r (List.mem_of_getElem? hr)
        have R2 := R.of s2
        refine ⟨r.t, _, rfl, R2.pair, rfl, _, _, rfl, _, _, rfl, rfl, ?_⟩
        -- check_new(look, self._shown)
        refine ⟨_, rfl, _, rfl, p, CT, dx, _, _, rfl, h2p, T.cl, T.nS, pf2_shown _ _, r.look, sd, kvs, acc.map (·.1), rfl, R2.name, h2s, hrs.keys, fun H4 s4 hn => ?_, fun e he => ?_⟩
        · obtain ⟨z, ez, hz, hza⟩ := chkNew_none hn
          -- _check_shown(shown, self.lamps)
          refine ⟨_, rfl, _, rfl, p, CT, dx, _, _, rfl, s4 _ _ h2p, T.cl, T.nL, pf2_lamps _ _, r.s, lt, r.xs, ls, rfl, Same.either s4 R2.seq, (R2.of s4).all, R.len, SqT.of (s4 _ _ h2l), fun H5 hsn s5 => ?_, fun e he => ?_⟩
          · -- self._shown[look] = _chosen_of(self.lamps, shown)
            have s45 : Same H3 H5 := s4.trans s5
            have hxs : r.xs = (r.xs.map strOf).map V.str := shown_strs hsn
            refine ⟨_, rfl, p, CT, dx, _, _, rfl, s45 _ _ h2p, T.cl, T.nL, pf2_lamps _ _, _, rfl, lt, r.s, ls, r.xs.map strOf, rfl, SqT.of (s45 _ _ h2l), (by rw [← hxs]; exact Same.either s45 R2.seq), ?_, fun H6 t s6 ht et => ?_⟩
            · have q := names_len hls
              simp at q
              omega
            · have s26 : Same H3 H6 := s45.trans s6
              refine ⟨_, rfl, p, CT, dx, _, _, rfl, s26 _ _ h2p, T.cl, T.nS, pf2_shown _ _, _, rfl, sd, _, rfl, (by rw [ez]; exact DPut.k (k := Sum.inr z) (s26 _ _ h2s) (by rw [hrs.length]; exact small1000 (by omega))), ?_⟩
              have hval : valV kvs (Sum.inr z) = none := by
                have q := isSome_valV (es := acc.map (·.1)) hrs.keys (z := z)
                rw [decide_eq_false hza] at q
                cases e : valV kvs (Sum.inr z) with
                | none => rfl
                | some u => rw [e] at q; cases q
              rw [putK_new _ hval]
              have tups : ∀ b xs, H6 b = some (.tup xs) → upd H6 sd (.dK (kvs ++ [(Sum.inr z, .ref t)])) b = some (.tup xs) := fun b xs e => by
                have nb : b ≠ sd := fun q => by rw [q, s26 _ _ h2s] at e; cases e
                rw [upd_ne nb]; exact e
              refine ⟨_, _, kvs ++ [(Sum.inr z, .ref t)], acc ++ [(z, chosen ls (r.xs.map strOf))], rfl, ?_, tups _ _ (s26 _ _ h2l), upd_same, ?_, fun b o e => ?_, ?_, ?_⟩
              · have np : p ≠ sd := nsp
                rw [upd_ne np]; exact s26 _ _ h2p
              · exact (hrs.of fun b xs e => tups b xs (s26 _ _ e)).snoc (tups _ _ et)
              · rw [upd_ne (ne_of_none e hsd0)]
                exact s26 _ _ (s2 _ _ e)
              · rw [← hc, initRows, hn, hsn, ez]
                rfl
              · rw [List.length_append]
                simp
                omega
          · have hce : initRows ls (rows.map RowIn.dat) [] = .error e := by rw [← hc, initRows, hn, he]
            exact Out.of (s2.trans s4) (kx e (by rw [hT, hce]))
        · have hce : initRows ls (rows.map RowIn.dat) [] = .error e := by rw [← hc, initRows, he]
          exact Out.of s2 (kx e (by rw [hT, hce]))
      · rintro σ H2 ⟨x, y, kvs, acc, rfl, h2p, h2l, h2s, hrs, s2, hc, hal⟩
        have hc' : initRows ls (rows.map RowIn.dat) [] = .ok acc := by
          rw [← hc, List.drop_eq_nil_of_le (by simp)]
          rfl
        -- self.looks = tuple(self._shown)
        refine ⟨_, rfl, p, CT, dx, _, _, rfl, h2p, T.cl, T.nS, pf2_shown _ _, sd, kvs, rfl, h2s, fun kt hkt => ?_⟩
        have ntp : p ≠ kt := ne_of_none h2p hkt
        refine ⟨_, rfl, p, CT, dx, _, rfl, (by rw [upd_ne ntp]; exact h2p), T.cl, T.nK, small _ (pf2_len _ _), ?_⟩
        refine k ls acc (by rw [hT, hc']) _ (keep0 (s2.trans (Same.upd_new hkt))) ⟨dx, lt, sd, kt, kvs, upd_same, ?_, ?_, ?_, ?_⟩
        · rw [upd_ne nltp, upd_ne (ne_of_none h2l hkt)]; exact h2l
        · rw [upd_ne nsp.symm, upd_ne (ne_of_none h2s hkt)]; exact h2s
        · have q : (kvs.map fun kv => kV kv.1) = (kvs.map (·.1)).map kV := by rw [List.map_map]; rfl
          rw [upd_ne ntp.symm, upd_same, q, hrs.keys, List.map_map]
          rfl
        · refine hrs.of fun b xs e => ?_
          have nb : b ≠ p := fun q => by rw [q, h2p] at e; cases e
          rw [upd_ne nb, upd_ne (ne_of_none e hkt)]; exact e
    · refine ⟨_, pss_cons (ps_if (PW.pt (pw_or (pt_cmpR op_gt (pe_callB call_len_seq (by rfl) T.len PySem.boot_len (pa_cons (pv 1) pa_nil)) (pe_glob (v := .int 24) (by rfl) hlim ⟨_, rfl⟩) (nomark _))
            (pw_or1 (pt_cmpR op_gt (pe_callB call_len_seq (by rfl) T.len PySem.boot_len (pa_cons (pv 2) pa_nil)) (pe_glob (v := .int 24) (by rfl) hlim ⟨_, rfl⟩) (nomark _)))))
          (pss_one (L2N.ps_raise rfl (L2N.takes_of rfl rfl rfl rfl) (pmkN TI.oex TI.iC TI.tI GI hr2 bI pass0 (by rfl) TI.gC (pa_cons (pe_glob (v := .int 24) (by rfl) hlim ⟨_, rfl⟩) pa_nil)))) pss_nil)
        (pss_cons (ps_fld (pv 0) (pe_call GD hr6 (by rfl) mD kD bD .nil (L2N.passes_call (L2N.takes_of rfl rfl rfl rfl) (fun _ _ _ _ h => h)) (pa_cons (pv 1) pa_nil)) rfl)
        (pss_cons (ps_fld (pv 0) pe_dnewK rfl)
        (pss_cons (ps_for (passes_of rfl) rfl (pi_tup (pv 2)) (pg_tup rfl (pgs_cons (pg_name (i := 3) scTabInit.nd rfl (Or.inl rfl)) (pgs_cons (pg_name (i := 4) scTabInit.nd rfl (Or.inl rfl)) pgs_nil)))
          (pss_cons (ps_expr (pe_call GN hr4 (by rfl) mN kN bN .nil (L2N.passes_call (L2N.takes_of rfl rfl rfl rfl) (fun _ _ _ _ h => h)) (pa_cons (pv 3) (pa_cons (pe_fld (pv 0) rfl) pa_nil))))
          (pss_cons (ps_expr (pe_call GS hr6 (by rfl) mS kS bS .nil (L2N.passes_call (L2N.takes_of rfl rfl rfl rfl) (fun _ _ _ _ h => h)) (pa_cons (pv 4) (pa_cons (pe_fld (pv 0) rfl) pa_nil))))
          (pss_one (ps_dput (hu_of hr) (pe_fld (pv 0) rfl) (pv 3) (pe_call GC hr1 (by rfl) mC kC bC .nil pass0 (pa_cons (pe_fld (pv 0) rfl) (pa_cons (pv 4) pa_nil))) rfl)))))
        (pss_one (ps_fld (pv 0) (pe_callTy (call_tuple_dK rfl) (by rfl) T.tup (by decide +kernel) (pa_cons (pe_fld (pv 0) rfl) pa_nil)) rfl))))), ?_⟩
      have small : ∀ n : Nat, n ≤ 2 → n < 1000 := fun n h => by omega
      have hmany : 24 < lamps.length ∨ 24 < (rows.map RowIn.dat).length → Out C H E .many := fun h => Out.of s0 (kx .many (by unfold initT; rw [if_pos h]))
      refine ⟨_, rfl, a, _, rfl, Same.either s0 ha, _, _, rfl, rfl, _, rfl, ?_⟩
      refine ite2 (fun c1 => ?_) (fun c1 => ?_)
      · exact raise_end (hmany (.inl (by have q : (24 : Int) < (lamps.length : Nat) := of_decide_eq_true c1; omega)))
      have c1' : ¬ 24 < lamps.length := fun x => c1 (decide_eq_true (by show (24 : Int) < (lamps.length : Nat); omega))
      refine ⟨_, rfl, b, _, rfl, .inr (Same.tup s0 hb), _, _, rfl, rfl, _, rfl, ?_⟩
      refine ite2 (fun c2 => ?_) (fun c2 => ?_)
      · exact raise_end (hmany (.inr (by
          have q : (24 : Int) < ((rows.map fun r => V.ref r.t).length : Nat) := of_decide_eq_true c2
          rw [List.length_map] at q ⊢
          omega)))
      have c2' : ¬ 24 < (rows.map RowIn.dat).length := fun x => c2 (decide_eq_true (by
        show (24 : Int) < ((rows.map fun r => V.ref r.t).length : Nat)
        rw [List.length_map] at x ⊢
        omega))
      have hT : initT lamps (rows.map RowIn.dat) = match chkNames lamps [] with
          | .error e => .error e
          | .ok ls => match initRows ls (rows.map RowIn.dat) [] with
            | .error e => .error e
            | .ok rs => .ok (ls, rs) := by
        show (if _ then _ else _) = _
        rw [if_neg (by intro z; rcases z with z | z; exact c1' z; exact c2' z)]
        try rfl
      -- self.lamps = distinct_names(lamps)
      refine ⟨_, rfl, a, lamps, rfl, Same.either s0 ha, fun v hv => (hla v hv).of s0, hll, fun ls hls H1 lt s1 hlt e1 => ?_, fun e he => Out.of s0 (kx e (by rw [hT, he]))⟩
      rw [hls] at hT
      dsimp only at hT
      have s01 : Same H0 H1 := s0.trans s1
      refine ⟨_, rfl, p, CT, dx, [], rfl, s1 _ _ hp, T.cl, T.nL, by decide, ?_⟩
      have nltp : lt ≠ p := fun z => by rw [z, hp] at hlt; cases hlt
      have keep0 : ∀ {Hx : Hp} {o : HO}, Same H0 Hx → Same H0 (upd Hx p o) := fun {Hx o} s b u e => by
        rw [upd_ne (ne_of_none e hp0)]; exact s _ _ e
      -- self._shown = {}
      refine fun sd hsd => ⟨_, rfl, p, CT, dx, pf1 (.ref lt), rfl, (by rw [upd_ne (ne_of_none upd_same hsd), upd_same]; rfl), T.cl, T.nS, small _ (Nat.le_trans (pf1_len _) (by decide)), ?_⟩
      have hsd1 : H1 sd = none := by
        have nsd : sd ≠ p := fun z => by rw [z, upd_same] at hsd; cases hsd
        rw [upd_ne nsd] at hsd
        exact hsd
      have nsp : p ≠ sd := fun z => by
        have q := s1 _ _ hp
        rw [z, hsd1] at q
        cases q
      have nls : lt ≠ sd := ne_of_none e1 hsd1
      have hsd0 : H0 sd = none := s01.free hsd1
      refine ⟨_, rfl, b, rfl, ⟨rows.map fun r => V.ref r.t, ?_⟩, for_it (walk_tup (K := K) (a := b) (xs := rows.map fun r => V.ref r.t)) (fun i σ H' => ∃ (x y : Option V) (kvs : List (Key × V)) (acc : List (Str × List Str)),
          σ = [some (.ref p), some (.ref a), some (.ref b), x, y] ∧ H' p = some (.ins CT dx (pf2 (.ref lt) (.ref sd))) ∧ H' lt = some (.tup (ls.map V.str)) ∧ H' sd = some (.dK kvs) ∧ RowsAt H' acc kvs ∧ Same H0 H' ∧
          initRows ls ((rows.map RowIn.dat).drop i) acc = initRows ls (rows.map RowIn.dat) [] ∧ acc.length ≤ i) ?_ ?_ ?_ ?_⟩
      · exact Same.tup (keep0 ((keep0 s01).trans (Same.upd_new hsd))) hb
      · refine ⟨none, none, [], [], rfl, upd_same, ?_, ?_, .nil, keep0 ((keep0 s01).trans (Same.upd_new hsd)), rfl, Nat.le_refl _⟩
        · rw [upd_ne nltp, upd_ne nls, upd_ne nltp]; exact e1
        · rw [upd_ne nsp.symm, upd_same]
      · rintro i σ H' _ ⟨_, _, _, _, _, _, _, _, _, s', _⟩
        exact Same.tup s' hb
      · rintro i v σ H2 H3 hi ⟨x, y, kvs, acc, rfl, h2p, h2l, h2s, hrs, s2, hc, hal⟩ ⟨rfl, hv⟩
        have hv2 : (rows.map fun r => V.ref r.t)[i]? = some v := hv
        rw [List.length_map] at hi
        obtain ⟨r, hr, rfl⟩ : ∃ r, rows[i]? = some r ∧ v = V.ref r.t := by
          rw [List.getElem?_map] at hv2
          cases e : rows[i]? with
          | none => rw [e] at hv2; cases hv2
          | some r => rw [e] at hv2; exact ⟨r, rfl, (Option.some.inj hv2).symm⟩
        have hd : (rows.map RowIn.dat).drop i = (r.look, r.xs) :: (rows.map RowIn.dat).drop (i + 1) := by
          rw [List.drop_eq_getElem_cons (by rw [List.length_map]; exact hi)]
          rw [List.getElem_map, (List.getElem?_eq_some_iff.mp hr).2]
          rfl
        rw [hd] at hc
        have R := hrw r (List.mem_of_getElem? hr)
        have R2 := R.of s2
        refine ⟨r.t, _, rfl, R2.pair, rfl, _, _, rfl, _, _, rfl, rfl, ?_⟩
        -- check_new(look, self._shown)
        refine ⟨_, rfl, _, rfl, p, CT, dx, _, _, rfl, h2p, T.cl, T.nS, pf2_shown _ _, r.look, sd, kvs, acc.map (·.1), rfl, R2.name, h2s, hrs.keys, fun H4 s4 hn => ?_, fun e he => ?_⟩
        · obtain ⟨z, ez, hz, hza⟩ := chkNew_none hn
          -- _check_shown(shown, self.lamps)
          refine ⟨_, rfl, _, rfl, p, CT, dx, _, _, rfl, s4 _ _ h2p, T.cl, T.nL, pf2_lamps _ _, r.s, lt, r.xs, ls, rfl, Same.either s4 R2.seq, (R2.of s4).all, R.len, SqT.of (s4 _ _ h2l), fun H5 hsn s5 => ?_, fun e he => ?_⟩
          · -- self._shown[look] = _chosen_of(self.lamps, shown)
            have s45 : Same H3 H5 := s4.trans s5
            have hxs : r.xs = (r.xs.map strOf).map V.str := shown_strs hsn
            refine ⟨_, rfl, p, CT, dx, _, _, rfl, s45 _ _ h2p, T.cl, T.nL, pf2_lamps _ _, _, rfl, lt, r.s, ls, r.xs.map strOf, rfl, SqT.of (s45 _ _ h2l), (by rw [← hxs]; exact Same.either s45 R2.seq), ?_, fun H6 t s6 ht et => ?_⟩
            · have q := names_len hls
              simp at q
              omega
            · have s26 : Same H3 H6 := s45.trans s6
              refine ⟨_, rfl, p, CT, dx, _, _, rfl, s26 _ _ h2p, T.cl, T.nS, pf2_shown _ _, _, rfl, sd, _, rfl, (by rw [ez]; exact DPut.k (k := Sum.inr z) (s26 _ _ h2s) (by rw [hrs.length]; exact small1000 (by omega))), ?_⟩
              have hval : valV kvs (Sum.inr z) = none := by
                have q := isSome_valV (es := acc.map (·.1)) hrs.keys (z := z)
                rw [decide_eq_false hza] at q
                cases e : valV kvs (Sum.inr z) with
                | none => rfl
                | some u => rw [e] at q; cases q
              rw [putK_new _ hval]
              have tups : ∀ b xs, H6 b = some (.tup xs) → upd H6 sd (.dK (kvs ++ [(Sum.inr z, .ref t)])) b = some (.tup xs) := fun b xs e => by
                have nb : b ≠ sd := fun q => by rw [q, s26 _ _ h2s] at e; cases e
                rw [upd_ne nb]; exact e
              refine ⟨_, _, kvs ++ [(Sum.inr z, .ref t)], acc ++ [(z, chosen ls (r.xs.map strOf))], rfl, ?_, tups _ _ (s26 _ _ h2l), upd_same, ?_, fun b o e => ?_, ?_, ?_⟩
              · have np : p ≠ sd := nsp
                rw [upd_ne np]; exact s26 _ _ h2p
              · exact (hrs.of fun b xs e => tups b xs (s26 _ _ e)).snoc (tups _ _ et)
              · rw [upd_ne (ne_of_none e hsd0)]
                exact s26 _ _ (s2 _ _ e)
              · rw [← hc, initRows, hn, hsn, ez]
                rfl
              · rw [List.length_append]
                simp
                omega
          · have hce : initRows ls (rows.map RowIn.dat) [] = .error e := by rw [← hc, initRows, hn, he]
            exact Out.of (s2.trans s4) (kx e (by rw [hT, hce]))
        · have hce : initRows ls (rows.map RowIn.dat) [] = .error e := by rw [← hc, initRows, he]
          exact Out.of s2 (kx e (by rw [hT, hce]))
      · rintro σ H2 ⟨x, y, kvs, acc, rfl, h2p, h2l, h2s, hrs, s2, hc, hal⟩
        have hc' : initRows ls (rows.map RowIn.dat) [] = .ok acc := by
          rw [← hc, List.drop_eq_nil_of_le (by simp)]
          rfl
        -- self.looks = tuple(self._shown)
        refine ⟨_, rfl, p, CT, dx, _, _, rfl, h2p, T.cl, T.nS, pf2_shown _ _, sd, kvs, rfl, h2s, fun kt hkt => ?_⟩
        have ntp : p ≠ kt := ne_of_none h2p hkt
        refine ⟨_, rfl, p, CT, dx, _, rfl, (by rw [upd_ne ntp]; exact h2p), T.cl, T.nK, small _ (pf2_len _ _), ?_⟩
        refine k ls acc (by rw [hT, hc']) _ (keep0 (s2.trans (Same.upd_new hkt))) ⟨dx, lt, sd, kt, kvs, upd_same, ?_, ?_, ?_, ?_⟩
        · rw [upd_ne nltp, upd_ne (ne_of_none h2l hkt)]; exact h2l
        · rw [upd_ne nsp.symm, upd_ne (ne_of_none h2s hkt)]; exact h2s
        · have q : (kvs.map fun kv => kV kv.1) = (kvs.map (·.1)).map kV := by rw [List.map_map]; rfl
          rw [upd_ne ntp.symm, upd_same, q, hrs.keys, List.map_map]
          rfl
        · refine hrs.of fun b xs e => ?_
          have nb : b ≠ p := fun q => by rw [q, h2p] at e; cases e
          rw [upd_ne nb, upd_ne (ne_of_none e hkt)]; exact e
end
end Dl

/-! len(o) and o[k] by the class's own __len__ and __getitem__ -/
namespace Dl
open PySem PySem.Spec PyProof.Rows L2
section
variable {X : Cx} {CX : CXT} {k : Nat} {C f : Addr} {fd : FuncData} {ps : List Str} {sp : Sp} {E : XK}
theorem run_at {A : Around} {pins : List (Addr × Obj)} {σ : L2.St} {H : Hp} {s : Shared} {Q : VK} {us : List Value} {vs : List V} (hA : A.frames = X.A.frames) (F : FnOk X.prog X.w X.K X.mg X.base CX k f fd ps sp) (hr : Room k A)
    (hb : Binds X.K fd ps []) (hx : Passes CX X E) (I : Inv X pins σ H s) (r : Vals vs us) (h : sp vs H Q E) : wpAny (model X.prog X.w) A (call (.ref f) us) (EP X pins σ Q) X.xe s := by
  have e0 : Env0 X.prog X.w X.K X.mg X.base A X.stack s H := by
    have e := I.env0
    exact ⟨by rw [hA]; exact e.frames, e.mod, e.bs, e.bsz, e.funs, e.frf, e.hok, e.bare⟩
  have hl := F.len _ _ _ _ h
  refine wpAny_call (codeAny_mono (F.run A X.stack s H ⟨us, []⟩ us vs Q E hr e0 (by
    have := hb s us I.kIn (by rw [List.append_nil, ← r.length]; exact hl)
    simpa using this) r h) fun r s' hq => ?_)
  cases r with
  | error e => exact hx pins σ H s e s' I hq
  | ok fl =>
    cases fl with
    | ret u => exact I.after hq
    | next => exact False.elim hq
    | brk => exact False.elim hq
    | cont => exact False.elim hq
def rLenOwn (C : Addr) (sp : Sp) (E : XK) : List V → Hp → VK → Prop := fun xs H Q => ∃ a dx fs, xs = [.ref a] ∧ H a = some (.ins C dx fs) ∧ sp [.ref a] H (fun v H' => ∃ n : Nat, v = .int (n : Int) ∧ n ≤ 1000 ∧ Q (.int (n : Int)) H') E
theorem call_lenOwn (F : FnOk X.prog X.w X.K X.mg X.base CX k f fd ps sp) (hs : PySem.W.findIn X.K (.ref C) "__len__" = some (some (.ref f))) (hf : PySem.W.isFn X.K (.ref f) = true) (hr : Room (k + 1) X.A) (hb : Binds X.K fd ps []) (hx : Passes CX X E) :
    CallR X (.builtin "len") (rLenOwn C sp E) := by
  intro pins s σ H xs us Q I r h
  obtain ⟨a, dx, fs, rfl, ha, hsp⟩ := h
  obtain ⟨u, rfl, rx⟩ := vals1 r
  cases rx
  obtain ⟨mA, J, _⟩ := ins_get I.hok ha
  obtain ⟨od, J, _⟩ := J.look
  obtain ⟨m, hF⟩ := I.fr
  refine PySem.W.len_K hF I.ok.mod.kin J hs hf ?_
  refine wpAny_mono (run_at (A := X.A.in1) rfl F hr.in1 hb hx I (show Vals [V.ref a] [Value.ref a] from .cons rfl .nil) hsp) (fun v s' hv => ?_) fun _ _ y => y
  obtain ⟨z, H', I', rz, n, ez, hn, q⟩ := hv
  subst ez
  obtain ⟨t, rfl⟩ := rz
  exact ⟨⟨by omega, by omega⟩, ⟨.int n, H', I'.tok _, ⟨_, rfl⟩, q⟩⟩
def rIxOwn (C : Addr) (sp : Sp) (E : XK) : R2 := fun x y H Q => ∃ a dx fs, x = .ref a ∧ H a = some (.ins C dx fs) ∧ sp [.ref a, y] H Q E
theorem pe_ixOwn {a b : Expr} {ta tb : TE} {pos : Pos} (F : FnOk X.prog X.w X.K X.mg X.base CX k f fd ps sp) (hs : PySem.W.findIn X.K (.ref C) "__getitem__" = some (some (.ref f))) (hfn : PySem.W.fnIn X.K f = true) (hf : PySem.W.isFn X.K (.ref f) = true)
    (hr : Room (k + 1) X.A) (hb : Binds X.K fd ps []) (hx : Passes CX X E) (ha : PE X a ta) (hb' : PE X b tb)
    (hsl : ∀ v u, subscripted b true v u = runValue (.builtin "lifetime.subscript" ⟨[v, u], []⟩) := by intros; rfl) : PE X (.Subscript a b pos) (tOp (rIxOwn C sp E) ta tb) := by
  refine ⟨fun pins s σ H Q I h => ?_⟩
  refine Subscript_ (binT ha hb' I h fun v u s2 x y H2 I2 rx ry q => ?_)
  obtain ⟨p, dx, fs, rfl, hp, hsp⟩ := q
  cases rx
  obtain ⟨mA, J, _⟩ := ins_get I2.hok hp
  obtain ⟨od, J, _⟩ := J.look
  obtain ⟨m, hF⟩ := I2.fr
  exact PySem.W.sub_K hF I2.ok.mod.kin J hs hfn hf (run_at (A := X.A.in1) rfl F hr.in1 hb hx I2 (show Vals [V.ref p, y] [Value.ref p, u] from .cons rfl (.cons ry .nil)) hsp) (hsl _ _)
end
end Dl

namespace Dl
open PySem L2
/-! ### methods of a table -/
def spAllKnown (K : PySem.W.Frag) (C : Cs) : Sp := fun vs H Q E => ∃ (p q : Addr) (xs : List V) (es : List Str), vs = [.ref p, .ref q] ∧ SqT K H p xs ∧ (∀ v ∈ xs, NmOk H v) ∧ SqT K H q (es.map V.str) ∧
  ((xs.find? fun v => !knows v es) = none → Q .non H) ∧ ∀ v, (xs.find? fun v => !knows v es) = some v → Out1 C.unk "name" v H E
/-- what a method may lean on: a table that was made by the checks -/
structure TabOk (ls : List Str) (rs : List (Str × List Str)) : Prop where
  lnd : ls.Nodup
  lval : ∀ z ∈ ls, validN z = true
  lfew : ls.length ≤ 24
  knd : (rs.map (·.1)).Nodup
  kval : ∀ x ∈ rs, validN x.1 = true
  kfew : rs.length ≤ 24
  sub : ∀ x ∈ rs, x.2.Sublist ls
theorem RowsAt.val {H : Hp} {rs : List (Str × List Str)} {kvs : List (Key × V)} (h : RowsAt H rs kvs) : (rs.map (·.1)).Nodup → ∀ {x : Str × List Str}, x ∈ rs → ∃ a, valV kvs (Sum.inr x.1) = some (.ref a) ∧ H a = some (.tup (x.2.map V.str)) := by
  induction h with
  | nil => intro _ x hx; cases hx
  | @cons k sh a r kvs e h ih =>
    intro nd x hx
    rw [List.map_cons, List.nodup_cons] at nd
    rcases List.mem_cons.mp hx with rfl | hx
    · exact ⟨a, by simp [valV], e⟩
    · have ne : ¬ k = x.1 := fun q => nd.1 (by rw [q]; exact List.mem_map.mpr ⟨x, hx, rfl⟩)
      obtain ⟨b, h1, h2⟩ := ih nd.2 hx
      refine ⟨b, ?_, h2⟩
      unfold valV at h1 ⊢
      rw [List.find?_cons_of_neg (by simpa using ne)]
      exact h1
/-- a pair of rows() -/
structure RowT (H : Hp) (r : RowIn) : Prop where
  pair : H r.t = some (.tup [r.look, .ref r.s])
  tup : H r.s = some (.tup r.xs)
theorem RowT.of {H H' : Hp} {r : RowIn} (s : Same H H') (h : RowT H r) : RowT H' r := ⟨s _ _ h.pair, s _ _ h.tup⟩
def rdat (x : Str × List Str) : V × List V := (.str x.1, x.2.map V.str)
def spTRows (K : PySem.W.Frag) (CT : Addr) : Sp := fun vs H Q _ => ∃ (p : Addr) (ls : List Str) (rs : List (Str × List Str)), vs = [.ref p] ∧ TableAt CT H p ls rs ∧ TabOk ls rs ∧
  ∀ (H' : Hp) (l : Addr) (rows : List RowIn), Same H H' → H l = none → H' l = some (.lst (rows.map fun r => V.ref r.t)) → (∀ r ∈ rows, RowT H' r) → rows.map RowIn.dat = rs.map rdat → Q (.ref l) H'
section
variable {P : Program} {w : World} {K : PySem.W.Frag} {mg : Str → Option Value} {base : Heap} {C : Cs} {CT : Addr}
theorem scCheckAll : FnScope ["chosen", "names", "name"] ["chosen", "names"] (defScope sCheckAll) := ⟨rfl, rfl, rfl, by decide +kernel, rfl, by decide +kernel, by decide +kernel⟩
theorem ok_checkall {f : Addr} {fd : FuncData} (F : Fun K "check_all_known" "check_all_known" sCheckAll f fd) (gK : Dfn P w K mg base (L2.CX P w) 4 "check_known" ["name", "names"] (spKnown K C)) :
    FnOk P w K mg base (L2.CX P w) 5 f fd ["chosen", "names"] (spAllKnown K C) := by
  obtain ⟨fK, dK, mK, kK, bK, GK⟩ := gK
  refine F.okX scCheckAll (fun vs H Q E h => ?_) (fun cdv A outer s H vs Q E hr h => ?_)
  · obtain ⟨a, b, xs, es, rfl, _⟩ := h
    rfl
  · obtain ⟨p, q, xs, es, rfl, hp, hx, hq, k, kx⟩ := h
    have hr4 : Room 4 _ := hr
    refine ⟨_, (pss_one (ps_for (passes_of rfl) rfl (pi_tup (pv 0)) (pg_name (i := 2) scCheckAll.nd rfl (Or.inl rfl)) (pss_one (ps_expr (pe_call GK hr4 (by rfl) mK kK bK .nil (passes_call (takes_of rfl rfl rfl rfl) (fun _ _ _ _ h => h)) (pa_cons (pv 2) (pa_cons (pv 1) pa_nil))))))), ?_⟩
    refine ⟨_, rfl, p, rfl, ⟨_, hp⟩, for_it (walk_tup (K := K) (a := p) (xs := xs)) (fun i σ H' => H' = H ∧ (∃ x, σ = [some (.ref p), some (.ref q), x]) ∧ (xs.find? fun v => !knows v es) = ((xs.drop i).find? fun v => !knows v es))
      ⟨rfl, ⟨none, rfl⟩, rfl⟩ (fun i σ H' _ ⟨e, _⟩ => by rw [e]; exact hp) ?_ ?_⟩
    · rintro i v σ H1 H2 hi ⟨rfl, ⟨x, rfl⟩, hf⟩ ⟨rfl, hv⟩
      have hd : xs.drop i = v :: xs.drop (i + 1) := by
        rw [List.drop_eq_getElem_cons hi]
        have q := (List.getElem?_eq_some_iff.mp hv).2
        rw [q]
      rw [hd] at hf
      refine ⟨_, rfl, _, rfl, v, q, es, rfl, hx v (List.mem_of_getElem? hv), hq, fun hk => ?_, fun hk => ?_⟩
      · refine ⟨rfl, ⟨_, rfl⟩, ?_⟩
        rw [hf, List.find?_cons_of_neg (by rw [hk]; decide)]
      · refine kx v ?_
        rw [hf, List.find?_cons_of_pos (by rw [hk]; decide)]
    · rintro σ H1 ⟨rfl, ⟨x, rfl⟩, hf⟩
      rw [List.drop_length] at hf
      exact k hf
theorem scTRows : FnScope ["self", "look"] ["self"] (defScope sTableRows) := ⟨rfl, rfl, rfl, by decide +kernel, rfl, by decide +kernel, by decide +kernel⟩
theorem ok_trows {f : Addr} {fd : FuncData} (F : Fun K "rows" "Table.rows" sTableRows f fd) (cl : Cls K CT) (nK : NoAttr K CT "looks") (nS : NoAttr K CT "_shown") : FnOk P w K mg base CX0 1 f fd ["self"] (spTRows K CT) := by
  refine F.ok scTRows (fun vs H Q E h => ?_) (fun cdv A outer s H vs Q E hr h => ?_)
  · obtain ⟨a, ls, rs, rfl, _⟩ := h
    rfl
  · obtain ⟨p, ls, rs, rfl, ⟨dx, lt, sd, kt, kvs, hp, hlt, hsd, hkt, hrs⟩, ok, k⟩ := h
    refine ⟨_, (pss_one (ps_ret (pe_lc (own := [("look", 1)]) (g := gName 1) (tt := tYes) (te := tTup (tCons (tVar 1) (tCons (tDGet (tFld K (tVar 0) "_shown") (tVar 1)) tNil))) rfl scTRows.nd (pi_tup (pe_fld (pv 0) rfl)) (blkOk_by (N := ["self", "look"]) (sc := defScope sTableRows) (by decide +kernel)) (fun _ _ _ _ _ => (pg_name (i := 1) scTRows.nd rfl (Or.inl rfl))) (fun _ _ _ _ _ => pts_nil)
      (fun _ _ _ _ _ => (pe_tup (pa_cons (pv 1) (pa_cons (pe_dget (hu_of hr) (pe_fld (pv 0) rfl) (pv 1) (fun _ _ => rfl)) pa_nil))))))), ?_⟩
    refine ⟨_, rfl, p, CT, dx, _, _, rfl, hp, cl, nK, pf3_looks _ _ _, kt, rfl, ⟨_, SqT.of hkt⟩, fun D hD => lc_it (walk_tup (K := K) (a := kt) (xs := (rs.map (·.1)).map V.str)) (fun i H' => ∃ rows : List RowIn, Same H H' ∧ H' D = some (.lst (rows.map fun r => V.ref r.t)) ∧ (∀ r ∈ rows, RowT H' r) ∧ rows.map RowIn.dat = (rs.take i).map rdat)
      ⟨[], Same.upd_new hD, upd_same, fun r hr => absurd hr (by simp), rfl⟩ (fun i H' _ ⟨_, s1, _⟩ => SqT.of (s1 _ _ hkt)) ?_ ?_⟩
    · rintro i v H1 H2 hi ⟨rows, s1, hD1, hrt, hdat⟩ ⟨rfl, hv⟩
      have hv2 : ((rs.map (·.1)).map V.str)[i]? = some v := hv
      rw [List.getElem?_map, List.getElem?_map] at hv2
      cases hri : rs[i]? with
      | none => rw [hri] at hv2; cases hv2
      | some x =>
      rw [hri] at hv2
      obtain rfl : V.str x.1 = v := Option.some.inj hv2
      obtain ⟨a, hval, ha⟩ := hrs.val ok.knd (List.mem_of_getElem? hri)
      have hsd1 := s1 _ _ hsd
      have dg : DGet H2 sd (kV (Sum.inr x.1)) (some (.ref a)) := by rw [← hval]; exact DGet.k hsd1
      have hlen : rows.length ≤ 24 := by
        have q := congrArg List.length hdat
        rw [List.length_map, List.length_map, List.length_take] at q
        have := ok.kfew
        omega
      refine ⟨rfl, _, rfl, _, rfl, p, CT, dx, _, _, rfl, s1 _ _ hp, cl, nS, pf3_shown _ _ _, _, rfl, sd, _, rfl, dg, by show 2 ≤ sizeLine; decide, fun t ht => ?_⟩
      have ntD : D ≠ t := ne_of_none hD1 ht
      refine ⟨_, by rw [upd_ne ntD]; exact hD1, by rw [List.length_map]; exact small1000 (by omega), rows ++ [⟨t, .str x.1, a, x.2.map V.str⟩], fun c o h => ?_, by rw [upd_same, List.map_append]; rfl, fun r hr => ?_, ?_⟩
      · rw [upd_ne (ne_of_none h hD), upd_ne (ne_of_none (s1 _ _ h) ht)]
        exact s1 _ _ h
      · have keep : ∀ {c : Addr} {ys : List V}, H2 c = some (.tup ys) → upd (upd H2 t (.tup [.str x.1, .ref a])) D (.lst ((rows.map fun r => V.ref r.t) ++ [.ref t])) c = some (.tup ys) := fun {c ys} h => by
          have nD : c ≠ D := fun q => by rw [q, hD1] at h; cases h
          rw [upd_ne nD, upd_ne (ne_of_none h ht)]
          exact h
        rcases List.mem_append.mp hr with h | h
        · exact ⟨keep (hrt r h).pair, keep (hrt r h).tup⟩
        · obtain rfl := List.mem_singleton.mp h
          exact ⟨by rw [upd_ne ntD.symm, upd_same], keep (s1 _ _ ha)⟩
      · have e : rs.take (i + 1) = rs.take i ++ [x] := by rw [List.take_succ, hri]; rfl
        rw [List.map_append, hdat, e, List.map_append]
        rfl
    · rintro H1 ⟨rows, s1, hD1, hrt, hdat⟩
      rw [List.length_map, List.length_map, List.take_length] at hdat
      exact k H1 D rows s1 hD hD1 hrt hdat
end
end Dl

/-! C(e, ..) in a try's body: what the class's __init__ lets out is wished for at the caller's slots; lists of texts as data -/
namespace Dl
open PySem PySem.Spec PyProof.Rows L2
def tMakeS (C : Addr) (sp : Sp) (E : L2.St → XK) (t : TA) : TE := fun σ H Q => t σ H fun vs H1 =>
  ∀ x dx, H1 x = none → H1 dx = none → dx ≠ x → sp (.ref x :: vs) (upd (upd H1 dx (.own x)) x (.ins C dx [])) (fun v H2 => v = .non ∧ Q (.ref x) H2) (E σ)
theorem make_slots {X : Cx} {CX : CXT} {k : Nat} {f C : Addr} {fd : FuncData} {ps : List Str} {sp : Sp} {E : XK} {σ : L2.St} {pins : List (Addr × Obj)} {H : Hp} {s : Shared} {Q : VK} {us : List Value} {vs : List V}
    (M : Mk X.K C f) (F : FnOk X.prog X.w X.K X.mg X.base CX k f fd ps sp) (hr : Room (k + 1) X.A) (hb : Binds X.K fd ps []) (hx : PassesAt CX X σ E) (I : Inv X pins σ H s) (r : Vals vs us)
    (h : ∀ x dx, H x = none → H dx = none → dx ≠ x → sp (.ref x :: vs) (upd (upd H dx (.own x)) x (.ins C dx [])) (fun v H2 => v = .non ∧ Q (.ref x) H2) E) :
    wpAny (model X.prog X.w) X.A (call (.ref C) us) (EP X pins σ Q) X.xe s := by
  have at0 : H s.heap.objs.size = none := I.hok.fresh (Nat.le_refl _)
  have at1 : H (s.heap.objs.size + 1) = none := I.hok.fresh (Nat.le_succ _)
  have want := h _ _ at1 at0 (Nat.ne_of_lt (Nat.lt_succ_self _))
  have J := Inv.made (C := C) I
  have rv : Vals (V.ref (s.heap.objs.size + 1) :: vs) (Value.ref (s.heap.objs.size + 1) :: us) := .cons rfl r
  have len : (Value.ref (s.heap.objs.size + 1) :: us).length = ps.length := by rw [← rv.length]; exact F.len _ _ _ _ want
  have bind := hb _ (Value.ref (s.heap.objs.size + 1) :: us) J.kIn (by rw [List.append_nil]; exact len)
  rw [List.append_nil] at bind
  have body := F.run _ X.stack _ _ ⟨Value.ref (s.heap.objs.size + 1) :: us, []⟩ _ _ _ E (hr.make C us []) (J.env0.make C us []) bind rv want
  apply wpAny_call
  apply make_map (f := f) I.kIn M.makes M.init (beq_iff_eq.mp M.fn)
  apply codeAny_mono body
  intro out s2 hout
  match out, hout with
  | .error er, hout => exact hx pins _ _ er s2 J hout
  | .ok (.ret u), hout =>
    obtain ⟨v, H2, J2, rel, ev, q⟩ := J.after hout
    cases ev
    exact ⟨rel, V.ref (s.heap.objs.size + 1), H2, J2, rfl, q⟩
theorem pe_makeS {X : Cx} {CX : CXT} {k : Nat} {f C : Addr} {fd : FuncData} {ps : List Str} {sp : Sp} {E : L2.St → XK} {x : Str} {p pos : Pos} {e : Expr} {es : List Expr} {t : TA}
    (M : Mk X.K C f) (F : FnOk X.prog X.w X.K X.mg X.base CX k f fd ps sp) (hr : Room (k + 1) X.A) (hg : Gl X x) (hm : X.mg x = some (.ref C)) (hb : Binds X.K fd ps []) (hx : ∀ σ, PassesAt CX X σ (E σ)) (ha : PA X (e :: es) t)
    (hdb : (x == ("__debug__" : Str)) = false := by decide) (he : starEach (e :: es) X.env = (false, eval e X.env) :: starEach es X.env := by rfl) (hpl : (backTo pos (starEach es X.env)).any (·.1) = false := by rfl) :
    PE X (.Call (.Name x p) (e :: es) [] pos) (tMakeS C sp E t) := by
  constructor
  intro pins s σ H Q I h
  apply wpAny_Call_Name_kw
  apply ld_glob I hg hm _ hdb
  apply PySem.W.callWith_K (h₀ := X.base) I.ok.mod.kin M.kp _ he hpl
  apply thn (ha.run pos pins s σ H _ I h)
  rintro us s1 ⟨vs, H1, I1, r, q⟩
  exact ⟨I1.kIn, make_slots M F hr hb (hx σ) I1 r q⟩
/-! ### lists and tuples of texts as data -/
theorem canAll_strs : ∀ {zs : List Str}, (∀ z ∈ zs, PyData.canLay0 (.str z) = true) → PyData.canLayAll0 (zs.map PyData.str) = true
  | [], _ => by simp [PyData.canLayAll0]
  | z :: r, h => by
    rw [List.map_cons, PyData.canLayAll0, Bool.and_eq_true]
    exact ⟨h z (List.mem_cons_self ..), canAll_strs fun y hy => h y (List.mem_cons_of_mem _ hy)⟩
theorem depthAll_strs : ∀ zs : List Str, PyData.depthAll (zs.map PyData.str) = 0
  | [] => by simp [PyData.depthAll]
  | z :: r => by rw [List.map_cons, PyData.depthAll, depthAll_strs r]; simp [PyData.depth]
theorem shaped_strs {zs : List Str} (h : ∀ z ∈ zs, PyData.canLay0 (.str z) = true) : SeqAt.shaped (.list (zs.map PyData.str)) = true := by
  unfold SeqAt.shaped
  rw [Bool.and_eq_true, PyData.canLay0, PyData.depth, depthAll_strs]
  exact ⟨canAll_strs h, by decide⟩
theorem dpAll_strs {K : PySem.W.Frag} {H : Hp} : ∀ zs : List Str, DpAll K H (zs.map V.str) (zs.map PyData.str)
  | [] => .nil
  | z :: r => .cons (.str z) (dpAll_strs r)
theorem eqvAll_strs : ∀ zs ys : List Str, PyData.eqvAll (zs.map PyData.str) (ys.map PyData.str) = decide (zs = ys)
  | [], [] => by simp [PyData.eqvAll]
  | [], _ :: _ => by simp [PyData.eqvAll]
  | _ :: _, [] => by simp [PyData.eqvAll]
  | z :: r, y :: q => by
    rw [List.map_cons, List.map_cons, PyData.eqvAll, eqvAll_strs r q, PyData.eqv]
    by_cases h1 : z = y <;> by_cases h2 : r = q <;> simp [h1, h2]
end Dl

namespace Dl
open PySem PySem.Spec PyProof.Rows L2
/-! ### the drawn names: one to three letters, and the number of the names before where it was there -/
def LT : Str := "abcdefghijklmnopqrstuvwxyz"
def isLet (c : Nat) : Prop := 97 ≤ c ∧ c ≤ 122
def dg (n : Nat) : List Nat := (Str.ofString (toString (n : Int))).cps.toList
theorem lt_facts : ∀ c ∈ LT.cps.toList, 97 ≤ c ∧ c ≤ 122 := by decide +kernel
theorem lt_len : LT.cps.toList.length = 26 := by decide +kernel
theorem dg_facts : ∀ k, k < 25 → dg k ≠ [] ∧ (dg k).length ≤ 2 ∧ ∀ c ∈ dg k, ¬ (97 ≤ c ∧ c ≤ 122) ∧ c ∈ SG.cps.toList ∧ c < 1114112 := by decide +kernel
theorem dg_inj : ∀ j, j < 25 → ∀ k, k < 25 → dg j = dg k → j = k := by decide +kernel
theorem let_sg : ∀ c, c < 123 → 97 ≤ c → c ∈ SG.cps.toList ∧ c < 1114112 := by decide +kernel
theorem sg_small' : ∀ c ∈ SG.cps.toList, c < 1114112 := by decide +kernel
theorem nil_codes : ("" : Str).cps.toList = [] := by decide +kernel
/-- the name that was drawn as number i -/
structure NameAt (i : Nat) (z : Str) : Prop where
  ex : ∃ l : List Nat, l ≠ [] ∧ l.length ≤ 3 ∧ (∀ c ∈ l, isLet c) ∧ (z.cps.toList = l ∨ z.cps.toList = l ++ dg i)
structure NamesOk (zs : List Str) : Prop where
  at_ : ∀ i z, zs[i]? = some z → NameAt i z
  nd : zs.Nodup
  few : zs.length ≤ 24
theorem codes_ext {a b : Str} (h : a.cps.toList = b.cps.toList) : a = b := by
  cases a; cases b
  congr
  exact Array.ext' h
theorem let_dg {l l' : List Nat} {j k : Nat} (hj : j < 25) (hk : k < 25) (hl : ∀ c ∈ l, isLet c) (hl' : ∀ c ∈ l', isLet c) (h : l' ++ dg j = l ++ dg k) : j = k := by
  have tw : ∀ (m d : List Nat), (∀ c ∈ m, isLet c) → (∀ c ∈ d, ¬ isLet c) → (m ++ d).dropWhile (fun c => decide (97 ≤ c ∧ c ≤ 122)) = d := by
    intro m
    induction m with
    | nil =>
      intro d _ hd
      cases d with
      | nil => rfl
      | cons a r =>
        have q : ¬ (97 ≤ a ∧ a ≤ 122) := hd a (List.mem_cons_self ..)
        simp only [List.nil_append, List.dropWhile]
        rw [decide_eq_false q]
    | cons a r ih =>
      intro d hm hd
      have q : 97 ≤ a ∧ a ≤ 122 := hm a (List.mem_cons_self ..)
      rw [List.cons_append, List.dropWhile, decide_eq_true q]
      exact ih d (fun c hc => hm c (List.mem_cons_of_mem _ hc)) hd
  have e := congrArg (List.dropWhile fun c => decide (97 ≤ c ∧ c ≤ 122)) h
  rw [tw l' (dg j) hl' fun c hc => ((dg_facts j hj).2.2 c hc).1, tw l (dg k) hl fun c hc => ((dg_facts k hk).2.2 c hc).1] at e
  exact dg_inj j hj k hk e
theorem fresh_tail {zs : List Str} {l : List Nat} {z : Str} (ok : NamesOk zs) (h23 : zs.length ≤ 23) (hl : ∀ c ∈ l, isLet c) (hz : z.cps.toList = l ++ dg zs.length) : z ∉ zs := by
  intro hm
  obtain ⟨i, hi⟩ := List.getElem?_of_mem hm
  have hlt : i < zs.length := (List.getElem?_eq_some_iff.mp hi).1
  obtain ⟨l', _, _, hl', e⟩ := (ok.at_ i z hi).ex
  rcases e with e | e
  · rw [hz] at e
    have d := dg_facts zs.length (by omega)
    cases hd : dg zs.length with
    | nil => exact d.1 hd
    | cons c r =>
      have m1 : c ∈ l' := by rw [← e, hd]; simp
      have m2 : c ∈ dg zs.length := by rw [hd]; simp
      exact (d.2.2 c m2).1 (hl' c m1)
  · rw [hz] at e
    have := let_dg (by omega) (by omega) hl hl' e.symm
    omega
theorem NameAt.sg {i : Nat} {z : Str} (h : NameAt i z) (hi : i < 25) : (∀ c ∈ z.cps.toList, c ∈ SG.cps.toList) ∧ 1 ≤ z.length ∧ z.length ≤ 5 := by
  obtain ⟨l, h1, h2, h3, h4⟩ := h.ex
  have zl : z.length = z.cps.toList.length := by simp [Str.length]
  have l1 : 1 ≤ l.length := by cases l with | nil => exact absurd rfl h1 | cons _ _ => simp
  have d := dg_facts i hi
  rcases h4 with e | e
  · refine ⟨fun c hc => ?_, by rw [zl, e]; exact l1, by rw [zl, e]; omega⟩
    rw [e] at hc
    exact (let_sg c (by have := (h3 c hc).2; omega) (h3 c hc).1).1
  · refine ⟨fun c hc => ?_, by rw [zl, e, List.length_append]; omega, by rw [zl, e, List.length_append]; omega⟩
    rw [e] at hc
    rcases List.mem_append.mp hc with hc | hc
    · exact (let_sg c (by have := (h3 c hc).2; omega) (h3 c hc).1).1
    · exact (d.2.2 c hc).2.1
theorem NameAt.valid {i : Nat} {z : Str} (h : NameAt i z) (hi : i < 25) : validN z = true := by
  obtain ⟨h1, h2, h3⟩ := h.sg hi
  unfold validN
  rw [decide_eq_true h2, decide_eq_true (show z.length ≤ 12 by omega), List.all_eq_true.mpr fun c hc => decide_eq_true (h1 c hc)]
  rfl
theorem NamesOk.valid {zs : List Str} (ok : NamesOk zs) {z : Str} (hz : z ∈ zs) : validN z = true := by
  obtain ⟨i, hi⟩ := List.getElem?_of_mem hz
  have hlt : i < zs.length := (List.getElem?_eq_some_iff.mp hi).1
  exact (ok.at_ i z hi).valid (by have := ok.few; omega)
theorem valid_small {z : Str} (h : validN z = true) : z.length ≤ 12 ∧ (∀ c ∈ z.cps.toList, c < 1114112) := by
  unfold validN at h
  simp only [Bool.and_eq_true, decide_eq_true_eq] at h
  exact ⟨h.2.1, fun c hc => sg_small' c (of_decide_eq_true (List.all_eq_true.mp h.2.2 c hc))⟩
/-- everything but the bag at b stands -/
def SameB (b : Addr) (H H' : Hp) : Prop := ∀ c o, c ≠ b → H c = some o → H' c = some o
theorem SameB.refl (b : Addr) (H : Hp) : SameB b H H := fun _ _ _ h => h
theorem SameB.trans {b : Addr} {H H1 H2 : Hp} (s : SameB b H H1) (t : SameB b H1 H2) : SameB b H H2 := fun c o n h => t c o n (s c o n h)
theorem SameB.upd {b : Addr} {H : Hp} {o : HO} : SameB b H (upd H b o) := fun c u n h => by rw [upd_ne n]; exact h
theorem SameB.of {b : Addr} {H H' : Hp} (s : Same H H') : SameB b H H' := fun c o _ h => s c o h
theorem SameB.free {b : Addr} {H H' : Hp} (s : SameB b H H') {c : Addr} (n : c ≠ b) (h : H' c = none) : H c = none := by
  cases e : H c with
  | none => rfl
  | some o => rw [s c o n e] at h; cases h
theorem upd_none {H : Hp} {b c : Addr} {o : HO} (h : upd H b o c = none) : H c = none ∧ c ≠ b := by
  by_cases e : c = b
  · subst e; rw [upd_same] at h; cases h
  · rw [upd_ne e] at h; exact ⟨h, e⟩
structure TxtM (mg : Str → Option Value) : Prop where
  range : mg "range" = none
  len : mg "len" = none
  str : mg "str" = none
def spName : Sp := fun vs H Q _ => ∃ (b u : Addr) (L : List Int) (zs : List Str), vs = [.ref b, .ref u] ∧ H b = some (.lst (L.map V.int)) ∧ BagOk L ∧ u ≠ b ∧ H u = some (.lst (zs.map V.str)) ∧ NamesOk zs ∧ zs.length ≤ 23 ∧
  ∀ (L' : List Int) (z : Str), BagOk L' → NameAt zs.length z → z ∉ zs → Q (.str z) (upd H b (.lst (L'.map V.int)))
def spNames : Sp := fun vs H Q _ => ∃ (b : Addr) (L : List Int) (n : Int), vs = [.ref b, .int n] ∧ H b = some (.lst (L.map V.int)) ∧ BagOk L ∧ 0 ≤ n ∧ n ≤ 24 ∧
  ∀ (H' : Hp) (u : Addr) (L' : List Int) (zs : List Str), SameB b H H' → H u = none → H' u = some (.lst (zs.map V.str)) → H' b = some (.lst (L'.map V.int)) → BagOk L' → NamesOk zs → zs.length = n.toNat → Q (.ref u) H'
theorem cat_codes (a b : Str) : (a ++ b).cps.toList = a.cps.toList ++ b.cps.toList := by
  show (a.cps ++ b.cps).toList = _
  simp
theorem cat_len (a b : Str) : (a ++ b).length = a.length + b.length := by
  show (a.cps ++ b.cps).size = _
  rw [Array.size_append]
  rfl
section
variable {P : Program} {w : World} {K : PySem.W.Frag} {mg : Str → Option Value} {base : Heap}
theorem scName : FnScope ["_law_bag_here", "_law_used", "_law_letters", "_law_name_here", "_law_k"] ["_law_bag_here", "_law_used"] (defScope sLawName) := ⟨rfl, rfl, rfl, by decide +kernel, rfl, by decide +kernel, by decide +kernel⟩
theorem ok_name {f : Addr} {fd : FuncData} (F : Fun K "_law_name" "_law_name" sLawName f fd) (T : TxtM mg) (gT : Dfn P w K mg base CX0 1 "_law_take" ["_law_bag_here", "_law_size"] spTake) :
    FnOk P w K mg base CX0 2 f fd ["_law_bag_here", "_law_used"] spName := by
  obtain ⟨fT, dT, mT, kT, bT, GT⟩ := gT
  refine F.ok scName (fun vs H Q E h => ?_) (fun cdv A outer s H vs Q E hr h => ?_)
  · obtain ⟨a, u, L, zs, rfl, _⟩ := h
    rfl
  · obtain ⟨b, u, L, zs, rfl, hb, hok, hub, hu, ok, hlen, k⟩ := h
    have hr1 : Room 1 _ := hr
    refine ⟨_, (pss_cons (ps_set (i := 2) scName.nd rfl (Or.inl rfl) pe_str)
        (pss_cons (ps_set (i := 3) scName.nd rfl (Or.inl rfl) pe_str)
        (pss_cons (ps_for PassesOwn.never rfl (pi_range1 (by rfl) T.range (pa_cons (pe_op op_add pe_int (pe_call GT hr1 (by rfl) mT kT bT .nil pass0 (pa_cons (pv 0) (pa_cons pe_int pa_nil)))) pa_nil)) (pg_name (i := 4) scName.nd rfl (Or.inl rfl)) (pss_one (ps_set (i := 3) scName.nd rfl (Or.inl rfl) (pe_op op_add_str (pv 3) (pe_ix ix_str (pv 2) (pe_call GT hr1 (by rfl) mT kT bT .nil pass0 (pa_cons (pv 0) (pa_cons pe_int pa_nil))) (fun _ _ => rfl))))))
        (pss_cons (ps_if (pt_cmpR op_in_seq (pv 3) (pv 1) (by rfl)) (pss_one (ps_set (i := 3) scName.nd rfl (Or.inl rfl) (pe_op op_add_str (pv 3) (pe_callTy call_str_int (by rfl) T.str (by decide +kernel) (pa_cons (pe_callB call_len_seq (by rfl) T.len PySem.boot_len (pa_cons (pv 1) pa_nil)) pa_nil))))) pss_nil)
        (pss_one (ps_ret (pv 3))))))), ?_⟩
    refine ⟨_, rfl, b, L, 3, rfl, hb, hok, by decide, by decide, fun L1 r ok1 r0 r1 => ⟨_, _, rfl, rfl, _, rfl, by omega, by omega, for_range (n := (1 + r).toNat) (lo := 0)
      (fun i σ H' => ∃ (z : Str) (x : Option V) (L2 : List Int), σ = [some (.ref b), some (.ref u), some (.str LT), some (.str z), x] ∧ H' = upd H b (.lst (L2.map V.int)) ∧ BagOk L2 ∧ z.cps.toList.length = i ∧ ∀ c ∈ z.cps.toList, isLet c)
      ⟨_, none, L1, rfl, rfl, ok1, by decide +kernel, fun c hc => absurd hc (by rw [nil_codes]; exact List.not_mem_nil)⟩ ?_ ?_⟩⟩
    · rintro i σ H2 hi ⟨z, x, L2, rfl, rfl, ok2, hz, hzc⟩
      refine ⟨_, rfl, _, rfl, _, rfl, b, L2, 26, rfl, upd_same, ok2, by decide, by decide, fun L3 q ok3 q0 q1 => ?_⟩
      have hq3 : q.toNat < LT.cps.toList.length := by rw [lt_len]; omega
      refine ⟨LT, q, LT.cps.toList[q.toNat], rfl, rfl, by decide +kernel, ?_, ?_⟩
      · have e := atI_nat (xs := LT.cps.toList) (j := q.toNat) (List.getElem?_eq_getElem hq3)
        rw [Int.toNat_of_nonneg q0] at e
        exact e
      · have ez : z.length = i := hz
        refine ⟨z, _, rfl, rfl, ?_, ?_⟩
        · rw [ez]
          exact Nat.le_of_lt (small1000 (by show i + 1 ≤ 1000; omega))
        · refine ⟨_, _, L3, rfl, upd_upd, ok3, ?_, ?_⟩
          · rw [cat_codes, List.length_append, hz]
            rfl
          · intro c hc
            rw [cat_codes] at hc
            rcases List.mem_append.mp hc with h | h
            · exact hzc c h
            · obtain rfl : c = LT.cps.toList[q.toNat] := by simpa using h
              exact lt_facts _ (List.getElem_mem hq3)
    · rintro σ H2 ⟨z, x, L2, rfl, rfl, ok2, hz, hzc⟩
      have zl : z.length = (1 + r).toNat := hz
      have hne : z.cps.toList ≠ [] := by
        intro e
        rw [e] at hz
        simp at hz
        omega
      have at0 : NameAt zs.length z := ⟨z.cps.toList, hne, by omega, hzc, .inl rfl⟩
      refine ⟨_, rfl, _, rfl, u, _, rfl, .inl (SqL.of (by rw [upd_ne hub]; exact hu)), rfl, flat_strs zs, _, rfl, ?_⟩
      show if (inV (.str z) (zs.map V.str)) = true then _ else _
      rw [inV_str]
      by_cases hm : z ∈ zs
      · rw [decide_eq_true hm]
        refine iteT ⟨_, rfl, _, rfl, u, _, rfl, .inl (SqL.of (by rw [upd_ne hub]; exact hu)), _, rfl, ?_, z, _, rfl, rfl, ?_, _, rfl, ?_⟩
        · rw [List.length_map]
          have : ((zs.length : Nat) : Int).natAbs = zs.length := by simp
          rw [this]
          exact Nat.lt_of_le_of_lt (Nat.log2_le_self _) (by omega)
        · have d := (dg_facts zs.length (by omega)).2.1
          have e : (Str.ofString (toString ((((zs.map V.str).length : Nat) : Int)))).length = (dg zs.length).length := by
            rw [List.length_map]
            simp [dg, Str.length]
          show z.length + (Str.ofString (toString ((((zs.map V.str).length : Nat) : Int)))).length ≤ sizeLine
          rw [e, zl]
          exact Nat.le_of_lt (small1000 (by omega))
        · have ez : (z ++ (Str.ofString (toString ((((zs.map V.str).length : Nat) : Int))))).cps.toList = z.cps.toList ++ dg zs.length := by
            rw [cat_codes, List.length_map]
            rfl
          exact k L2 _ ok2 ⟨z.cps.toList, hne, by omega, hzc, .inr ez⟩ (fresh_tail ok hlen hzc ez)
      · rw [decide_eq_false hm]
        exact iteF ⟨_, rfl, k L2 z ok2 at0 hm⟩
theorem scNames : FnScope ["_law_bag_here", "_law_count", "_law_names_here", "_law_k"] ["_law_bag_here", "_law_count"] (defScope sLawNames) := ⟨rfl, rfl, rfl, by decide +kernel, rfl, by decide +kernel, by decide +kernel⟩
theorem ok_names {f : Addr} {fd : FuncData} (F : Fun K "_law_names" "_law_names" sLawNames f fd) (T : TxtM mg) (gN : Dfn P w K mg base CX0 2 "_law_name" ["_law_bag_here", "_law_used"] spName) :
    FnOk P w K mg base CX0 3 f fd ["_law_bag_here", "_law_count"] spNames := by
  obtain ⟨fNm, dNm, mNm, kNm, bNm, GNm⟩ := gN
  refine F.ok scNames (fun vs H Q E h => ?_) (fun cdv A outer s H vs Q E hr h => ?_)
  · obtain ⟨a, L, n, rfl, _⟩ := h
    rfl
  · obtain ⟨b, L, n, rfl, hb, hok, hn0, hn1, k⟩ := h
    have hr2 : Room 2 _ := hr
    refine ⟨_, (pss_cons (ps_set (i := 2) scNames.nd rfl (Or.inl rfl) (pe_lst pa_nil))
        (pss_cons (ps_for PassesOwn.never rfl (pi_range1 (by rfl) T.range (pa_cons (pv 1) pa_nil)) (pg_name (i := 3) scNames.nd rfl (Or.inl rfl)) (pss_one (ps_expr (pe_bm PySem.F.plainAttrs_list PySem.F.slot_list_append PySem.F.type_list_append mt_append (pv 2) (pa_cons (pe_call GNm hr2 (by rfl) mNm kNm bNm .nil pass0 (pa_cons (pv 0) (pa_cons (pv 2) pa_nil))) pa_nil)))))
        (pss_one (ps_ret (pv 2))))), ?_⟩
    refine ⟨Nat.zero_le _, fun u hu => ?_⟩
    have nub : u ≠ b := fun e => by rw [e, hb] at hu; cases hu
    refine ⟨_, rfl, _, rfl, by omega, by omega, for_range (n := n.toNat) (lo := 0)
      (fun i σ H' => ∃ (zs : List Str) (x : Option V) (L2 : List Int), σ = [some (.ref b), some (.int n), some (.ref u), x] ∧ SameB b H H' ∧ H' b = some (.lst (L2.map V.int)) ∧ BagOk L2 ∧ H' u = some (.lst (zs.map V.str)) ∧ NamesOk zs ∧ zs.length = i)
      ⟨[], none, L, rfl, SameB.of (Same.upd_new hu), by rw [upd_ne nub.symm]; exact hb, hok, upd_same, ⟨fun i z h => by simp at h, by simp, by simp⟩, rfl⟩ ?_ ?_⟩
    · rintro i σ H2 hi ⟨zs, x, L2, rfl, s2, hb2, ok2, hu2, okz, hz⟩
      refine ⟨_, rfl, .inl ⟨rfl, _, SqL.of hu2⟩, _, rfl, _, rfl, b, u, L2, zs, rfl, hb2, ok2, nub, hu2, okz, by omega, fun L3 z ok3 hat hnz => ?_⟩
      refine ⟨u, _, _, rfl, rfl, by rw [upd_ne nub]; exact hu2, ?_, ?_⟩
      · rw [List.length_map]
        exact small1000 (by omega)
      · refine ⟨zs ++ [z], _, L3, rfl, fun c o n h => ?_, ?_, ok3, ?_, ⟨fun j y h => ?_, ?_, ?_⟩, ?_⟩
        · have ncu : c ≠ u := ne_of_none h hu
          rw [upd_ne ncu, upd_ne n]
          exact s2 c o n h
        · rw [upd_ne nub.symm, upd_same]
        · rw [upd_same, List.map_append]
          rfl
        · by_cases hj : j < zs.length
          · rw [List.getElem?_append_left hj] at h
            exact okz.at_ j y h
          · rw [List.getElem?_append_right (by omega)] at h
            have hj0 : j - zs.length = 0 := by
              have := (List.getElem?_eq_some_iff.mp h).1
              simp at this
              omega
            rw [hj0] at h
            obtain rfl : z = y := by simpa using h
            have : j = zs.length := by omega
            rw [this]
            exact hat
        · rw [List.nodup_append]
          refine ⟨okz.nd, by simp, fun a ha c hc => ?_⟩
          obtain rfl := List.mem_singleton.mp hc
          exact fun e => hnz (e ▸ ha)
        · rw [List.length_append]
          simp
          omega
        · rw [List.length_append, hz]
          rfl
    · rintro σ H2 ⟨zs, x, L2, rfl, s2, hb2, ok2, hu2, okz, hz⟩
      exact ⟨_, rfl, k H2 u L2 zs s2 hu hu2 hb2 ok2 okz hz⟩
end
end Dl

namespace Dl
open PySem PySem.Spec PyProof.Rows L2
/-! ### texts: what is a valid name -/
theorem len_pos {z : Str} (h : ¬ z = ("" : Str)) : 1 ≤ z.length := by
  have e0 : ("" : Str) = ⟨#[]⟩ := by decide +kernel
  cases z with
  | mk cps =>
    by_cases q : cps.size = 0
    · exfalso
      apply h
      rw [e0, Array.eq_empty_of_size_eq_zero q]
    · show 1 ≤ cps.size
      omega
theorem valid_of {z : Str} (h1 : 1 ≤ z.length) (h : ∀ c ∈ z.cps.toList, c ∈ SG.cps.toList) : validN z = decide (z.length ≤ 12) := by
  unfold validN
  rw [decide_eq_true h1, List.all_eq_true.mpr fun c hc => decide_eq_true (h c hc)]
  simp
theorem invalid_of {z : Str} {c : Nat} (hc : c ∈ z.cps.toList) (h : c ∉ SG.cps.toList) : validN z = false := by
  unfold validN
  have q : (z.cps.toList.all fun c => decide (c ∈ SG.cps.toList)) = false := by
    rw [List.all_eq_false]
    exact ⟨c, hc, by simpa using h⟩
  rw [q]
  simp
end Dl

namespace Dl
open PySem PySem.Spec PyProof.Rows L2
/-! ### names and texts as data -/
def canS (z : Str) : Prop := PyData.canLay0 (.str z) = true
theorem can_of {z : Str} (h : ∀ c ∈ z.cps.toList, c < 1114112) : canS z := by
  unfold canS PyData.canLay0 PyData.strOk
  rw [Array.all_eq_true]
  intro i hi
  exact decide_eq_true (h _ (by simp))
/-- a value that is passed as a name, as data -/
def NmD (H : Hp) : V → Prop
  | .str z => canS z ∧ z.length ≤ 1000
  | .int _ => True
  | .non => True
  | .ref p => ∃ zs : List Str, H p = some (.lst (zs.map V.str)) ∧ ∀ z ∈ zs, canS z
  | _ => False
theorem NmD.ok {H : Hp} {v : V} (h : NmD H v) : NmOk H v := by
  cases v with
  | str z => exact Nat.le_of_lt (small1000 h.2)
  | int i => trivial
  | non => trivial
  | ref p => obtain ⟨zs, e, _⟩ := h; exact ⟨_, e⟩
  | bl _ => exact h.elim
  | byt _ => exact h.elim
  | flt _ => exact h.elim
  | ty _ => exact h.elim
theorem NmD.of {H H' : Hp} {v : V} (s : Same H H') (h : NmD H v) : NmD H' v := by
  cases v with
  | str z => exact h
  | int i => trivial
  | non => trivial
  | ref p => obtain ⟨zs, e, q⟩ := h; exact ⟨zs, s _ _ e, q⟩
  | bl _ => exact h.elim
  | byt _ => exact h.elim
  | flt _ => exact h.elim
  | ty _ => exact h.elim
theorem any_str (es : List Str) (y : Str) : (es.map PyData.str).any (fun z => PyData.eqv z (.str y)) = decide (y ∈ es) := by
  rw [List.any_map]
  induction es with
  | nil => simp
  | cons a r ih =>
    rw [List.any_cons, ih]
    show (PyData.eqv (.str a) (.str y) || decide (y ∈ r)) = _
    rw [PyData.eqv]
    by_cases h : a = y
    · subst h; simp
    · have h2 : ¬ y = a := fun q => h q.symm
      simp [h, h2]
theorem any_no (es : List Str) {d : PyData} (h : ∀ z : Str, PyData.eqv (.str z) d = false) : (es.map PyData.str).any (fun z => PyData.eqv z d) = false := by
  rw [List.any_map, List.any_eq_false]
  intro z _
  show ¬ PyData.eqv (.str z) d = true
  rw [h z]
  decide
/-- the data of a name -/
theorem NmD.dat (K : PySem.W.Frag) {H : Hp} {v : V} (h : NmD H v) : ∃ d, Dp K H v d ∧ PyData.canLay0 d = true ∧ d.depth ≤ 1 ∧ ∀ es : List Str, (es.map PyData.str).any (fun z => PyData.eqv z d) = knows v es := by
  cases v with
  | str z => exact ⟨.str z, .str z, h.1, by simp [PyData.depth], fun es => any_str es z⟩
  | int i => exact ⟨.int i, .int i, by simp [PyData.canLay0], by simp [PyData.depth], fun es => any_no es fun z => by rw [PyData.eqv]⟩
  | non => exact ⟨.none, .non, by simp [PyData.canLay0], by simp [PyData.depth], fun es => any_no es fun z => by rw [PyData.eqv]⟩
  | ref p =>
    obtain ⟨zs, e, q⟩ := h
    refine ⟨.list (zs.map PyData.str), .lst (SqL.of e) (dpAll_strs zs), ?_, ?_, fun es => any_no es fun z => by rw [PyData.eqv]⟩
    · rw [PyData.canLay0]; exact canAll_strs q
    · rw [PyData.depth, depthAll_strs]; decide
  | bl _ => exact h.elim
  | byt _ => exact h.elim
  | flt _ => exact h.elim
  | ty _ => exact h.elim
theorem shaped_of {d : PyData} (h : PyData.canLay0 d = true) (h2 : d.depth ≤ 1) : SeqAt.shaped d = true := by
  unfold SeqAt.shaped
  rw [h, Bool.true_and]
  exact decide_eq_true (by omega)
theorem room65 {k : Nat} {A : Around} (r : Room k A) : A.units + 65 < cLine := by
  have := r.un
  omega
theorem valid_can {z : Str} (h : validN z = true) : canS z := can_of (valid_small h).2
end Dl

/-! == of two dicts of tuples of texts with the same keys; == by an own __eq__, both ways -/
namespace Dl
open PySem PySem.Spec PyProof.Rows L2
theorem eqAllS (xs ys : List Str) : PyData.eqvAll (xs.map PyData.str) (ys.map PyData.str) = decide (xs = ys) := eqvAll_strs xs ys
theorem eqv_tups (xs ys : List Str) : PyData.eqv (.tuple (xs.map PyData.str)) (.tuple (ys.map PyData.str)) = decide (xs = ys) := by
  rw [PyData.eqv]
  exact eqAllS xs ys
theorem eqv_lists (xs ys : List Str) : PyData.eqv (.list (xs.map PyData.str)) (.list (ys.map PyData.str)) = decide (xs = ys) := by
  rw [PyData.eqv]
  exact eqAllS xs ys
theorem shaped_tups {zs : List Str} (h : ∀ z ∈ zs, PyData.canLay0 (.str z) = true) : SeqAt.shaped (.tuple (zs.map PyData.str)) = true := by
  unfold SeqAt.shaped
  rw [Bool.and_eq_true, PyData.canLay0, PyData.depth, depthAll_strs]
  exact ⟨canAll_strs h, by decide⟩
theorem room66 {k : Nat} {A : Around} (r : Room k A) : A.units + 66 < cLine := by
  have := r.un
  omega
section
variable {X : Cx}
def rEqRows : R2 := fun x y H Q => ∃ a b ks ls rs ss, x = .ref a ∧ y = .ref b ∧ H a = some (.dK ks) ∧ H b = some (.dK ls) ∧ RowsAt H rs ks ∧ RowsAt H ss ls ∧ rs.map Prod.fst = ss.map Prod.fst ∧ (rs.map Prod.fst).Nodup ∧
  (∀ x ∈ rs, ∀ z ∈ x.2, canS z) ∧ (∀ x ∈ ss, ∀ z ∈ x.2, canS z) ∧ Q (.bl (decide (rs = ss))) H
theorem hits_rows {P : Program} {w : World} {A : Around} {s : Shared} {H : Hp} (ih : ∀ a b (xs ys : List Str), H a = some (.tup (xs.map V.str)) → H b = some (.tup (ys.map V.str)) → (∀ z ∈ xs, canS z) → (∀ z ∈ ys, canS z) → SeqAt.EqP P w A s (.ref a) (.ref b) (decide (xs = ys)))
    {vb : List (Key × Value)} : ∀ {rs ss : List (Str × List Str)} {ks ls : List (Key × V)} {va : List (Key × Value)}, RowsAt H rs ks → RowsAt H ss ls → KV ks va → rs.map Prod.fst = ss.map Prod.fst → (∀ x ∈ rs, ∀ z ∈ x.2, canS z) → (∀ x ∈ ss, ∀ z ∈ x.2, canS z) →
      (∀ p ∈ ls, ∃ u, valueAt vb p.1 = some u ∧ RelV p.2 u) → PySem.W.KeqHitsP P w A s vb va (decide (rs = ss))
  | [], ss, ks, ls, va, hr, hs, hk, e, _, _, _ => by
    cases ss with
    | cons _ _ => cases e
    | nil =>
      cases hr
      unfold KV at hk
      cases hk
      rw [decide_eq_true rfl]
      exact .nil
  | (k, xs) :: rs, ss, ks, ls, va, hr, hs, hk, e, c1, c2, hv => by
    cases ss with
    | nil => cases e
    | cons y ss =>
      obtain ⟨k2, ys⟩ := y
      rw [List.map_cons, List.map_cons] at e
      injection e with e1 e2
      have e1' : k = k2 := e1
      subst e1'
      cases hr with
      | @cons _ _ a _ kvs ha hr =>
      cases hs with
      | @cons _ _ b _ lvs hb hs =>
      unfold KV at hk
      cases hk with
      | @cons p q ps qs h t =>
      obtain ⟨h1, h2⟩ := h
      obtain ⟨key, v⟩ := q
      have h1' : Sum.inr k = key := h1
      subst h1'
      cases h2
      obtain ⟨u, hu, ru⟩ := hv _ (List.mem_cons_self ..)
      cases ru
      have d : decide ((k, xs) :: rs = (k, ys) :: ss) = (decide (xs = ys) && decide (rs = ss)) := by
        by_cases q1 : xs = ys <;> by_cases q2 : rs = ss <;> simp [q1, q2]
      rw [d]
      exact .hit hu (ih a b xs ys ha hb (c1 _ (List.mem_cons_self ..)) (c2 _ (List.mem_cons_self ..)))
        (hits_rows ih hr hs t e2 (fun x hx => c1 x (List.mem_cons_of_mem _ hx)) (fun x hx => c2 x (List.mem_cons_of_mem _ hx)) (fun p hp => hv p (List.mem_cons_of_mem _ hp)))
theorem vals_rows {H : Hp} {ls : List (Key × V)} {vb : List (Key × Value)} (rb : KV ls vb) {ss : List (Str × List Str)} (hs : RowsAt H ss ls) (nd : (ss.map Prod.fst).Nodup) : ∀ p ∈ ls, ∃ u, valueAt vb p.1 = some u ∧ RelV p.2 u := fun p hp => by
  have nk : (ls.map (·.1)).Nodup := by
    rw [hs.keys]
    exact List.Pairwise.map Sum.inr (fun a b h e => h (Sum.inr.inj e)) nd
  have hv : valV ls p.1 = some p.2 := by
    clear hs rb
    unfold valV
    induction ls with
    | nil => cases hp
    | cons q r ih =>
      rw [List.map_cons, List.nodup_cons] at nk
      rcases List.mem_cons.mp hp with h | h
      · subst h
        simp
      · have ne : ¬ q.1 = p.1 := fun e => nk.1 (by rw [e]; exact List.mem_map.mpr ⟨p, h, rfl⟩)
        rw [List.find?_cons_of_neg (by simpa using ne)]
        exact ih h nk.2
  have rr : RelO (some p.2) (valueAt vb p.1) := by rw [← hv]; exact rb.val p.1
  obtain ⟨y, hy, ry⟩ := rr.some_of
  exact ⟨y, hy, ry⟩
theorem op_eqRows (hu : X.A.units + 66 < cLine) : OpR X (compareOp .Eq) rEqRows := by
  intro pins s σ H x y v u Q I rx ry h
  obtain ⟨a, b, ks, ls, rs, ss, rfl, rfl, ha, hb, hr, hs, e, nd, c1, c2, q⟩ := h
  cases rx
  cases ry
  obtain ⟨_, ya, va, ra, da⟩ := (show ObjOk X.prog X.w H s.heap a (.dK ks) from I.hok a _ ha)
  obtain ⟨_, yb, vb, rb, db⟩ := (show ObjOk X.prog X.w H s.heap b (.dK ls) from I.hok b _ hb)
  have hl : va.length = vb.length := by
    rw [← ra.length, ← rb.length, hr.length, hs.length]
    have := congrArg List.length e
    rw [List.length_map, List.length_map] at this
    exact this
  have ih : ∀ a b (xs ys : List Str), H a = some (.tup (xs.map V.str)) → H b = some (.tup (ys.map V.str)) → (∀ z ∈ xs, canS z) → (∀ z ∈ ys, canS z) → SeqAt.EqP X.prog X.w X.A.in1 s (.ref a) (.ref b) (decide (xs = ys)) := fun a b xs ys ha hb ca cb => by
    by_cases ab : a = b
    · subst ab
      rw [ha] at hb
      have exy : xs = ys := by
        have e : xs.map V.str = ys.map V.str := by
          injection hb with h1
          injection h1
        exact (List.map_inj_right (f := V.str) fun _ _ h => by cases h; rfl).mp e
      rw [decide_eq_true exy]
      exact (SeqAt.EqAt.same _).eqP
    · refine SeqAt.eqP_refs ab fun E Q q => ?_
      obtain ⟨as, r1⟩ := Dp.reads I (.tuple (xs.map PyData.str)) (.ref a) (.ref a) (.tup (SqT.of ha) (dpAll_strs xs)) rfl
      obtain ⟨bs, r2⟩ := Dp.reads I (.tuple (ys.map PyData.str)) (.ref b) (.ref b) (.tup (SqT.of hb) (dpAll_strs ys)) rfl
      exact SeqAt.compareEq_shaped r1 r2 (shaped_tups ca) (shaped_tups cb) (by show X.A.units + 1 + 64 < cLine; omega) (by rw [eqv_tups]; exact q)
  show wpAny (model X.prog X.w) X.A (richCompare .Eq (.ref a) (.ref b)) _ _ s
  refine PySem.W.rcP_dicts (knd := mixKind X.prog X.w) (r := decide (rs = ss)) ya yb da db (by omega) (fun _ => hits_rows ih hr hs ra e c1 c2 (vals_rows rb hs (by rw [← e]; exact nd))) _ _ ?_
  rw [show (va.length == vb.length && decide (rs = ss)) = decide (rs = ss) from by rw [hl]; simp]
  exact ⟨.bl _, H, I, rfl, q⟩
/-- a == b by the own __eq__ of a's class -/
def rEqOwn (C : Addr) (sp : Sp) (E : XK) : R2 := fun x y H Q => ∃ a b dx dy fs gs, x = .ref a ∧ y = .ref b ∧ H a = some (.ins C dx fs) ∧ H b = some (.ins C dy gs) ∧ sp [.ref a, .ref b] H (fun v H' => ∃ t, v = .bl t ∧ Q (.bl t) H') E
theorem op_eqOwn {CX : CXT} {k : Nat} {C f : Addr} {fd : FuncData} {ps : List Str} {sp : Sp} {E : XK} (F : FnOk X.prog X.w X.K X.mg X.base CX k f fd ps sp) (hs : PySem.W.findIn X.K (.ref C) "__eq__" = some (some (.ref f))) (hf : PySem.W.isFn X.K (.ref f) = true)
    (hr : Room k X.A) (hb : Binds X.K fd ps []) (hx : Passes CX X E) : OpR X (compareOp .Eq) (rEqOwn C sp E) := by
  intro pins s σ H x y v u Q I rx ry h
  obtain ⟨a, b, dx, dy, fs, gs, rfl, rfl, ha, hb', hsp⟩ := h
  cases rx
  cases ry
  obtain ⟨mA, J, _⟩ := ins_get I.hok ha
  obtain ⟨mB, J', _⟩ := ins_get I.hok hb'
  obtain ⟨od, J, _⟩ := J.look
  obtain ⟨od', J', _⟩ := J'.look
  obtain ⟨m, hF⟩ := I.fr
  show wpAny (model X.prog X.w) X.A (richCompare .Eq (.ref a) (.ref b)) (EP X pins σ Q) X.xe s
  refine PySem.W.cmp_K (op := .Eq) (tb := .ref C) hr.units0 hF I.ok.mod.kin J J'.type (by simp [PySem.W.notFirst]) hs hf ?_
  refine wpAny_mono (run_at (A := X.A) rfl F hr hb hx I (show Vals [V.ref a, V.ref b] [Value.ref a, Value.ref b] from .cons rfl (.cons rfl .nil)) hsp) (fun v s' hv => ?_) fun _ _ y => y
  obtain ⟨z, H', I', rz, t, ez, q⟩ := hv
  subst ez
  cases rz
  exact ⟨.bl t, H', I', rfl, q⟩
end
end Dl

namespace Dl
open PySem PySem.Spec PyProof.Rows L2
/-! Table: shown, alike, [..], len -/
structure TabT (P : Program) (w : World) (K : PySem.W.Frag) (mg : Str → Option Value) (base : Heap) (CT : Addr) (C : Cs) : Prop where
  cl : Cls K CT
  nL : NoAttr K CT "lamps"
  nK : NoAttr K CT "looks"
  nS : NoAttr K CT "_shown"
  tuple : mg "tuple" = none
  len : mg "len" = none
  known : Dfn P w K mg base (L2N.CX P w) 4 "check_known" ["name", "names"] (spKnown K C)
def keysOf (rs : List (Str × List Str)) : List Str := rs.map fun x : Str × List Str => x.1
theorem knows_row {v : V} {rs : List (Str × List Str)} (h : knows v (keysOf rs) = true) : ∃ x ∈ rs, v = .str x.1 := by
  cases v <;> simp only [knows] at h <;> first | cases h; done | skip
  rename_i z
  obtain ⟨x, hx, e⟩ := List.mem_map.mp (of_decide_eq_true h)
  exact ⟨x, hx, by rw [← e]⟩
def seenOf (rs : List (Str × List Str)) (z : Str) : List Str := (rs.filter fun x : Str × List Str => decide (z ∈ x.2)).map fun x : Str × List Str => x.1
theorem seen_step {rs : List (Str × List Str)} {z : Str} {i : Nat} {x : Str × List Str} (h : rs[i]? = some x) : seenOf (rs.take (i + 1)) z = seenOf (rs.take i) z ++ (if decide (z ∈ x.2) = true then [x.1] else []) := by
  unfold seenOf
  have e : rs.take (i + 1) = rs.take i ++ [x] := by rw [List.take_succ, h]; rfl
  rw [e, List.filter_append, List.map_append]
  by_cases q : z ∈ x.2 <;> simp [q]
theorem seen_len {rs : List (Str × List Str)} {z : Str} {i : Nat} : (seenOf (rs.take i) z).length ≤ i := by
  unfold seenOf
  rw [List.length_map]
  exact Nat.le_trans (List.length_filter_le _ _) (by rw [List.length_take]; omega)
def spTShown (K : PySem.W.Frag) (CT : Addr) (C : Cs) : Sp := fun vs H Q E => ∃ (p : Addr) (v : V) (ls : List Str) (rs : List (Str × List Str)), vs = [.ref p, v] ∧ TableAt CT H p ls rs ∧ TabOk ls rs ∧ NmOk H v ∧
  (∀ x ∈ rs, v = .str x.1 → ∀ a, H a = some (.tup (x.2.map V.str)) → Q (.ref a) H) ∧ (knows v (keysOf rs) = false → Out1 C.unk "name" v H E)
def spTAlike (K : PySem.W.Frag) (CT : Addr) (C : Cs) : Sp := fun vs H Q E => ∃ (p : Addr) (v u : V) (ls : List Str) (rs : List (Str × List Str)), vs = [.ref p, v, u] ∧ TableAt CT H p ls rs ∧ TabOk ls rs ∧ NmOk H v ∧ NmOk H u ∧
  (∀ x ∈ rs, ∀ y ∈ rs, v = .str x.1 → u = .str y.1 → Q (.bl (decide (x.2 = y.2))) H) ∧ (knows v (keysOf rs) = false → Out1 C.unk "name" v H E) ∧ (knows v (keysOf rs) = true → knows u (keysOf rs) = false → Out1 C.unk "name" u H E)
def spTGet (K : PySem.W.Frag) (CT : Addr) (C : Cs) : Sp := fun vs H Q E => ∃ (p q : Addr) (v u : V) (ls : List Str) (rs : List (Str × List Str)), vs = [.ref p, .ref q] ∧ TableAt CT H p ls rs ∧ TabOk ls rs ∧ H q = some (.tup [v, u]) ∧ NmOk H v ∧ NmOk H u ∧
  (∀ z ∈ ls, ∀ x ∈ rs, v = .str z → u = .str x.1 → Q (.bl (decide (z ∈ x.2))) H) ∧ (knows v ls = false → Out1 C.unk "name" v H E) ∧ (knows v ls = true → knows u (keysOf rs) = false → Out1 C.unk "name" u H E)
def spTSeen (K : PySem.W.Frag) (CT : Addr) (C : Cs) : Sp := fun vs H Q E => ∃ (p : Addr) (v : V) (ls : List Str) (rs : List (Str × List Str)), vs = [.ref p, v] ∧ TableAt CT H p ls rs ∧ TabOk ls rs ∧ NmOk H v ∧
  (∀ z ∈ ls, v = .str z → ∀ H' a, Same H H' → H a = none → H' a = some (.tup ((seenOf rs z).map V.str)) → Q (.ref a) H') ∧ (knows v ls = false → Out1 C.unk "name" v H E)
def spTLen (CT : Addr) : Sp := fun vs H Q _ => ∃ (p : Addr) (ls : List Str) (rs : List (Str × List Str)), vs = [.ref p] ∧ TableAt CT H p ls rs ∧ Q (.int (rs.length : Int)) H
section
variable {P : Program} {w : World} {K : PySem.W.Frag} {mg : Str → Option Value} {base : Heap} {C : Cs} {CT : Addr}
theorem scTShown : FnScope ["self", "look"] ["self", "look"] (defScope sTableShown) := ⟨rfl, rfl, rfl, by decide +kernel, rfl, by decide +kernel, by decide +kernel⟩
theorem ok_tshown {f : Addr} {fd : FuncData} (F : Fun K "shown" "Table.shown" sTableShown f fd) (T : TabT P w K mg base CT C) : FnOk P w K mg base (L2N.CX P w) 5 f fd ["self", "look"] (spTShown K CT C) := by
  obtain ⟨fK, dK, mK, kK, bK, GK⟩ := T.known
  refine okN F scTShown (fun vs H Q E h => ?_) (fun cdv A outer s H vs Q E hr h => ?_)
  · obtain ⟨p, v, ls, rs, rfl, _⟩ := h
    rfl
  · obtain ⟨p, v, ls, rs, rfl, ⟨dx, lt, sd, kt, kvs, hp, hlt, hsd, hkt, hrs⟩, ok, hv, k, kx⟩ := h
    have hr4 : Room 4 _ := hr
    refine ⟨_, (pss_cons (ps_expr (pe_call GK hr4 (by rfl) mK kK bK .nil (L2N.passes_call (L2N.takes_of rfl rfl rfl rfl) (fun _ _ _ _ h => h)) (pa_cons (pv 1) (pa_cons (pe_fld (pv 0) rfl) pa_nil))))
        (pss_one (ps_ret (pe_dget (hu_of hr) (pe_fld (pv 0) rfl) (pv 1) (fun _ _ => rfl))))), ?_⟩
    refine ⟨_, rfl, _, rfl, p, CT, dx, _, _, rfl, hp, T.cl, T.nK, pf3_looks _ _ _, v, kt, keysOf rs, rfl, hv, SqT.of hkt, fun hk => ?_, fun hk => kx hk⟩
    obtain ⟨x, hx, rfl⟩ := knows_row hk
    obtain ⟨a, hval, ha⟩ := hrs.val ok.knd hx
    have dg : DGet H sd (kV (Sum.inr x.1)) (some (.ref a)) := by rw [← hval]; exact DGet.k hsd
    exact ⟨_, rfl, p, CT, dx, _, _, rfl, hp, T.cl, T.nS, pf3_shown _ _ _, _, rfl, sd, _, rfl, dg, k x hx rfl a ha⟩
end
end Dl

namespace Dl
open PySem L2
/-! ### a table of good names is made -/
theorem chosen_sub {sh ls : List Str} (h : sh.Sublist ls) (nd : ls.Nodup) : chosen ls sh = sh := by
  unfold chosen
  induction h with
  | slnil => rfl
  | @cons sh ls a h ih =>
    rw [List.nodup_cons] at nd
    have na : ¬ a ∈ sh := fun m => nd.1 (h.subset m)
    rw [List.filter_cons_of_neg (by simpa using na)]
    exact ih nd.2
  | @cons_cons sh ls a h ih =>
    rw [List.nodup_cons] at nd
    rw [List.filter_cons_of_pos (by simp)]
    congr 1
    rw [← ih nd.2]
    apply List.filter_congr
    intro z hz
    have nz : z ≠ a := fun e => nd.1 (e ▸ hz)
    rw [ih nd.2]
    simp [nz]
theorem names_ok' : ∀ {zs acc : List Str}, zs.Nodup → (∀ z ∈ zs, validN z = true ∧ z ∉ acc) → chkNames (zs.map V.str) acc = .ok (acc ++ zs)
  | [], acc, _, _ => by simp [chkNames]
  | z :: r, acc, nd, h => by
    rw [List.nodup_cons] at nd
    have hz := h z (List.mem_cons_self ..)
    have e : chkNew (.str z) acc = none := by simp [chkNew, hz.1, hz.2]
    rw [List.map_cons, chkNames, e]
    show chkNames (r.map V.str) (acc ++ [z]) = _
    rw [names_ok' nd.2 fun y hy => ⟨(h y (List.mem_cons_of_mem _ hy)).1, fun m => by
      rcases List.mem_append.mp m with m | m
      · exact (h y (List.mem_cons_of_mem _ hy)).2 m
      · obtain rfl := List.mem_singleton.mp m
        exact nd.1 hy⟩]
    simp
theorem names_ok {zs : List Str} (nd : zs.Nodup) (h : ∀ z ∈ zs, validN z = true) : chkNames (zs.map V.str) [] = .ok zs := by
  rw [names_ok' nd fun z hz => ⟨h z hz, by simp⟩]
  simp
theorem shown_ok' : ∀ {zs ls prev : List Str}, zs.Nodup → (∀ z ∈ zs, z ∈ ls ∧ z ∉ prev) → chkShown (zs.map V.str) ls prev = none
  | [], _, _, _, _ => by simp [chkShown]
  | z :: r, ls, prev, nd, h => by
    rw [List.nodup_cons] at nd
    have hz := h z (List.mem_cons_self ..)
    rw [List.map_cons, chkShown, if_pos (show knows (.str z) ls = true by simp [knows, hz.1]), if_neg (show ¬ strOf (.str z) ∈ prev from hz.2)]
    refine shown_ok' nd.2 fun y hy => ⟨(h y (List.mem_cons_of_mem _ hy)).1, fun m => ?_⟩
    rcases List.mem_append.mp m with m | m
    · exact (h y (List.mem_cons_of_mem _ hy)).2 m
    · have e : y = z := List.mem_singleton.mp m
      exact nd.1 (e ▸ hy)
theorem rows_ok' {ls : List Str} (lnd : ls.Nodup) : ∀ {xs acc : List (Str × List Str)}, (xs.map (·.1)).Nodup → (∀ x ∈ xs, validN x.1 = true ∧ x.2.Sublist ls ∧ x.1 ∉ acc.map (·.1)) → initRows ls (xs.map fun x => (V.str x.1, x.2.map V.str)) acc = .ok (acc ++ xs)
  | [], acc, _, _ => by simp [initRows]
  | x :: r, acc, nd, h => by
    rw [List.map_cons, List.nodup_cons] at nd
    obtain ⟨h1, h2, h3⟩ := h x (List.mem_cons_self ..)
    have e : chkNew (.str x.1) (acc.map (·.1)) = none := by simp only [chkNew, h1, if_true]; rw [if_neg h3]
    have e2 : chkShown (x.2.map V.str) ls [] = none := shown_ok' (h2.nodup lnd) fun z hz => ⟨h2.subset hz, by simp⟩
    have e3 : (x.2.map V.str).map strOf = x.2 := by rw [List.map_map]; exact List.map_id _
    rw [List.map_cons, initRows, e, e2]
    show initRows ls _ (acc ++ [(x.1, chosen ls ((x.2.map V.str).map strOf))]) = _
    rw [e3, chosen_sub h2 lnd, rows_ok' lnd nd.2 fun y hy => ⟨(h y (List.mem_cons_of_mem _ hy)).1, (h y (List.mem_cons_of_mem _ hy)).2.1, fun m => by
      rw [List.map_append] at m
      rcases List.mem_append.mp m with m | m
      · exact (h y (List.mem_cons_of_mem _ hy)).2.2 m
      · have q : y.1 = x.1 := by simpa using m
        exact nd.1 (by rw [← q]; exact List.mem_map.mpr ⟨y, hy, rfl⟩)⟩]
    simp
theorem init_ok {ls : List Str} {rs : List (Str × List Str)} (ok : TabOk ls rs) : initT (ls.map V.str) (rs.map rdat) = .ok (ls, rs) := by
  unfold initT
  rw [if_neg (by rw [List.length_map, List.length_map]; have := ok.lfew; have := ok.kfew; omega), names_ok ok.lnd ok.lval]
  have e : initRows ls (rs.map rdat) [] = .ok rs := by
    have q := rows_ok' ok.lnd (xs := rs) (acc := []) ok.knd fun x hx => ⟨ok.kval x hx, ok.sub x hx, by simp⟩
    rw [List.nil_append] at q
    exact q
  simp only [e]
end Dl

namespace Dl
open PySem PySem.Spec PyProof.Rows L2
theorem TabOk.lampsNm {ls : List Str} {rs : List (Str × List Str)} (ok : TabOk ls rs) {H : Hp} : ∀ v ∈ ls.map V.str, NmOk H v := fun v hv => by
  obtain ⟨z, hz, rfl⟩ := List.mem_map.mp hv
  have h := ok.lval z hz
  unfold validN at h
  simp only [Bool.and_eq_true, decide_eq_true_eq] at h
  exact Nat.le_of_lt (small1000 (by have := h.2.1; omega))
theorem validN_nm {z : Str} (h : validN z = true) {H : Hp} : NmOk H (.str z) := by
  unfold validN at h
  simp only [Bool.and_eq_true, decide_eq_true_eq] at h
  exact Nat.le_of_lt (small1000 (by have := h.2.1; omega))
theorem TableAt.of {CT : Addr} {H H' : Hp} {p : Addr} {ls : List Str} {rs : List (Str × List Str)} (s : Same H H') (h : TableAt CT H p ls rs) : TableAt CT H' p ls rs := by
  obtain ⟨dx, lt, sd, kt, kvs, hp, hlt, hsd, hkt, hrs⟩ := h
  exact ⟨dx, lt, sd, kt, kvs, s _ _ hp, s _ _ hlt, s _ _ hsd, s _ _ hkt, hrs.of fun b ys e => s _ _ e⟩
theorem strs_back (zs : List Str) : (zs.map V.str).map strOf = zs := by rw [List.map_map]; exact List.map_id _
theorem strs_nm {zs : List Str} (h : ∀ z ∈ zs, validN z = true) {H : Hp} : ∀ v ∈ zs.map V.str, NmOk H v := fun v hv => by
  obtain ⟨z, hz, rfl⟩ := List.mem_map.mp hv
  exact validN_nm (h z hz)
end Dl

namespace Dl
open PySem PySem.Spec PyProof.Rows L2
/-! ### drawn rows: a list of pairs of a look and a list of some of the lamps -/
def BagIn (H : Hp) (b : Addr) : Prop := ∃ L : List Int, H b = some (.lst (L.map V.int)) ∧ BagOk L
theorem BagIn.lst {H : Hp} {b : Addr} (h : BagIn H b) : ∃ xs, H b = some (.lst xs) := let ⟨L, e, _⟩ := h; ⟨_, e⟩
theorem BagIn.upd {H : Hp} {b : Addr} {L : List Int} (h : BagOk L) : BagIn (upd H b (.lst (L.map V.int))) b := ⟨L, upd_same, h⟩
theorem BagIn.of {H H' : Hp} {b : Addr} (s : Same H H') (h : BagIn H b) : BagIn H' b := let ⟨L, e, o⟩ := h; ⟨L, s _ _ e, o⟩
structure RowD (b : Addr) (lamps : List Str) (H : Hp) (r : RowIn) : Prop where
  look : ∃ k, r.look = .str k
  pair : H r.t = some (.tup [r.look, .ref r.s])
  ns : r.s ≠ b
  lst : H r.s = some (.lst r.xs)
  sub : ∃ sh : List Str, r.xs = sh.map V.str ∧ sh.Sublist lamps
theorem ne_tup_lst {H : Hp} {a c : Addr} {xs ys : List V} (h1 : H a = some (.tup xs)) (h2 : H c = some (.lst ys)) : a ≠ c := fun e => by
  rw [e, h2] at h1; cases h1
theorem RowD.of {b : Addr} {lamps : List Str} {H H' : Hp} {r : RowIn} (hb : ∃ xs, H b = some (.lst xs)) (s : SameB b H H') (h : RowD b lamps H r) : RowD b lamps H' r :=
  ⟨h.look, s _ _ (let ⟨_, e⟩ := hb; ne_tup_lst h.pair e) h.pair, h.ns, s _ _ h.ns h.lst, h.sub⟩
def refsOf (rows : List RowIn) : List V := rows.map fun r => V.ref r.t
/-- the rows stand at R -/
structure RowsD (b : Addr) (lamps ks : List Str) (H : Hp) (R : Addr) (rows : List RowIn) : Prop where
  nR : R ≠ b
  lst : H R = some (.lst (refsOf rows))
  all : ∀ r ∈ rows, RowD b lamps H r
  looks : rows.map (·.look) = ks.map V.str
theorem RowsD.of {b : Addr} {lamps ks : List Str} {H H' : Hp} {R : Addr} {rows : List RowIn} (hb : ∃ xs, H b = some (.lst xs)) (s : SameB b H H') (h : RowsD b lamps ks H R rows) : RowsD b lamps ks H' R rows :=
  ⟨h.nR, s _ _ h.nR h.lst, fun r hr => (h.all r hr).of hb s, h.looks⟩
theorem RowsD.length {b : Addr} {lamps ks : List Str} {H : Hp} {R : Addr} {rows : List RowIn} (h : RowsD b lamps ks H R rows) : rows.length = ks.length := by
  have q := congrArg List.length h.looks
  rw [List.length_map, List.length_map] at q
  exact q
/-- a draw keeps everything but the bag -/
theorem draw_same {b : Addr} {H : Hp} {L : List Int} : SameB b H (upd H b (.lst (L.map V.int))) := SameB.upd
def spRows3 : Sp := fun vs H Q _ => ∃ (b a c : Addr) (ls ks : List Str), vs = [.ref b, .ref a, .ref c] ∧ BagIn H b ∧ a ≠ b ∧ c ≠ b ∧ H a = some (.lst (ls.map V.str)) ∧ H c = some (.lst (ks.map V.str)) ∧ ls.length ≤ 24 ∧ ks.length ≤ 26 ∧
  ∀ (H' : Hp) (R : Addr) (rows : List RowIn), SameB b H H' → BagIn H' b → RowsD b ls ks H' R rows → Q (.ref R) H'
theorem map_at {α β : Type} {l : List α} {f : α → β} {i : Nat} {v : β} (h : (l.map f)[i]? = some v) : ∃ x, l[i]? = some x ∧ v = f x := by
  rw [List.getElem?_map] at h
  cases e : l[i]? with
  | none => rw [e] at h; cases h
  | some x => rw [e] at h; exact ⟨x, rfl, (Option.some.inj h).symm⟩
theorem take_at {α : Type} {l : List α} {i : Nat} {x : α} (h : l[i]? = some x) : l.take (i + 1) = l.take i ++ [x] := by
  rw [List.take_succ, h]
  rfl
theorem sub_short {b : Addr} {lamps : List Str} {H : Hp} {r : RowIn} (h : RowD b lamps H r) (n : Nat) (hn : lamps.length ≤ n) : r.xs.length ≤ n := by
  obtain ⟨sh, e, s⟩ := h.sub
  rw [e, List.length_map]
  exact Nat.le_trans s.length_le hn
section
variable {P : Program} {w : World} {K : PySem.W.Frag} {mg : Str → Option Value} {base : Heap}
theorem scFree : FnScope ["_law_bag_here", "_law_lamps", "_law_looks", "_law_rows", "_law_look", "_law_shown", "_law_lamp"] ["_law_bag_here", "_law_lamps", "_law_looks"] (defScope sLawFreeRows) := ⟨rfl, rfl, rfl, by decide +kernel, rfl, by decide +kernel, by decide +kernel⟩
theorem ok_free {f : Addr} {fd : FuncData} (F : Fun K "_law_free_rows" "_law_free_rows" sLawFreeRows f fd) (gT : Dfn P w K mg base CX0 1 "_law_take" ["_law_bag_here", "_law_size"] spTake) :
    FnOk P w K mg base CX0 2 f fd ["_law_bag_here", "_law_lamps", "_law_looks"] spRows3 := by
  obtain ⟨fT, dT, mT, kT, bT, GT⟩ := gT
  refine F.ok scFree (fun vs H Q E h => ?_) (fun cdv A outer s H vs Q E hr h => ?_)
  · obtain ⟨a, b, c, ls, ks, rfl, _⟩ := h
    rfl
  · obtain ⟨b, a, c, ls, ks, rfl, hb, hab, hcb, ha, hc, hll, hkl, k⟩ := h
    have hr1 : Room 1 _ := hr
    refine ⟨_, (pss_cons (ps_set (i := 3) scFree.nd rfl (Or.inl rfl) (pe_lst pa_nil))
        (pss_cons (ps_for PassesOwn.never rfl (pi_list (pv 2)) (pg_name (i := 4) scFree.nd rfl (Or.inl rfl)) (pss_cons (ps_set (i := 5) scFree.nd rfl (Or.inl rfl) (pe_lst pa_nil))
        (pss_cons (ps_for PassesOwn.never rfl (pi_list (pv 1)) (pg_name (i := 6) scFree.nd rfl (Or.inl rfl)) (pss_one (ps_if (pt_cmpR op_eq (pe_call GT hr1 (by rfl) mT kT bT .nil pass0 (pa_cons (pv 0) (pa_cons pe_int pa_nil))) pe_int (nomark _)) (pss_one (ps_expr (pe_bm PySem.F.plainAttrs_list PySem.F.slot_list_append PySem.F.type_list_append mt_append (pv 5) (pa_cons (pv 6) pa_nil)))) pss_nil)))
        (pss_one (ps_expr (pe_bm PySem.F.plainAttrs_list PySem.F.slot_list_append PySem.F.type_list_append mt_append (pv 3) (pa_cons (pe_tup (pa_cons (pv 4) (pa_cons (pv 5) pa_nil))) pa_nil)))))))
        (pss_one (ps_ret (pv 3))))), ?_⟩
    refine ⟨Nat.zero_le _, fun R hR => ?_⟩
    obtain ⟨xb, hxb⟩ := hb.lst
    have nRb : R ≠ b := fun e => by rw [e, hxb] at hR; cases hR
    have s0 : Same H (upd H R (.lst [])) := Same.upd_new hR
    refine ⟨_, rfl, c, rfl, ⟨_, SqL.of (s0 _ _ hc)⟩, for_it (walk_list (K := K) (a := c) (xs := ks.map V.str)) (fun i σ H' => ∃ (x4 x5 x6 : Option V) (rows : List RowIn), σ = [some (.ref b), some (.ref a), some (.ref c), some (.ref R), x4, x5, x6] ∧
        SameB b H H' ∧ BagIn H' b ∧ H' R = some (.lst (refsOf rows)) ∧ (∀ r ∈ rows, RowD b ls H' r ∧ r.s ≠ R) ∧ rows.map (·.look) = (ks.take i).map V.str)
      ⟨none, none, none, [], rfl, SameB.of s0, hb.of s0, upd_same, fun r hr => absurd hr (by simp), rfl⟩ (fun i σ H' _ ⟨_, _, _, _, _, s1, _⟩ => SqL.of (s1 _ _ hcb hc)) ?_ ?_⟩
    · rintro i v σ H1 H2 hi ⟨x4, x5, x6, rows, rfl, s1, hb1, hR1, hrs, hlk⟩ ⟨rfl, hv⟩
      obtain ⟨z, hz, rfl⟩ := map_at hv
      refine ⟨Nat.zero_le _, fun u hu => ?_⟩
      have s2 : Same H2 (upd H2 u (.lst [])) := Same.upd_new hu
      obtain ⟨xb1, hxb1⟩ := hb1.lst
      have nub : u ≠ b := fun e => by rw [e, hxb1] at hu; cases hu
      refine ⟨_, rfl, a, rfl, ⟨_, SqL.of (s2 _ _ (s1 _ _ hab ha))⟩, for_it (walk_list (K := K) (a := a) (xs := ls.map V.str)) (fun j σ H' => ∃ (x6 : Option V) (sh : List Str), σ = [some (.ref b), some (.ref a), some (.ref c), some (.ref R), some (.str z), some (.ref u), x6] ∧
          SameB b H2 H' ∧ BagIn H' b ∧ H' u = some (.lst (sh.map V.str)) ∧ sh.Sublist (ls.take j))
        ⟨x6, [], rfl, SameB.of s2, hb1.of s2, upd_same, List.nil_sublist _⟩ (fun j σ H' _ ⟨_, _, _, s3, _⟩ => SqL.of (s3 _ _ hab (s1 _ _ hab ha))) ?_ ?_⟩
      · rintro j y σ H3 H4 hj ⟨x6', sh, rfl, s3, ⟨L3, hb3, ok3⟩, hu3, hsub⟩ ⟨rfl, hy⟩
        obtain ⟨l, hl, rfl⟩ := map_at hy
        refine ⟨_, rfl, b, L3, 2, rfl, hb3, ok3, by decide, by decide, fun L4 r ok4 r0 r1 => ⟨rfl, _, rfl, ?_⟩⟩
        have hlen : sh.length ≤ 24 := Nat.le_trans hsub.length_le (Nat.le_trans (by rw [List.length_take]; omega) hll)
        refine ite2 (fun _ => ?_) (fun _ => ?_)
        · refine ⟨_, rfl, .inl ⟨rfl, _, SqL.of (by rw [upd_ne nub]; exact hu3)⟩, _, rfl, u, _, _, rfl, rfl, by rw [upd_ne nub]; exact hu3, ?_, ?_⟩
          · rw [List.length_map]
            exact small1000 (by omega)
          · refine ⟨_, sh ++ [l], rfl, fun d o n h => ?_, ?_, ?_, ?_⟩
            · rw [upd_ne (ne_of_none h hu), upd_ne n]
              exact s3 d o n h
            · exact ⟨L4, by rw [upd_ne nub.symm, upd_same], ok4⟩
            · rw [upd_same, List.map_append]; rfl
            · rw [take_at hl]
              exact hsub.append (List.Sublist.refl _)
        · refine ⟨_, sh, rfl, s3.trans draw_same, BagIn.upd ok4, by rw [upd_ne nub]; exact hu3, ?_⟩
          rw [take_at hl]
          exact hsub.trans (List.sublist_append_left _ _)
      · rintro σ H3 ⟨x6', sh, rfl, s3, hb3, hu3, hsub⟩
        rw [List.length_map, List.take_length] at hsub
        have hR3 := s3 _ _ nRb hR1
        have nuR : u ≠ R := fun e => by rw [e, hR1] at hu; cases hu
        refine ⟨_, rfl, .inl ⟨rfl, _, SqL.of hR3⟩, _, rfl, _, rfl, by show 2 ≤ sizeLine; decide, fun t ht => ?_⟩
        have ntR : R ≠ t := ne_of_none hR3 ht
        have htl : refsOf rows = (refsOf rows) := rfl
        have hrl : rows.length ≤ 26 := by
          have q := congrArg List.length hlk
          rw [List.length_map, List.length_map, List.length_take] at q
          omega
        refine ⟨R, _, _, rfl, rfl, by rw [upd_ne ntR]; exact hR3, ?_, ?_⟩
        · unfold refsOf
          rw [List.length_map]
          exact small1000 (by omega)
        · have s4 : SameB b H3 (upd H3 t (.tup [.str z, .ref u])) := SameB.of (Same.upd_new ht)
          have ntb : b ≠ t := by obtain ⟨x, hx⟩ := hb3.lst; exact ne_of_none hx ht
          have keepR : ∀ {d : Addr} {o : HO}, d ≠ R → upd H3 t (.tup [.str z, .ref u]) d = some o → upd (upd H3 t (.tup [.str z, .ref u])) R (.lst (refsOf rows ++ [.ref t])) d = some o := fun n h => by
            rw [upd_ne n]; exact h
          refine ⟨_, _, _, rows ++ [⟨t, .str z, u, sh.map V.str⟩], rfl, fun d o n h => ?_, ?_, ?_, fun r hr => ?_, ?_⟩
          · have ndR : d ≠ R := ne_of_none h hR
            exact keepR ndR (s4 _ _ n (s3 _ _ n (s1 _ _ n h)))
          · obtain ⟨L3, e3, o3⟩ := hb3
            exact ⟨L3, keepR nRb.symm (by rw [upd_ne ntb]; exact e3), o3⟩
          · rw [upd_same]
            unfold refsOf
            rw [List.map_append]
            rfl
          · rcases List.mem_append.mp hr with h | h
            · obtain ⟨D, nsR⟩ := hrs r h
              have D4 := (D.of hb1.lst s3).of hb3.lst s4
              exact ⟨⟨D4.look, keepR (ne_tup_lst D.pair hR1) D4.pair, D4.ns, keepR nsR D4.lst, D4.sub⟩, nsR⟩
            · obtain rfl := List.mem_singleton.mp h
              have hu4 : upd H3 t (.tup [.str z, .ref u]) u = some (.lst (sh.map V.str)) := by rw [upd_ne (ne_of_none hu3 ht)]; exact hu3
              exact ⟨⟨⟨z, rfl⟩, keepR ntR.symm upd_same, nub, keepR nuR hu4, ⟨sh, rfl, hsub⟩⟩, nuR⟩
          · rw [List.map_append, hlk, take_at hz, List.map_append]
            rfl
    · rintro σ H1 ⟨x4, x5, x6, rows, rfl, s1, hb1, hR1, hrs, hlk⟩
      rw [List.length_map, List.take_length] at hlk
      exact ⟨_, rfl, k H1 R rows s1 hb1 ⟨nRb, hR1, fun r hr => (hrs r hr).1, hlk⟩⟩
end
end Dl

namespace Dl
open PySem PySem.Spec PyProof.Rows L2
theorem cut_drop (xs : List V) (i : Nat) : cutV xs (some (i : Int)) none = xs.drop i := by
  unfold cutV
  rw [HT.sIx_nat, HT.sIx_none]
  by_cases h : i ≤ xs.length
  · rw [Nat.min_eq_left h, List.take_of_length_le (by rw [List.length_drop]; omega)]
  · rw [Nat.min_eq_right (by omega), List.drop_eq_nil_of_le (Nat.le_refl _), List.drop_eq_nil_of_le (by omega)]
    simp
/-- the data of rows -/
theorem RowD.dat (K : PySem.W.Frag) {b : Addr} {ls : List Str} {H : Hp} {r : RowIn} (h : RowD b ls H r) (hl : ∀ z ∈ ls, canS z) (hk : ∀ k, r.look = .str k → canS k) : ∃ d, Dp K H (.ref r.t) d ∧ PyData.canLay0 d = true ∧ d.depth ≤ 2 := by
  obtain ⟨k, ek⟩ := h.look
  obtain ⟨sh, es, hs⟩ := h.sub
  have hsh : ∀ z ∈ sh, PyData.canLay0 (.str z) = true := fun z hz => hl z (hs.subset hz)
  refine ⟨.tuple [.str k, .list (sh.map PyData.str)], .tup (SqT.of h.pair) (.cons (by rw [ek]; exact .str k) (.cons (.lst (SqL.of h.lst) (by rw [es]; exact dpAll_strs sh)) .nil)), ?_, ?_⟩
  · rw [PyData.canLay0, PyData.canLayAll0, PyData.canLayAll0, PyData.canLayAll0, show PyData.canLay0 (.str k) = true from hk k ek, PyData.canLay0, canAll_strs hsh]
    rfl
  · simp only [PyData.depth, PyData.depthAll, depthAll_strs]
    decide
theorem rows_dat (K : PySem.W.Frag) {b : Addr} {ls : List Str} {H : Hp} (hl : ∀ z ∈ ls, canS z) : ∀ {rows : List RowIn}, (∀ r ∈ rows, RowD b ls H r ∧ ∀ k, r.look = .str k → canS k) →
    ∃ ds, DpAll K H (refsOf rows) ds ∧ ds.length = rows.length ∧ PyData.canLayAll0 ds = true ∧ PyData.depthAll ds ≤ 2
  | [], _ => ⟨[], .nil, rfl, by simp [PyData.canLayAll0], by simp [PyData.depthAll]⟩
  | r :: q, h => by
    obtain ⟨ds, h1, h2, h3, h4⟩ := rows_dat K hl (rows := q) fun x hx => h x (List.mem_cons_of_mem _ hx)
    obtain ⟨R, hk⟩ := h r (List.mem_cons_self ..)
    obtain ⟨d, d1, d2, d3⟩ := R.dat K hl hk
    refine ⟨d :: ds, .cons d1 h1, by rw [List.length_cons, List.length_cons, h2], ?_, ?_⟩
    · rw [PyData.canLayAll0, d2, h3]; rfl
    · rw [PyData.depthAll]; omega
theorem shaped_list {ds : List PyData} (h1 : PyData.canLayAll0 ds = true) (h2 : PyData.depthAll ds ≤ 2) : SeqAt.shaped (.list ds) = true := by
  unfold SeqAt.shaped
  rw [PyData.canLay0, h1, Bool.true_and, PyData.depth]
  exact decide_eq_true (by omega)
theorem eqv_nil {ds : List PyData} : PyData.eqv (.list ds) (.list []) = decide (ds = []) := by
  cases ds with
  | nil => simp [PyData.eqv, PyData.eqvAll]
  | cons _ _ => simp [PyData.eqv, PyData.eqvAll]
theorem looks_can {b : Addr} {ls ks : List Str} {H : Hp} {R : Addr} {rows : List RowIn} (h : RowsD b ls ks H R rows) (hk : ∀ z ∈ ks, canS z) {r : RowIn} (hr : r ∈ rows) : ∀ k, r.look = .str k → canS k := fun k e => by
  have m : r.look ∈ ks.map V.str := by rw [← h.looks]; exact List.mem_map_of_mem hr
  obtain ⟨z, hz, ez⟩ := List.mem_map.mp m
  rw [e] at ez
  cases ez
  exact hk _ hz
/-- a row as it stands, whatever it holds -/
structure RowG (H : Hp) (r : RowIn) : Prop where
  pair : H r.t = some (.tup [r.look, .ref r.s])
  lst : H r.s = some (.lst r.xs)
theorem RowG.of {H H' : Hp} {r : RowIn} (s : Same H H') (h : RowG H r) : RowG H' r := ⟨s _ _ h.pair, s _ _ h.lst⟩
theorem RowD.g {b : Addr} {ls : List Str} {H : Hp} {r : RowIn} (h : RowD b ls H r) : RowG H r := ⟨h.pair, h.lst⟩
def turned (way : Int) (r : RowIn) : V × List V := (r.look, if way = 1 then r.xs.reverse else r.xs)
theorem row_of {rows : List RowIn} {rs : List (Str × List Str)} (hdat : rows.map RowIn.dat = rs.map rdat) {i : Nat} {v : V} (hv : (refsOf rows)[i]? = some v) : ∃ r, ∃ h : i < rs.length, r ∈ rows ∧ v = .ref r.t ∧ r.look = .str rs[i].1 ∧ r.xs = rs[i].2.map V.str ∧ rs[i]? = some rs[i] := by
  obtain ⟨r, hr, rfl⟩ := map_at (show (rows.map fun r => V.ref r.t)[i]? = some v from hv)
  have hi : i < rows.length := (List.getElem?_eq_some_iff.mp hr).1
  have hrl : rows.length = rs.length := by
    have e := congrArg List.length hdat
    rw [List.length_map, List.length_map] at e
    exact e
  have hir : i < rs.length := by omega
  have ed : r.dat = rdat rs[i] := by
    have e := congrArg (fun l => l[i]?) hdat
    simp only [List.getElem?_map, hr, List.getElem?_eq_getElem hir, Option.map_some] at e
    exact Option.some.inj e
  exact ⟨r, hir, List.mem_of_getElem? hr, rfl, congrArg Prod.fst ed, congrArg Prod.snd ed, List.getElem?_eq_getElem hir⟩
end Dl

namespace Dl
open PySem PySem.Spec PyProof.Rows L2
/-! ### one more look -/
def LN : Str := "longername12"
theorem ln_valid : validN LN = true := by decide +kernel
theorem ln_len : LN.cps.toList.length = 12 := by decide +kernel
theorem rowsApp {ls : List Str} : ∀ {xs ys : List (V × List V)} {acc acc' : List (Str × List Str)}, initRows ls xs acc = .ok acc' → initRows ls (xs ++ ys) acc = initRows ls ys acc'
  | [], ys, acc, acc', h => by cases h; rfl
  | (k, sh) :: r, ys, acc, acc', h => by
    rw [List.cons_append]
    unfold initRows at h
    cases e1 : chkNew k (acc.map (·.1)) with
    | some e => rw [e1] at h; cases h
    | none =>
      rw [e1] at h
      simp only at h
      cases e2 : chkShown sh ls [] with
      | some e => rw [e2] at h; cases h
      | none =>
        rw [e2] at h
        have q := rowsApp (ys := ys) h
        rw [← q]
        rw [initRows, e1, e2]
/-- the word of Table for a table's rows and one more -/
def moreT (ls : List Str) (rs : List (Str × List Str)) (nm : V) (xs : List V) : Except Er (List Str × List (Str × List Str)) :=
  if 24 < rs.length + 1 then .error .many else
  match chkNew nm (rs.map (·.1)) with
  | some e => .error e
  | none => match chkShown xs ls [] with
    | some e => .error e
    | none => .ok (ls, rs ++ [(strOf nm, chosen ls (xs.map strOf))])
theorem init_more {ls : List Str} {rs : List (Str × List Str)} (ok : TabOk ls rs) (nm : V) (xs : List V) : initT (ls.map V.str) (rs.map rdat ++ [(nm, xs)]) = moreT ls rs nm xs := by
  unfold initT moreT
  have e : initRows ls (rs.map rdat) [] = .ok rs := by
    have q := rows_ok' ok.lnd (xs := rs) (acc := []) ok.knd fun x hx => ⟨ok.kval x hx, ok.sub x hx, by simp⟩
    rw [List.nil_append] at q
    exact q
  have lf := ok.lfew
  by_cases h : 24 < rs.length + 1
  · rw [if_pos h, if_pos (by simp only [List.length_append, List.length_map, List.length_cons, List.length_nil]; omega)]
  · rw [if_neg h, if_neg (by rw [List.length_append, List.length_map, List.length_map]; simp only [List.length_cons, List.length_nil]; omega), names_ok ok.lnd ok.lval]
    simp only [rowsApp e]
    rw [initRows]
    cases chkNew nm (rs.map (·.1)) with
    | some er => rfl
    | none =>
      simp only
      cases chkShown xs ls [] with
      | some er => rfl
      | none => rfl
end Dl

namespace Dl
open PySem PySem.Spec PyProof.Rows L2
/-! ### what the laws over drawn tables share -/
def turnOf (way : Int) (x : Str × List Str) : Str × List Str := (x.1, if way = 1 then x.2.reverse else x.2)
def dataOf (x : Str × List Str) : PyData := .tuple [.str x.1, .list (x.2.map PyData.str)]
theorem rows_rs' {b : Addr} {ls : List Str} {H : Hp} : ∀ {rows : List RowIn} {ks : List Str}, (∀ r ∈ rows, RowD b ls H r) → rows.map (·.look) = ks.map V.str → ∃ rs : List (Str × List Str), rows.map RowIn.dat = rs.map rdat ∧ (rs.map fun x : Str × List Str => x.1) = ks ∧ ∀ x ∈ rs, x.2.Sublist ls
  | [], ks, _, e => by
    cases ks with
    | nil => exact ⟨[], rfl, rfl, fun x h => absurd h (by simp)⟩
    | cons _ _ => cases e
  | r :: q, ks, h, e => by
    cases ks with
    | nil => cases e
    | cons k ks =>
      rw [List.map_cons, List.map_cons] at e
      injection e with e1 e2
      obtain ⟨rs, q1, q2, q3⟩ := rows_rs' (rows := q) (ks := ks) (fun x hx => h x (List.mem_cons_of_mem _ hx)) e2
      obtain ⟨sh, s1, s2⟩ := (h r (List.mem_cons_self ..)).sub
      refine ⟨(k, sh) :: rs, ?_, ?_, fun x hx => ?_⟩
      · rw [List.map_cons, List.map_cons, q1]
        have : RowIn.dat r = rdat (k, sh) := by unfold RowIn.dat rdat; rw [e1, s1]
        rw [this]
      · rw [List.map_cons, q2]
      · rcases List.mem_cons.mp hx with h | h
        · rw [h]; exact s2
        · exact q3 x h
theorem NamesOk.bag {zs : List Str} (ok : NamesOk zs) : ∀ z ∈ zs, canS z := fun z h => valid_can (ok.valid h)
theorem tabok_of {ls ks : List Str} {rs : List (Str × List Str)} (okl : NamesOk ls) (okk : NamesOk ks) (e : (rs.map fun x : Str × List Str => x.1) = ks) (sub : ∀ x ∈ rs, x.2.Sublist ls) : TabOk ls rs :=
  ⟨okl.nd, fun z h => okl.valid h, okl.few, by rw [e]; exact okk.nd, fun x h => okk.valid (by rw [← e]; exact List.mem_map_of_mem h), by rw [← List.length_map (f := fun x : Str × List Str => x.1), e]; exact okk.few, sub⟩
theorem turned_map {rows : List RowIn} {rs : List (Str × List Str)} {way : Int} (e : rows.map RowIn.dat = rs.map rdat) : rows.map (turned way) = (rs.map (turnOf way)).map rdat := by
  induction rows generalizing rs with
  | nil => cases rs with
    | nil => rfl
    | cons _ _ => cases e
  | cons r q ih => cases rs with
    | nil => cases e
    | cons x rs =>
      rw [List.map_cons, List.map_cons] at e
      injection e with e1 e2
      rw [List.map_cons, List.map_cons, List.map_cons, ih e2]
      have h1 : r.look = .str x.1 := congrArg Prod.fst e1
      have h2 : r.xs = x.2.map V.str := congrArg Prod.snd e1
      have : turned way r = rdat (turnOf way x) := by
        unfold turned turnOf rdat
        rw [h1, h2]
        by_cases w : way = 1
        · rw [if_pos w, if_pos w, List.map_reverse]
        · rw [if_neg w, if_neg w]
      rw [this]
theorem chosen_turn {ls : List Str} {x : Str × List Str} {way : Int} (h : x.2.Sublist ls) (nd : ls.Nodup) : chosen ls (turnOf way x).2 = x.2 := by
  unfold turnOf
  by_cases w : way = 1
  · simp only [if_pos w]
    have : chosen ls x.2.reverse = chosen ls x.2 := by
      unfold chosen
      apply List.filter_congr
      intro z _
      simp
    rw [this, chosen_sub h nd]
  · simp only [if_neg w]
    exact chosen_sub h nd
theorem turn_rows {ls : List Str} (lnd : ls.Nodup) (way : Int) : ∀ {xs acc : List (Str × List Str)}, (xs.map (·.1)).Nodup → (∀ x ∈ xs, validN x.1 = true ∧ x.2.Sublist ls ∧ x.1 ∉ acc.map (·.1)) → initRows ls ((xs.map (turnOf way)).map rdat) acc = .ok (acc ++ xs)
  | [], acc, _, _ => by rw [List.map_nil, List.map_nil, initRows, List.append_nil]
  | x :: r, acc, nd, h => by
    obtain ⟨h1, h2, h3⟩ := h x (List.mem_cons_self ..)
    rw [List.map_cons, List.nodup_cons] at nd
    have e1 : chkNew (.str x.1) (acc.map (·.1)) = none := by simp only [chkNew, h1, if_true]; rw [if_neg h3]
    have snd : (turnOf way x).2.Nodup := by
      unfold turnOf
      by_cases w : way = 1
      · simp only [if_pos w]; exact List.pairwise_reverse.mpr (List.Pairwise.imp (fun h => Ne.symm h) (h2.nodup lnd))
      · simp only [if_neg w]; exact h2.nodup lnd
    have smem : ∀ z ∈ (turnOf way x).2, z ∈ ls ∧ z ∉ ([] : List Str) := fun z hz => ⟨h2.subset (by
      unfold turnOf at hz
      by_cases w : way = 1
      · simp only [if_pos w] at hz; exact List.mem_reverse.mp hz
      · simp only [if_neg w] at hz; exact hz), by simp⟩
    have e2 : chkShown ((turnOf way x).2.map V.str) ls [] = none := shown_ok' snd smem
    rw [List.map_cons, List.map_cons]
    show initRows ls ((V.str x.1, (turnOf way x).2.map V.str) :: (r.map (turnOf way)).map rdat) acc = _
    rw [initRows, e1, e2]
    show initRows ls ((r.map (turnOf way)).map rdat) (acc ++ [(x.1, chosen ls (((turnOf way x).2.map V.str).map strOf))]) = _
    rw [strs_back, chosen_turn h2 lnd, turn_rows lnd way nd.2 fun y hy => ⟨(h y (List.mem_cons_of_mem _ hy)).1, (h y (List.mem_cons_of_mem _ hy)).2.1, fun m => by
      rw [List.map_append] at m
      rcases List.mem_append.mp m with m | m
      · exact (h y (List.mem_cons_of_mem _ hy)).2.2 m
      · have e : y.1 = x.1 := by simpa using m
        exact nd.1 (by rw [← e]; exact List.mem_map.mpr ⟨y, hy, rfl⟩)⟩, List.append_assoc]
    rfl
theorem init_turn {ls : List Str} {rs : List (Str × List Str)} (ok : TabOk ls rs) (way : Int) : initT (ls.map V.str) ((rs.map (turnOf way)).map rdat) = .ok (ls, rs) := by
  unfold initT
  rw [if_neg (by rw [List.length_map, List.length_map, List.length_map]; have := ok.lfew; have := ok.kfew; omega), names_ok ok.lnd ok.lval]
  have q := turn_rows ok.lnd way (xs := rs) (acc := []) ok.knd fun x hx => ⟨ok.kval x hx, ok.sub x hx, by simp⟩
  rw [List.nil_append] at q
  simp only [q]
theorem dp_rows {K : PySem.W.Frag} {H : Hp} : ∀ {rows : List RowIn} {ts : List (Str × List Str)}, (∀ r ∈ rows, RowG H r) → rows.map RowIn.dat = ts.map rdat → DpAll K H (refsOf rows) (ts.map dataOf)
  | [], ts, _, e => by
    cases ts with
    | nil => exact .nil
    | cons _ _ => cases e
  | r :: q, ts, h, e => by
    cases ts with
    | nil => cases e
    | cons x ts =>
      rw [List.map_cons, List.map_cons] at e
      injection e with e1 e2
      have h1 : r.look = .str x.1 := congrArg Prod.fst e1
      have h2 : r.xs = x.2.map V.str := congrArg Prod.snd e1
      have G := h r (List.mem_cons_self ..)
      have pg := G.pair
      have qg := G.lst
      rw [h1] at pg
      rw [h2] at qg
      exact .cons (.tup (SqT.of pg) (.cons (.str _) (.cons (.lst (SqL.of qg) (dpAll_strs _)) .nil))) (dp_rows (fun y hy => h y (List.mem_cons_of_mem _ hy)) e2)
theorem shaped_rows {ts : List (Str × List Str)} (h : ∀ x ∈ ts, canS x.1 ∧ ∀ z ∈ x.2, canS z) : SeqAt.shaped (.list (ts.map dataOf)) = true := by
  have both : PyData.canLayAll0 (ts.map dataOf) = true ∧ PyData.depthAll (ts.map dataOf) ≤ 2 := by
    induction ts with
    | nil => exact ⟨by simp [PyData.canLayAll0], by simp [PyData.depthAll]⟩
    | cons x r ih =>
      obtain ⟨i1, i2⟩ := ih fun y hy => h y (List.mem_cons_of_mem _ hy)
      obtain ⟨c1, c2⟩ := h x (List.mem_cons_self ..)
      have d1 : PyData.canLay0 (dataOf x) = true := by
        unfold dataOf
        unfold canS at c1
        simp only [PyData.canLay0] at c1
        simp only [PyData.canLay0, PyData.canLayAll0, canAll_strs c2, c1, Bool.and_true]
      have d2 : (dataOf x).depth ≤ 2 := by
        unfold dataOf
        simp only [PyData.depth, PyData.depthAll, depthAll_strs]
        decide
      refine ⟨?_, ?_⟩
      · rw [List.map_cons, PyData.canLayAll0, d1, i1]; rfl
      · rw [List.map_cons, PyData.depthAll]; omega
  exact shaped_list both.1 both.2
theorem ln_len' : LN.length = 12 := by decide +kernel
theorem ln_no {ks : List Str} (ok : NamesOk ks) : LN ∉ ks := fun h => by
  obtain ⟨i, hi, e⟩ := List.getElem_of_mem h
  have q := ((ok.at_ i LN (by rw [List.getElem?_eq_getElem hi, e])).sg (by have := ok.few; omega)).2.2
  rw [ln_len'] at q
  omega
theorem shaped_ofn {d : PyData} (h : PyData.canLay0 d = true) (h2 : d.depth ≤ 4) : SeqAt.shaped d = true := by
  unfold SeqAt.shaped
  rw [h, Bool.true_and]
  exact decide_eq_true (by omega)
theorem eqv_same {d : PyData} (h : SeqAt.shaped d = true) : PyData.eqv d d = true := SeqAt.eqv_refl _ (by
  unfold SeqAt.shaped at h
  exact (Bool.and_eq_true_iff.mp h).1)
section
variable {P : Program} {w : World} {K : PySem.W.Frag} {mg : Str → Option Value} {base : Heap} {C : Cs} {CT : Addr}
/-- Table(list of lamps, list of rows): what the rows as given make -/
theorem make_ok {H7 : Hp} {l R : Addr} {ls : List Str} {ts rs : List (Str × List Str)} {rows : List RowIn} {Q : Hp → Prop} {E : XK} {x dx : Addr} (nx : H7 x = none) (ndx : H7 dx = none) (nex : dx ≠ x) (hl : H7 l = some (.lst (ls.map V.str))) (hR : H7 R = some (.lst (refsOf rows))) (hrw : ∀ r ∈ rows, RowG H7 r) (hd : rows.map RowIn.dat = ts.map rdat)
    (hts : ∀ y ∈ ts, validN y.1 = true ∧ (∀ z ∈ y.2, z ∈ ls) ∧ y.2.length ≤ 24) (hini : initT (ls.map V.str) (ts.map rdat) = .ok (ls, rs)) (lval : ∀ z ∈ ls, validN z = true) (lfew : ls.length ≤ 25) (tfew : ts.length ≤ 25)
    (k : ∀ H8, Same H7 H8 → TableAt CT H8 x ls rs → Q H8) :
    spTabInit2 K CT C (.ref x :: ([.ref l, .ref R] ++ [])) (upd (upd H7 dx (.own x)) x (.ins CT dx [])) (fun v H2 => v = .non ∧ Q H2) E := by
  have sm : Same H7 (upd (upd H7 dx (.own x)) x (.ins CT dx [])) := fun c o e => by
    rw [upd_ne (ne_of_none e nx), upd_ne (ne_of_none e ndx)]; exact e
  have hlen : rows.length = ts.length := by
    have e := congrArg List.length hd
    rw [List.length_map, List.length_map] at e
    exact e
  refine ⟨H7, x, dx, l, R, ls.map V.str, rows, rfl, sm, nx, upd_same, .inl (SqL.of hl), strs_nm lval, by rw [List.length_map]; omega, .inl (SqL.of hR), fun r hr => ?_, by omega, fun ls' rs' e H8 s8 hT8 => ⟨rfl, ?_⟩, fun e he => ?_⟩
  · obtain ⟨i, hi, ei⟩ := List.getElem_of_mem hr
    have hir : i < ts.length := by omega
    have ed : r.dat = rdat ts[i] := by
      have e := congrArg (fun l => l[i]?) hd
      simp only [List.getElem?_map, List.getElem?_eq_getElem hi, List.getElem?_eq_getElem hir, Option.map_some, ei] at e
      exact Option.some.inj e
    obtain ⟨v1, v2, v3⟩ := hts _ (List.getElem_mem hir)
    generalize ts[i] = y at *
    have e1 : r.look = .str y.1 := congrArg Prod.fst ed
    have e2 : r.xs = y.2.map V.str := congrArg Prod.snd ed
    have G := hrw r hr
    refine ⟨SqT.of G.pair, by rw [e1]; exact validN_nm v1, .inl (SqL.of G.lst), by rw [e2]; exact strs_nm fun z hz => lval z (v2 z hz), ?_⟩
    rw [e2, List.length_map]
    omega
  · rw [hd, hini] at e
    cases e
    exact k H8 s8 hT8
  · rw [hd, hini] at he
    cases he
theorem TableAt.ofB {b : Addr} {H H' : Hp} {x : Addr} {ls : List Str} {rs : List (Str × List Str)} (h : TableAt CT H x ls rs) (hb : ∃ xs, H b = some (.lst xs)) (s : SameB b H H') : TableAt CT H' x ls rs := by
  obtain ⟨ys, hb⟩ := hb
  obtain ⟨dx, lt, sd, kt, kvs, hp, hlt, hsd, hkt, hrs⟩ := h
  have ne : ∀ {c : Addr} {o : HO}, H c = some o → (∀ xs, o ≠ .lst xs) → H' c = some o := fun {c o} e n => s _ _ (fun q => by rw [q, hb] at e; cases e; exact n _ rfl) e
  exact ⟨dx, lt, sd, kt, kvs, ne hp (fun _ e => by cases e), ne hlt (fun _ e => by cases e), ne hsd (fun _ e => by cases e), ne hkt (fun _ e => by cases e), hrs.of fun b ys e => ne e (fun _ e => by cases e)⟩
theorem turn_mem {ls : List Str} {rs : List (Str × List Str)} (ok : TabOk ls rs) (way : Int) : ∀ y ∈ rs.map (turnOf way), validN y.1 = true ∧ (∀ z ∈ y.2, z ∈ ls) ∧ y.2.length ≤ 24 := fun y hy => by
  obtain ⟨x, hx, rfl⟩ := List.mem_map.mp hy
  refine ⟨ok.kval x hx, fun z hz => (ok.sub x hx).subset ?_, ?_⟩
  · unfold turnOf at hz
    by_cases w : way = 1
    · simp only [if_pos w] at hz; exact List.mem_reverse.mp hz
    · simp only [if_neg w] at hz; exact hz
  · have := (ok.sub x hx).length_le
    have := ok.lfew
    unfold turnOf
    by_cases w : way = 1
    · simp only [if_pos w, List.length_reverse]; omega
    · simp only [if_neg w]; omega
end
end Dl

namespace Dl
open PySem PySem.Spec PyProof.Rows L2
/-! ### the text of a table -/
theorem row_at {rows : List RowIn} {rs : List (Str × List Str)} (hdat : rows.map RowIn.dat = rs.map rdat) {i : Nat} {v : V} (hv : (rows.map fun r => V.ref r.t)[i]? = some v) : ∃ r, ∃ h : i < rs.length, r ∈ rows ∧ v = .ref r.t ∧ r.look = .str rs[i].1 ∧ r.xs = rs[i].2.map V.str ∧ rs[i]? = some rs[i] := by
  obtain ⟨r, hr, rfl⟩ := map_at hv
  have hi : i < rows.length := (List.getElem?_eq_some_iff.mp hr).1
  have hrl : rows.length = rs.length := by
    have e := congrArg List.length hdat
    rw [List.length_map, List.length_map] at e
    exact e
  have hir : i < rs.length := by omega
  have ed : r.dat = rdat rs[i] := by
    have e := congrArg (fun l => l[i]?) hdat
    simp only [List.getElem?_map, hr, List.getElem?_eq_getElem hir, Option.map_some] at e
    exact Option.some.inj e
  exact ⟨r, hir, List.mem_of_getElem? hr, rfl, congrArg Prod.fst ed, congrArg Prod.snd ed, List.getElem?_eq_getElem hir⟩
def lampLine (ls : List Str) : List Str := ("lamps" : Str) :: ls
def lookLine (x : Str × List Str) : List Str := ("look" : Str) :: x.1 :: x.2
def lineOf (ws : List Str) : Str := Txt.join " " ws
def tabText (ls : List Str) (rs : List (Str × List Str)) : Str := Txt.join "\n" (lineOf (lampLine ls) :: rs.map fun x => lineOf (lookLine x))
theorem cat_len' (a b : Str) : (a ++ b).length = a.length + b.length := by
  show (a.cps ++ b.cps).size = _
  simp
  rfl
theorem join_len (sep : Str) : ∀ ws : List Str, (Str.join sep ws).length ≤ (ws.map (·.length)).sum + ws.length * sep.length
  | [] => by simp [Str.join, Str.empty, Str.length]
  | [x] => by simp [Str.join]
  | x :: y :: r => by
    have ih := join_len sep (y :: r)
    rw [Str.join, cat_len', cat_len', List.map_cons, List.sum_cons, List.length_cons]
    · simp only [List.length_cons, List.map_cons, List.sum_cons, Nat.add_mul, Nat.one_mul] at ih ⊢
      omega
    · exact fun e => by cases e
theorem sum_le {n : Nat} : ∀ {ws : List Str}, (∀ z ∈ ws, z.length ≤ n) → (ws.map (·.length)).sum ≤ ws.length * n
  | [], _ => by simp
  | x :: r, h => by
    have ih := sum_le fun z hz => h z (List.mem_cons_of_mem _ hz)
    have := h x (List.mem_cons_self ..)
    rw [List.map_cons, List.sum_cons, List.length_cons, Nat.add_mul, Nat.one_mul]
    omega
theorem line_len {ws : List Str} (h : ∀ z ∈ ws, z.length ≤ 12) (few : ws.length ≤ 26) : (lineOf ws).length ≤ 400 := by
  unfold lineOf
  rw [TL.join_eq]
  have j := join_len " " ws
  have s := sum_le h
  have one : (" " : Str).length = 1 := by decide +kernel
  rw [one] at j
  have : ws.length * 12 ≤ 26 * 12 := Nat.mul_le_mul_right _ few
  omega
theorem word_len : ("lamps" : Str).length ≤ 12 ∧ ("look" : Str).length ≤ 12 := by decide +kernel
theorem valid_12 {z : Str} (h : validN z = true) : z.length ≤ 12 := by
  unfold validN at h
  simp only [Bool.and_eq_true, decide_eq_true_eq] at h
  exact h.2.1
theorem lamp_words {ls : List Str} {rs : List (Str × List Str)} (ok : TabOk ls rs) : (∀ z ∈ lampLine ls, z.length ≤ 12) ∧ (lampLine ls).length ≤ 26 := by
  refine ⟨fun z hz => ?_, ?_⟩
  · rcases List.mem_cons.mp hz with rfl | h
    · exact word_len.1
    · exact valid_12 (ok.lval z h)
  · have := ok.lfew
    show ls.length + 1 ≤ 26
    omega
theorem look_words {ls : List Str} {rs : List (Str × List Str)} (ok : TabOk ls rs) {x : Str × List Str} (hx : x ∈ rs) : (∀ z ∈ lookLine x, z.length ≤ 12) ∧ (lookLine x).length ≤ 26 := by
  refine ⟨fun z hz => ?_, ?_⟩
  · rcases List.mem_cons.mp hz with rfl | h
    · exact word_len.2
    · rcases List.mem_cons.mp h with rfl | h
      · exact valid_12 (ok.kval x hx)
      · exact valid_12 (ok.lval z ((ok.sub x hx).subset h))
  · have := (ok.sub x hx).length_le
    have := ok.lfew
    show x.2.length + 1 + 1 ≤ 26
    omega
theorem join_room {ws : List Str} {sep : Str} {n : Nat} (h : ∀ z ∈ ws, z.length ≤ n) (few : ws.length ≤ 30) (hn : n ≤ 400) (one : sep.length = 1) : (ws.map (·.length)).sum + ws.length * sep.length ≤ 16777216 := by
  have s := sum_le h
  have : ws.length * n ≤ 30 * 400 := Nat.mul_le_mul few hn
  rw [one]
  omega
theorem rows_nm : ¬ (("rows" : Str) = "lamps") ∧ ¬ (("rows" : Str) = "_shown") ∧ ¬ (("rows" : Str) = "looks") := by decide +kernel
def spTStr (CT : Addr) : Sp := fun vs H Q _ => ∃ (p : Addr) (ls : List Str) (rs : List (Str × List Str)), vs = [.ref p] ∧ TableAt CT H p ls rs ∧ TabOk ls rs ∧ ∀ H', Same H H' → Q (.str (tabText ls rs)) H'
section
variable {P : Program} {w : World} {K : PySem.W.Frag} {mg : Str → Option Value} {base : Heap} {C : Cs} {CT : Addr}
theorem scTStr : FnScope ["self", "lamps", "looks", "look", "shown"] ["self"] (defScope sTableStr) := ⟨rfl, rfl, rfl, by decide +kernel, rfl, by decide +kernel, by decide +kernel⟩
theorem ok_tstr {f : Addr} {fd : FuncData} (F : Fun K "__str__" "Table.__str__" sTableStr f fd) (cl : Cls K CT) (nL : NoAttr K CT "lamps") (gR : ∃ fR fdR, Meth K CT "rows" fR ∧ Binds K fdR ["self"] [] ∧ FnOk P w K mg base CX0 1 fR fdR ["self"] (spTRows K CT)) :
    FnOk P w K mg base CX0 2 f fd ["self"] (spTStr CT) := by
  obtain ⟨fR, fdR, mR, bR, GR⟩ := gR
  refine F.ok scTStr (fun vs H Q E h => ?_) (fun cdv A outer s H vs Q E hr h => ?_)
  · obtain ⟨p, ls, rs, rfl, _⟩ := h
    rfl
  · obtain ⟨p, ls, rs, rfl, hT, ok, k⟩ := h
    have hr1 : Room 1 _ := hr
    refine ⟨_, (pss_cons (ps_set (i := 1) scTStr.nd rfl (Or.inl rfl) (pe_bm PySem.F.plainAttrs_str PySem.F.slot_str_join PySem.F.type_str_join mt_join pe_str (pa_cons (pe_lst (pa_cons pe_str (StX.pa_star (pe_fld (pv 0) rfl) pa_nil))) pa_nil)))
      (pss_cons (ps_setLc (i := 2) (own := [("look", 3), ("shown", 4)]) (g := gTup K 2 (gCons (gName 3) (gCons (gName 4) gNil))) (tt := tYes) (te := tBM K "str" (fun x xs H Q => ∃ a p, ∃ ys : List Str, x = .str a ∧ xs = [.ref p] ∧ (SqL K H p (ys.map V.str) ∨ SqT K H p (ys.map V.str)) ∧ (ys.map (·.length)).sum + ys.length * a.length ≤ 16777216 ∧ Q (.str (Txt.join a ys)) H) (tC (.str " ")) (tCons (tLst (tCons (tC (.str "look")) (tCons (tVar 3) (StX.tStar K (tVar 4) tNil)))) tNil))
          rfl scTStr.nd rfl rfl (sw_true rfl rfl rfl (by decide +kernel)) (pi_list (pe_meth0 (pv 0) cl mR GR hr1 bR .nil pass0)) (blkOk_by (N := ["self", "lamps", "looks", "look", "shown"]) (sc := defScope sTableStr) (by decide +kernel))
          (fun _ _ _ _ _ => (pg_tup rfl (pgs_cons (pg_name (i := 3) scTStr.nd rfl (Or.inl rfl)) (pgs_cons (pg_name (i := 4) scTStr.nd rfl (Or.inl rfl)) pgs_nil)))) (fun _ _ _ _ _ => pts_nil)
          (fun _ _ _ _ _ => by exact (pe_bm PySem.F.plainAttrs_str PySem.F.slot_str_join PySem.F.type_str_join mt_join pe_str (pa_cons (pe_lst (pa_cons pe_str (pa_cons (pv 3) (StX.pa_star (pv 4) pa_nil)))) pa_nil))))
      (pss_one (ps_ret (pe_bm PySem.F.plainAttrs_str PySem.F.slot_str_join PySem.F.type_str_join mt_join pe_str (pa_cons (pe_lst (pa_cons (pv 1) (StX.pa_star (pv 2) pa_nil))) pa_nil)))))), ?_⟩
    have hT2 := hT
    obtain ⟨dx, lt, sd, kt, kvs, hp, hlt, _⟩ := hT2
    have sp1 : (" " : Str).length = 1 := by decide +kernel
    have nl1 : ("\n" : Str).length = 1 := by decide +kernel
    obtain ⟨lw1, lw2⟩ := lamp_words ok
    refine ⟨rfl, _, rfl, p, CT, dx, _, _, rfl, hp, cl, nL, pf3_lamps _ _ _, lt, _, rfl, .inl (SqT.of hlt), ?_, fun q1 hq1 => ?_⟩
    · have := ok.lfew
      simp only [List.length_cons, List.length_append, List.length_map, List.length_nil]
      exact Nat.le_of_lt (small1000 (by omega))
    have e1 : (V.str "lamps" :: (ls.map V.str ++ [])) = (lampLine ls).map V.str := by rw [List.append_nil]; rfl
    have s1 := Same.upd_new hq1 (o := .lst (V.str "lamps" :: (ls.map V.str ++ [])))
    refine ⟨_, q1, lampLine ls, rfl, rfl, .inl (SqL.of (by rw [upd_same, e1])), join_room lw1 (by omega) (by decide) sp1, ?_⟩
    have hT1 := hT.of s1
    have hp1 := s1 _ _ hp
    generalize upd H q1 (.lst (V.str "lamps" :: (ls.map V.str ++ []))) = H1 at *
    refine ⟨_, rfl, p, dx, _, rfl, hp1, pf3_no _ _ _ rows_nm.1 rows_nm.2.1 rows_nm.2.2, p, ls, rs, rfl, hT1, ok, fun H2 l rows s2 hl hl2 hrt hdat => ?_⟩
    have hrl : rows.length = rs.length := by
      have e := congrArg List.length hdat
      rw [List.length_map, List.length_map] at e
      exact e
    have kf := ok.kfew
    refine ⟨l, rfl, ⟨_, SqL.of hl2⟩, fun D hD => lc_it (walk_list (K := K) (a := l) (xs := rows.map fun r => V.ref r.t)) (fun i H' => Same H2 H' ∧ H' D = some (.lst (((rs.take i).map fun x => lineOf (lookLine x)).map V.str))) ⟨Same.upd_new hD, upd_same⟩ (fun i H' _ ⟨s, _⟩ => SqL.of (s _ _ hl2)) ?_ ?_⟩
    · rintro i v H3 H4 hi ⟨s3, hD3⟩ ⟨rfl, hv⟩
      obtain ⟨r, hir, hr, rfl, gl, gx, hri⟩ := row_at hdat hv
      have Rt := (hrt r hr).of s3
      obtain ⟨w1, w2⟩ := look_words ok (List.getElem_mem hir)
      have pg := Rt.pair
      have tg := Rt.tup
      rw [gl] at pg
      rw [gx] at tg
      refine ⟨r.t, _, rfl, SqT.of pg, rfl, _, _, rfl, _, _, rfl, rfl, rfl, rfl, _, rfl, _, rfl, r.s, _, rfl, .inl (SqT.of tg), ?_, fun q hq => ?_⟩
      · have e : (lookLine rs[i]).length = rs[i].2.length + 1 + 1 := rfl
        simp only [List.length_cons, List.length_append, List.length_map, List.length_nil]
        exact Nat.le_of_lt (small1000 (by omega))
      · have e2 : (V.str "look" :: V.str rs[i].1 :: (rs[i].2.map V.str ++ [])) = (lookLine rs[i]).map V.str := by rw [List.append_nil]; rfl
        have s4 := Same.upd_new hq (o := .lst (V.str "look" :: V.str rs[i].1 :: (rs[i].2.map V.str ++ [])))
        have nqD : D ≠ q := ne_of_none hD3 hq
        refine ⟨_, q, lookLine rs[i], rfl, rfl, .inl (SqL.of (by rw [upd_same, e2])), join_room w1 (by omega) (by decide) sp1, ?_⟩
        refine ⟨_, s4 _ _ hD3, by rw [List.length_map, List.length_map, List.length_take]; exact small1000 (by omega), fun c o h => ?_, ?_⟩
        · rw [upd_ne (ne_of_none h hD)]
          exact s4 _ _ (s3 _ _ h)
        · rw [upd_same, take_at hri, List.map_append, List.map_append]
          rfl
    rintro H3 ⟨s3, hD3⟩
    rw [List.length_map, hrl, List.take_length] at hD3
    refine ⟨rfl, _, rfl, _, rfl, D, _, rfl, .inr (SqL.of hD3), ?_, fun q hq => ?_⟩
    · simp only [List.length_cons, List.length_append, List.length_map, List.length_nil]
      exact Nat.le_of_lt (small1000 (by omega))
    · have e3 : (V.str (Txt.join " " (lampLine ls)) :: (((rs.map fun x => lineOf (lookLine x)).map V.str) ++ [])) = (lineOf (lampLine ls) :: rs.map fun x => lineOf (lookLine x)).map V.str := by rw [List.append_nil]; rfl
      have s4 := Same.upd_new hq (o := .lst (V.str (Txt.join " " (lampLine ls)) :: (((rs.map fun x => lineOf (lookLine x)).map V.str) ++ [])))
      refine ⟨_, q, lineOf (lampLine ls) :: rs.map fun x => lineOf (lookLine x), rfl, rfl, .inl (SqL.of (by rw [upd_same, e3])), join_room (n := 400) (fun z hz => ?_) (by simp only [List.length_cons, List.length_map]; omega) (by decide) nl1, k _ (s1.trans (s2.trans (s3.trans s4)))⟩
      rcases List.mem_cons.mp hz with rfl | h
      · exact line_len lw1 lw2
      · obtain ⟨x, hx, rfl⟩ := List.mem_map.mp h
        exact line_len (look_words ok hx).1 (look_words ok hx).2
end
end Dl

namespace Dl
open PySem PySem.Spec PyProof.Rows L2
def goneOf (ls zs : List Str) : List Str := ls.filter fun z => !decide (z ∈ zs)
def lessOf (rs : List (Str × List Str)) (ls' : List Str) : List (Str × List Str) := rs.map fun x => (x.1, chosen x.2 ls')
def onlyOf (rs : List (Str × List Str)) (ks : List Str) : List (Str × List Str) := rs.filter fun x => decide (x.1 ∈ ks)
def unkOf (xs : List V) (es : List Str) : Option V := xs.find? fun v => !knows v es
theorem only_step {rs : List (Str × List Str)} {ys : List Str} {i : Nat} (h : i < rs.length) : onlyOf (rs.take (i + 1)) ys = onlyOf (rs.take i) ys ++ (if decide (rs[i].1 ∈ ys) = true then [rs[i]] else []) := by
  unfold onlyOf
  rw [List.take_succ, List.getElem?_eq_getElem h, List.filter_append]
  congr 1
  by_cases hm : rs[i].1 ∈ ys <;> simp [hm]
theorem unk_strs {xs : List V} {es : List Str} (h : unkOf xs es = none) : xs = (xs.map strOf).map V.str := by
  unfold unkOf at h
  rw [List.find?_eq_none] at h
  induction xs with
  | nil => rfl
  | cons v r ih =>
    have hv : knows v es = true := by simpa using h v (List.mem_cons_self ..)
    obtain ⟨z, rfl, _⟩ := knows_str hv
    rw [List.map_cons, List.map_cons, ← ih fun y hy => h y (List.mem_cons_of_mem _ hy)]
    rfl
theorem chosen_is_sub (a b : List Str) : (chosen a b).Sublist a := List.filter_sublist
theorem TabOk.less {ls : List Str} {rs : List (Str × List Str)} (ok : TabOk ls rs) (zs : List Str) : TabOk (goneOf ls zs) (lessOf rs (goneOf ls zs)) := by
  have sl : (goneOf ls zs).Sublist ls := List.filter_sublist
  have keys : (lessOf rs (goneOf ls zs)).map (·.1) = rs.map (·.1) := by unfold lessOf; rw [List.map_map]; rfl
  refine ⟨sl.nodup ok.lnd, fun z hz => ok.lval z (sl.subset hz), Nat.le_trans sl.length_le ok.lfew, by rw [keys]; exact ok.knd, fun x hx => ?_, by unfold lessOf; rw [List.length_map]; exact ok.kfew, fun x hx => ?_⟩
  · obtain ⟨y, hy, rfl⟩ := List.mem_map.mp hx
    exact ok.kval y hy
  · obtain ⟨y, hy, rfl⟩ := List.mem_map.mp hx
    have e : chosen y.2 (goneOf ls zs) = y.2.filter fun z => !decide (z ∈ zs) := by
      unfold chosen goneOf
      apply List.filter_congr
      intro z hz
      have m := (ok.sub y hy).subset hz
      simp [m]
    show (chosen y.2 (goneOf ls zs)).Sublist (goneOf ls zs)
    rw [e]
    exact (ok.sub y hy).filter _
theorem TabOk.only {ls : List Str} {rs : List (Str × List Str)} (ok : TabOk ls rs) (ks : List Str) : TabOk ls (onlyOf rs ks) := by
  have sr : (onlyOf rs ks).Sublist rs := List.filter_sublist
  exact ⟨ok.lnd, ok.lval, ok.lfew, (sr.map _).nodup ok.knd, fun x hx => ok.kval x (sr.subset hx), Nat.le_trans sr.length_le ok.kfew, fun x hx => ok.sub x (sr.subset hx)⟩
theorem RowT.e {K : PySem.W.Frag} {H : Hp} {r : RowIn} (h : RowT H r) {x : Str × List Str} (e : r.dat = rdat x) {ls : List Str} {rs : List (Str × List Str)} (ok : TabOk ls rs) (hx : x ∈ rs) : RowE K H r := by
  have e1 : r.look = .str x.1 := congrArg Prod.fst e
  have e2 : r.xs = x.2.map V.str := congrArg Prod.snd e
  refine ⟨SqT.of h.pair, by rw [e1]; exact validN_nm (ok.kval x hx), .inr (SqT.of h.tup), fun v hv => ?_, ?_⟩
  · rw [e2] at hv
    obtain ⟨z, hz, rfl⟩ := List.mem_map.mp hv
    exact validN_nm (ok.lval z ((ok.sub x hx).subset hz))
  · rw [e2, List.length_map]
    have := (ok.sub x hx).length_le
    have := ok.lfew
    omega
theorem rowsT_e {K : PySem.W.Frag} {H : Hp} {rows : List RowIn} {rs : List (Str × List Str)} {ls : List Str} (ok : TabOk ls rs) (h : ∀ r ∈ rows, RowT H r) (e : rows.map RowIn.dat = rs.map rdat) : ∀ r ∈ rows, RowE K H r := fun r hr => by
  have m : r.dat ∈ rs.map rdat := by rw [← e]; exact List.mem_map_of_mem hr
  obtain ⟨x, hx, ex⟩ := List.mem_map.mp m
  exact (h r hr).e ex.symm ok hx
/-- what a call on a table wants of the table that is made, or of the first unknown name -/
def spWithout (K : PySem.W.Frag) (CT : Addr) (C : Cs) : Sp := fun vs H Q E => ∃ (p q : Addr) (ls : List Str) (rs : List (Str × List Str)) (xs : List V), vs = [.ref p, .ref q] ∧ TableAt CT H p ls rs ∧ TabOk ls rs ∧ H q = some (.tup xs) ∧ (∀ v ∈ xs, NmOk H v) ∧
  (unkOf xs ls = none → ∀ H' x, Same H H' → H x = none → TableAt CT H' x (goneOf ls (xs.map strOf)) (lessOf rs (goneOf ls (xs.map strOf))) → Q (.ref x) H') ∧ ∀ v, unkOf xs ls = some v → Out1 C.unk "name" v H E
def spOnly (K : PySem.W.Frag) (CT : Addr) (C : Cs) : Sp := fun vs H Q E => ∃ (p q : Addr) (ls : List Str) (rs : List (Str × List Str)) (xs : List V), vs = [.ref p, .ref q] ∧ TableAt CT H p ls rs ∧ TabOk ls rs ∧ H q = some (.tup xs) ∧ (∀ v ∈ xs, NmOk H v) ∧
  (unkOf xs (rs.map (·.1)) = none → ∀ H' x, Same H H' → H x = none → TableAt CT H' x ls (onlyOf rs (xs.map strOf)) → Q (.ref x) H') ∧ ∀ v, unkOf xs (rs.map (·.1)) = some v → Out1 C.unk "name" v H E
def spWithLook (K : PySem.W.Frag) (CT : Addr) (C : Cs) : Sp := fun vs H Q E => ∃ (p q : Addr) (ls : List Str) (rs : List (Str × List Str)) (nm : V) (xs : List V), vs = [.ref p, nm, .ref q] ∧ TableAt CT H p ls rs ∧ TabOk ls rs ∧ NmOk H nm ∧ H q = some (.tup xs) ∧ (∀ v ∈ xs, NmOk H v) ∧ xs.length ≤ 1000 ∧
  (∀ ls' rs', initT (ls.map V.str) (rs.map rdat ++ [(nm, xs)]) = .ok (ls', rs') → ∀ H' x, Same H H' → H x = none → TableAt CT H' x ls' rs' → Q (.ref x) H') ∧ ∀ e, initT (ls.map V.str) (rs.map rdat ++ [(nm, xs)]) = .error e → Out C H E e
/-- a def with a star parameter, called with these values -/
def starSp (n : Nat) (sp : Sp) : Sp := fun vs H Q E => ∃ ws rest, vs = ws ++ rest ∧ ws.length = n ∧ rest.length ≤ sizeLine ∧ ∀ p, H p = Option.none → sp (ws ++ [V.ref p]) (upd H p (.tup rest)) Q E
structure TabM (P : Program) (w : World) (K : PySem.W.Frag) (mg : Str → Option Value) (base : Heap) (CT : Addr) (C : Cs) : Prop where
  cl : Cls K CT
  nL : NoAttr K CT "lamps"
  nK : NoAttr K CT "looks"
  nS : NoAttr K CT "_shown"
  gT : mg "Table" = some (.ref CT)
  init : ∃ fT fdT, Mk K CT fT ∧ Binds K fdT ["self", "lamps", "looks"] [] ∧ FnOk P w K mg base (L2N.CX P w) 8 fT fdT ["self", "lamps", "looks"] (spTabInit2 K CT C)
  rows : ∃ fR fdR, Meth K CT "rows" fR ∧ Binds K fdR ["self"] [] ∧ FnOk P w K mg base CX0 1 fR fdR ["self"] (spTRows K CT)
theorem cxUpN {P : Program} {w : World} : StX.CXUp (L2N.CX P w) := by
  rintro outer s H s2 H2 E e s' un stay same ⟨a, B, H', cls, d, rfl, fly, hok, low, na, os, bare, out⟩
  refine ⟨a, B, H', cls, d, rfl, fly, hok, ?_, na, os.trans same, bare, out⟩
  constructor
  · exact fun b o q n hb => low.keep b o (stay b o q) (un.free b o q n (by simp)) hb
  · exact fun b o q hb => low.slot b o (stay b o q) hb
  · exact fun b o q n => low.free b o (stay b o q) (un.free b o q n (by simp))
  · exact fun b o q hb => low.there b o (stay b o q) hb
  · exact fun b xs q => low.tups b xs (un.tups b xs q)
  · exact fun b o xs q => low.frzs b o xs (un.frzs b o xs q)
  · intro b ps q
    obtain ⟨m1, e1⟩ := un.tbls b ps q
    obtain ⟨m2, e2⟩ := low.tbls b _ e1
    exact ⟨m1 ++ m2, by rw [e2, Array.append_assoc]⟩
section
variable {P : Program} {w : World} {K : PySem.W.Frag} {mg : Str → Option Value} {base : Heap} {C : Cs} {CT : Addr}
theorem rows_ne : ¬ (("rows" : Str) = "lamps") ∧ ¬ (("rows" : Str) = "_shown") ∧ ¬ (("rows" : Str) = "looks") := by decide +kernel
theorem scTWithLook : FnScope ["self", "name", "lamps"] ["self", "name", "lamps"] (defScope sTableWithLook) := ⟨rfl, rfl, rfl, by decide +kernel, rfl, by decide +kernel, by decide +kernel⟩
theorem ok_withlook {f : Addr} {fd : FuncData} (F : Fun K "with_look" "Table.with_look" sTableWithLook f fd) (T : TabM P w K mg base CT C) : FnR P w K mg base (L2N.CX P w) 10 f (starSp 2 (spWithLook K CT C)) := by
  obtain ⟨oc, od, kV, doc, pm, an, cdv, ct, osl, rfl, lk, hcd⟩ := F.ex
  obtain ⟨fT, fdT, M, bT, GT⟩ := T.init
  obtain ⟨fR, fdR, mR, bR, GR⟩ := T.rows
  refine StX.fn_star (k := 9) (ps := ["self", "name"]) (pv := "lamps") lk hcd scTWithLook cxUpN (StX.bind_star2 (B := fun us => bindArgs _ ⟨us, []⟩) (fun _ _ => by rfl) (fun _ _ _ _ => by rfl)) (fun A outer s H vs Q E hr h => ?_)
  obtain ⟨p, q, ls, rs, nm, xs, rfl, hT, ok, hnm, hq, hx, hlen, k, kx⟩ := h
  have hr1 : Room 1 _ := hr.mono (by decide)
  refine ⟨_, (pss_one (ps_ret (pe_make M GT hr (by rfl) T.gT bT .nil (L2N.passes_call (L2N.takes_of rfl rfl rfl rfl) (fun _ _ _ _ h => h)) (pa_cons (pe_fld (pv 0) rfl) (pa_cons (pe_op op_cat (pe_meth0 (pv 0) T.cl mR GR hr1 bR .nil pass0) (pe_lst (pa_cons (pe_tup (pa_cons (pv 1) (pa_cons (pv 2) pa_nil))) pa_nil))) pa_nil))))), ?_⟩
  have hT2 := hT
  obtain ⟨dx, lt, sd, kt, kvs, hp, hlt, hsd, hkt, hrs⟩ := hT2
  refine ⟨_, rfl, p, CT, dx, _, _, rfl, hp, T.cl, T.nL, pf3_lamps _ _ _, ?_⟩
  refine ⟨_, rfl, p, dx, _, rfl, hp, pf3_no _ _ _ rows_ne.1 rows_ne.2.1 rows_ne.2.2, p, ls, rs, rfl, hT, ok, fun H1 l rows s1 hl hl1 hrt hdat => ?_⟩
  have hrl : rows.length ≤ 24 := by
    have e := congrArg List.length hdat
    rw [List.length_map, List.length_map] at e
    have := ok.kfew
    omega
  refine ⟨_, rfl, _, rfl, by show 2 ≤ sizeLine; decide, fun t ht => ?_⟩
  have s2 : Same H1 (upd H1 t (.tup [nm, .ref q])) := Same.upd_new ht
  refine ⟨by show 1 ≤ sizeLine; decide, fun l2 hl2 => ?_⟩
  have s3 := Same.upd_new hl2 (o := .lst [.ref t])
  refine ⟨l, l2, _, _, rfl, rfl, s3 _ _ (s2 _ _ hl1), upd_same, Nat.le_of_lt (small1000 (by rw [List.length_map]; simp; omega)), fun l3 hl3 => ?_⟩
  have s4 := Same.upd_new hl3 (o := .lst ((rows.map fun r => V.ref r.t) ++ [.ref t]))
  have ht4 := (s3.trans s4) _ _ (upd_same (H := H1) (a := t) (o := .tup [nm, .ref q]))
  have hl34 : upd (upd (upd H1 t (.tup [nm, .ref q])) l2 (.lst [.ref t])) l3 (.lst ((rows.map fun r => V.ref r.t) ++ [.ref t])) l3 = some (.lst ((rows.map fun r => V.ref r.t) ++ [.ref t])) := upd_same
  have s14 := s2.trans (s3.trans s4)
  have s04 := s1.trans s14
  generalize upd (upd (upd H1 t (.tup [nm, .ref q])) l2 (.lst [.ref t])) l3 (.lst ((rows.map fun r => V.ref r.t) ++ [.ref t])) = H4 at *
  refine fun x dx' nx ndx nex => ?_
  have sm : Same H4 (upd (upd H4 dx' (.own x)) x (.ins CT dx' [])) := fun c o e => by
    rw [upd_ne (ne_of_none e nx), upd_ne (ne_of_none e ndx)]; exact e
  have edat : (rows ++ [(⟨t, nm, q, xs⟩ : RowIn)]).map RowIn.dat = rs.map rdat ++ [(nm, xs)] := by
    rw [List.map_append, hdat]
    rfl
  refine ⟨H4, x, dx', lt, l3, ls.map V.str, rows ++ [⟨t, nm, q, xs⟩], rfl, sm, nx, upd_same, .inr (SqT.of (s04 _ _ hlt)), ok.lampsNm, ?_, .inl ?_, fun r hr => ?_, ?_, fun ls' rs' e H' s' tab => ⟨rfl, ?_⟩, fun e he => ?_⟩
  · rw [List.length_map]
    have := ok.lfew
    omega
  · refine SqL.of ?_
    rw [List.map_append]
    exact hl34
  · rcases List.mem_append.mp hr with h | h
    · exact (rowsT_e ok hrt hdat r h).of s14
    · obtain rfl := List.mem_singleton.mp h
      exact ⟨SqT.of ht4, hnm.of s04, .inr (SqT.of (s04 _ _ hq)), fun v hv => (hx v hv).of s04, hlen⟩
  · rw [List.length_append]
    simp
    omega
  · rw [edat] at e
    exact k ls' rs' e H' x (s04.trans s') (s04.free nx) tab
  · rw [edat] at he
    exact Out.of s04 (kx e he)
end
end Dl

namespace Dl
open PySem PySem.Spec PyProof.Rows L2
theorem int_nd {i j : Int} (h : i ≠ j) : decide (V.int i = V.int j) = false := decide_eq_false fun q => h (V.int.inj q)
theorem int_yd {i : Int} : decide (V.int i = V.int i) = true := decide_eq_true rfl
theorem iteY {c : Bool} {A B : Prop} (e : c = true) (h : A) : if c = true then A else B := by rw [if_pos e]; exact h
theorem iteZ {c : Bool} {A B : Prop} (e : c = false) (h : B) : if c = true then A else B := by rw [if_neg (by rw [e]; decide)]; exact h
end Dl

/-! a try whose suite raises out of it: what the body's calls want, and what the suite raises (my own pieces) -/
namespace Dl
open PySem PySem.Spec PyProof.Rows L2
/-- o.m(e1, *e2) in a try's body -/
def tMethSBS (K : PySem.W.Frag) (C : Addr) (m : Str) (g : Addr) (sp : Sp) (E : L2.St → XK) (ta t1 t2 : TE) : TE := fun σ H Q => ta σ H fun x H1 => ∃ a dx fs, x = .ref a ∧ H1 a = some (.ins C dx fs) ∧ fs.lookup m = none ∧
  ∀ q, H1 q = none → t1 σ (upd H1 q (.met g a)) fun y1 H2 => t2 σ H2 fun y2 H3 => ∃ b vs, y2 = .ref b ∧ (SqT K H3 b vs ∨ SqL K H3 b vs) ∧ H3 q = some (.met g a) ∧ sp (.ref a :: y1 :: vs) H3 Q (E σ)
theorem run_fnRS {X : Cx} {CX : CXT} {k : Nat} {f : Addr} {sp : Sp} {E : L2.St → XK} {σ : L2.St} {pins : List (Addr × Obj)} {H : Hp} {s : Shared} {Q : VK} {us : List Value} {vs : List V} (F : FnR X.prog X.w X.K X.mg X.base CX k f sp) (hr : Room k X.A) (hx : PassesAt CX X σ (E σ)) (I : Inv X pins σ H s) (r : Vals vs us) (h : sp vs H Q (E σ)) :
    codeAny (model X.prog X.w) X.A (.call (.ref f) ⟨us, []⟩) (fun r s' => match r with | .ok (.ret v) => EP X pins σ Q v s' | .ok _ => False | .error e => X.xe e s') s := by
  apply codeAny_mono (F X.A X.stack s H us vs Q (E σ) hr I.env0 r h)
  intro out s2 hout
  match out, hout with
  | .error er, hout => exact hx pins H s er s2 I hout
  | .ok (.ret u), hout => exact I.after hout
theorem pe_methSBS {X : Cx} {CX : CXT} {k : Nat} {C g : Addr} {m : Str} {sp : Sp} {E : L2.St → XK} {o e1 e2 : Expr} {ta t1 t2 : TE} {p apos pos : Pos} (ho : PE X o ta) (c : Cls X.K C) (b : BMeth X.K C m g) (F : FnR X.prog X.w X.K X.mg X.base CX k g sp) (hr : Room k X.A)
    (hx : ∀ σ, PassesAt CX X σ (E σ)) (h1 : PE X e1 t1) (h2 : PE X e2 t2) (base : attributeBase o m X.env (eval o X.env) = eval o X.env := by rfl)
    (each : starEach [e1, .Starred e2 p] X.env = [(false, eval e1 X.env), (true, eval e2 X.env)] := by rfl) : PE X (.Call (.Attribute o m apos) [e1, .Starred e2 p] [] pos) (tMethSBS X.K C m g sp E ta t1 t2) := by
  constructor
  intro pins s σ H Q I h
  apply starcall2_of base each
  apply thn (ho.run pins s σ H _ I h)
  rintro u s1 ⟨x, H1, I1, rx, a, dx, fs, rfl, ea, l, q⟩
  cases rx
  apply getbound_ok I1 ea c b l
  intro q1 s2 hq1 I2
  apply PySem.W.ks_call (P := PySem.W.MethP X.K q1 g (.ref a)) rfl (PySem.W.keeps_M b.fi)
  apply Calls.evalArgs_plain
  apply Calls.spliced_cons
  apply thn (h1.run pins s2 σ _ _ I2 (q q1 hq1))
  rintro v1 s3 ⟨y1, H2, I3, ry1, q2⟩
  apply PySem.W.ks_spliced
  apply thn (h2.run pins s3 σ H2 _ I3 q2)
  rintro v2 s4 ⟨y2, H3, I4, ry2, t, vs, rfl, ht, hm, hsp⟩
  cases ry2
  apply StX.star_any I4 ht
  intro us s5 I5 rv
  apply Calls.spliced_nil
  show PySem.W.MethP X.K q1 g (.ref a) s5.heap ∧ wpAny (model X.prog X.w) X.A (call (.ref q1) (v1 :: (us ++ [])) []) _ _ s5
  rw [List.append_nil]
  have all : Vals (V.ref a :: y1 :: vs) (Value.ref a :: v1 :: us) := .cons rfl (.cons ry1 rv)
  exact ⟨met_P I5 hm, wpAny_call (PySem.W.method_call (met_P I5 hm).1 (run_fnRS F hr (hx σ) I5 all hsp))⟩
section
variable {P : Program} {w : World} {K : PySem.W.Frag} {mg : Str → Option Value} {base : Heap}
theorem scLine : FnScope ["self", "line"] ["self", "line"] (defScope sLine) := ⟨rfl, rfl, rfl, by decide +kernel, rfl, by decide +kernel, by decide +kernel⟩
theorem ok_eline {C fI : Addr} {fd : FuncData} {x : Str} (F : Fun K "__init__" "InvalidLine.__init__" sLine fI fd) (T : ErrC K mg x "line" C fI) : FnOk P w K mg base CX0 1 fI fd ["self", "line"] (spEI K C "line") := by
  refine F.ok scLine (fun vs H Q E h => ?_) (fun cdv A outer s H vs Q E hr h => ?_)
  · obtain ⟨b, n, rfl, _⟩ := h
    rfl
  · obtain ⟨a, v, rfl, ha, k⟩ := h
    exact ⟨_, pss_one (ps_ost (pv 0) (pv 1)), _, rfl, _, rfl, a, C, rfl, T.oex, T.no, .inl ⟨ha, fun dx h1 h2 => k dx h1 h2⟩⟩
/-- the same where an exception is handled -/
theorem ok_elineH {C fI : Addr} {fd : FuncData} {x : Str} (F : Fun K "__init__" "InvalidLine.__init__" sLine fI fd) (T : ErrC K mg x "line" C fI) : L2H.FnH P w K mg base CX0 1 fI fd ["self", "line"] (spEI K C "line") := by
  obtain ⟨oc, od, kV, doc, pm, an, cdv, ct, osl, rfl, lk, hcd⟩ := F.ex
  refine L2H.fn_ofH lk hcd scLine (fun vs H Q E h => ?_) (fun A outer s H vs Q E p hot hr h => ?_)
  · obtain ⟨b, n, rfl, _⟩ := h
    rfl
  · obtain ⟨a, v, rfl, ha, k⟩ := h
    exact ⟨_, pss_one (ps_ost (pv 0) (pv 1)), _, rfl, _, rfl, a, C, rfl, T.oex, T.no, .inl ⟨ha, fun dx h1 h2 => k dx h1 h2⟩⟩
end
end Dl

namespace Dl
open PySem PySem.Spec PyProof.Rows L2
/-! ### what the rules ask, as a law reckons it -/
def erw : Er → Str × V
  | .inv v => ("invalid", v)
  | .dup v => ("duplicate", v)
  | .unk v => ("unknown", v)
  | .many => ("many", .int 24)
/-- None, or a pair of the word and the value -/
def ResAt (H : Hp) (v : V) : Option Er → Prop
  | none => v = .non
  | some e => ∃ t, v = .ref t ∧ H t = some (.tup [.str (erw e).1, (erw e).2])
theorem ResAt.of {H H' : Hp} {v : V} {o : Option Er} (s : Same H H') (h : ResAt H v o) : ResAt H' v o := by
  cases o with
  | none => exact h
  | some e => obtain ⟨t, e1, e2⟩ := h; exact ⟨t, e1, s _ _ e2⟩
def exErr {α : Type} : Except Er α → Option Er
  | .ok _ => none
  | .error e => some e
/-- the word of one name -/
def faultW (v : V) (es : List Str) : Str := match chkNew v es with
  | none => ""
  | some e => (erw e).1
structure TxtD (mg : Str → Option Value) : Prop where
  isinstance : mg "isinstance" = none
  str : mg "str" = none
  len : mg "len" = none
def spFault : Sp := fun vs H Q _ => ∃ (v : V) (u : Addr) (es : List Str), vs = [v, .ref u] ∧ NmOk H v ∧ H u = some (.lst (es.map V.str)) ∧ Q (.str (faultW v es)) H
def spNamesDue (K : PySem.W.Frag) : Sp := fun vs H Q _ => ∃ (p : Addr) (xs : List V), vs = [.ref p] ∧ SqL K H p xs ∧ (∀ v ∈ xs, NmOk H v) ∧ xs.length ≤ 1000 ∧ ∀ H' v, Same H H' → ResAt H' v (exErr (chkNames xs [])) → Q v H'
def spDue (K : PySem.W.Frag) : Sp := fun vs H Q _ => ∃ (a b : Addr) (lamps : List V) (rows : List RowIn), vs = [.ref a, .ref b] ∧ SqL K H a lamps ∧ (∀ v ∈ lamps, NmD H v) ∧ lamps.length ≤ 1000 ∧ SqL K H b (rows.map fun r => V.ref r.t) ∧
  (∀ r ∈ rows, RowOk K H r ∧ ∀ v ∈ r.xs, NmD H v) ∧ rows.length ≤ 1000 ∧ ∀ H' v, Same H H' → ResAt H' v (exErr (initT lamps (rows.map RowIn.dat))) → Q v H'
theorem chkNew_val {v : V} {es : List Str} {er : Er} (hn : chkNew v es = some er) : (erw er).2 = v := by
  cases v with
  | str z =>
    unfold chkNew at hn
    simp only at hn
    split at hn
    · split at hn
      · cases hn; rfl
      · cases hn
    · cases hn; rfl
  | _ => cases hn; rfl
theorem fault_none {v : V} {es : List Str} : (faultW v es = "") ↔ chkNew v es = none := by
  unfold faultW
  cases h : chkNew v es with
  | none => simp
  | some e =>
    have ne1 : ¬ (("invalid" : Str) = "") := by decide +kernel
    have ne2 : ¬ (("duplicate" : Str) = "") := by decide +kernel
    have ne3 : ¬ (("unknown" : Str) = "") := by decide +kernel
    have ne4 : ¬ (("many" : Str) = "") := by decide +kernel
    cases e <;> simp [erw, ne1, ne2, ne3, ne4]
section
variable {P : Program} {w : World} {K : PySem.W.Frag} {mg : Str → Option Value} {base : Heap}
theorem scFault : FnScope ["_law_name_here", "_law_taken", "_law_sign"] ["_law_name_here", "_law_taken"] (defScope sLawFault) := ⟨rfl, rfl, rfl, by decide +kernel, rfl, by decide +kernel, by decide +kernel⟩
theorem ok_fault {f : Addr} {fd : FuncData} (F : Fun K "_law_fault" "_law_fault" sLawFault f fd) (T : TxtD mg) : FnOk P w K mg base CX0 1 f fd ["_law_name_here", "_law_taken"] spFault := by
  refine F.ok scFault (fun vs H Q E h => ?_) (fun cdv A outer s H vs Q E hr h => ?_)
  · obtain ⟨v, u, es, rfl, _⟩ := h
    rfl
  · obtain ⟨v, u, es, rfl, hv, hu, k⟩ := h
    refine ⟨_, (pss_cons (ps_if (PW.pt (pw_or (pt_not (pt_val (pe_callB call_isi (by rfl) T.isinstance (by decide +kernel) (pa_cons (pv 0) (pa_cons (pe_bltn (v := .ty "str") (by rfl) T.str (by decide +kernel) rfl) pa_nil))))) (pw_or (pt_cmpR op_eq (pv 0) pe_str (nomark _)) (pw_or1 (pt_cmpR op_gt (pe_callB call_len_str (by rfl) T.len PySem.boot_len (pa_cons (pv 0) pa_nil)) pe_int (nomark _)))))) (pss_one (ps_ret pe_str)) pss_nil)
        (pss_cons (ps_for PassesOwn.never rfl (pi_str (pv 0)) (pg_name (i := 2) scFault.nd rfl (Or.inl rfl)) (pss_one (ps_if (pt_cmpR op_notIn_sign (pv 2) pe_str (by rfl)) (pss_one (ps_ret pe_str)) pss_nil)))
        (pss_cons (ps_if (pt_cmpR op_in_seq (pv 0) (pv 1) (by rfl)) (pss_one (ps_ret pe_str)) pss_nil)
        (pss_one (ps_ret pe_str))))), ?_⟩
    obtain ⟨ty, b, h1, h2, h3⟩ := nm_type K hv
    refine ⟨_, rfl, v, _, _, _, b, rfl, ClsV.ty "str", h1, h2, b, rfl, ?_⟩
    rcases h3 with ⟨rfl, h3, hns⟩ | ⟨rfl, z, rfl, hz⟩
    · refine iteT ?_
      have e : faultW v es = "invalid" := by
        unfold faultW chkNew
        cases v with
        | str z => exact absurd rfl (hns z)
        | _ => rfl
      rw [e] at k
      exact k
    · refine iteF ?_
      have inv : validN z = false → Q (.str "invalid") H := fun h => by
        have e : faultW (.str z) es = "invalid" := by
          unfold faultW chkNew
          simp [h, erw]
        rw [e] at k
        exact k
      refine ⟨_, rfl, rfl, _, rfl, ?_⟩
      refine ite2 (fun c => ?_) (fun c => ?_)
      · have ez : z = ("" : Str) := by simpa using c
        exact inv (by rw [ez]; decide +kernel)
      have hz1 : 1 ≤ z.length := by
        have q : ¬ z = ("" : Str) := by simpa using c
        exact len_pos q
      refine ⟨_, rfl, z, rfl, hz, _, _, rfl, rfl, _, rfl, ?_⟩
      by_cases h12 : z.length ≤ 12
      · have e2 : decide ((12 : Int) < ((z.length : Nat) : Int)) = false := decide_eq_false (by omega)
        rw [e2]
        refine iteF ?_
        refine ⟨_, rfl, z, rfl, for_it walk_str (fun i σ H' => H' = H ∧ (∃ x, σ = [some (.str z), some (.ref u), x]) ∧ ∀ c ∈ z.cps.toList.take i, c ∈ SG.cps.toList) ⟨rfl, ⟨none, rfl⟩, fun c hc => absurd hc (by simp)⟩ (fun _ _ _ _ _ => trivial) ?_ ?_⟩
        · rintro i x σ H1 H2 hi ⟨rfl, ⟨y, rfl⟩, hall⟩ ⟨rfl, c, hc, rfl⟩
          have hc2 : z.cps.toList[i]? = some c := by rw [Array.getElem?_toList]; exact hc
          have hmem : c ∈ z.cps.toList := List.mem_of_getElem? hc2
          refine ⟨_, rfl, c, SG, rfl, rfl, _, rfl, ?_⟩
          by_cases hm : c ∈ SG.cps.toList
          · rw [decide_eq_true hm]
            refine iteF ⟨rfl, ⟨_, rfl⟩, fun d hd => ?_⟩
            rw [List.take_succ, hc2] at hd
            rcases List.mem_append.mp hd with h | h
            · exact hall d h
            · obtain rfl : d = c := by simpa using h
              exact hm
          · rw [decide_eq_false hm]
            exact iteT (inv (invalid_of hmem hm))
        · rintro σ H1 ⟨rfl, ⟨y, rfl⟩, hall⟩
          have hv2 : validN z = true := by
            rw [valid_of hz1 (by
              have q : z.cps.toList.take z.cps.size = z.cps.toList := by rw [List.take_of_length_le (by simp)]
              rw [q] at hall
              exact hall), decide_eq_true h12]
          refine ⟨_, rfl, _, rfl, u, _, rfl, .inl (SqL.of hu), rfl, flat_strs es, _, rfl, ?_⟩
          show if (inV (.str z) (es.map V.str)) = true then _ else _
          rw [inV_str]
          by_cases hm : z ∈ es
          · rw [decide_eq_true hm]
            have e : faultW (.str z) es = "duplicate" := by unfold faultW chkNew; simp [hv2, hm, erw]
            rw [e] at k
            exact iteT k
          · rw [decide_eq_false hm]
            have e : faultW (.str z) es = "" := by unfold faultW chkNew; simp [hv2, hm]
            rw [e] at k
            exact iteF k
      · have e2 : decide ((12 : Int) < ((z.length : Nat) : Int)) = true := decide_eq_true (by omega)
        rw [e2]
        refine iteT (inv ?_)
        unfold validN
        rw [decide_eq_false h12]
        simp
end
end Dl

namespace Dl
open PySem PySem.Spec PyProof.Rows L2
section
variable {P : Program} {w : World} {K : PySem.W.Frag} {mg : Str → Option Value} {base : Heap}
theorem scNamesDue : FnScope ["_law_names_here", "_law_taken", "_law_name_here", "_law_word"] ["_law_names_here"] (defScope sLawNamesDue) := ⟨rfl, rfl, rfl, by decide +kernel, rfl, by decide +kernel, by decide +kernel⟩
theorem ok_namesdue {f : Addr} {fd : FuncData} (F : Fun K "_law_names_due" "_law_names_due" sLawNamesDue f fd) (gF : Dfn P w K mg base CX0 1 "_law_fault" ["_law_name_here", "_law_taken"] spFault) :
    FnOk P w K mg base CX0 2 f fd ["_law_names_here"] (spNamesDue K) := by
  obtain ⟨fFa, dFa, mFa, kFa, bFa, GFa⟩ := gF
  refine F.ok scNamesDue (fun vs H Q E h => ?_) (fun cdv A outer s H vs Q E hr h => ?_)
  · obtain ⟨p, xs, rfl, _⟩ := h
    rfl
  · obtain ⟨p, xs, rfl, hp, hx, hlen, k⟩ := h
    have hr1 : Room 1 _ := hr
    refine ⟨_, (pss_cons (ps_set (i := 1) scNamesDue.nd rfl (Or.inl rfl) (pe_lst pa_nil))
        (pss_cons (ps_for PassesOwn.never rfl (pi_list (pv 0)) (pg_name (i := 2) scNamesDue.nd rfl (Or.inl rfl)) (pss_cons (ps_set (i := 3) scNamesDue.nd rfl (Or.inl rfl) (pe_call GFa hr1 (by rfl) mFa kFa bFa .nil pass0 (pa_cons (pv 2) (pa_cons (pv 1) pa_nil))))
        (pss_cons (ps_if (pt_cmpR op_ne (pv 3) pe_str (nomark _)) (pss_one (ps_ret (pe_tup (pa_cons (pv 3) (pa_cons (pv 2) pa_nil))))) pss_nil)
        (pss_one (ps_expr (pe_bm PySem.F.plainAttrs_list PySem.F.slot_list_append PySem.F.type_list_append mt_append (pv 1) (pa_cons (pv 2) pa_nil)))))))
        (pss_one (ps_ret pe_non)))), ?_⟩
    refine ⟨Nat.zero_le _, fun u hu => ?_⟩
    refine ⟨_, rfl, p, rfl, ⟨_, Same.seq (Same.upd_new hu) hp⟩, for_it (walk_list (K := K) (a := p) (xs := xs)) (fun i σ H' => ∃ (acc : List Str) (x y : Option V), σ = [some (.ref p), some (.ref u), x, y] ∧ H' u = some (.lst (acc.map V.str)) ∧ Same H H' ∧ chkNames (xs.drop i) acc = chkNames xs [] ∧ acc.length ≤ i)
      ⟨[], none, none, rfl, upd_same, Same.upd_new hu, rfl, Nat.le_refl _⟩ (fun i σ H' _ ⟨_, _, _, _, _, s1, _⟩ => Same.seq s1 hp) ?_ ?_⟩
    · rintro i v σ H1 H2 hi ⟨acc, x, y, rfl, hL, s1, hc, ha⟩ ⟨rfl, hv⟩
      have hd : xs.drop i = v :: xs.drop (i + 1) := by
        rw [List.drop_eq_getElem_cons hi]
        have q := (List.getElem?_eq_some_iff.mp hv).2
        rw [q]
      rw [hd] at hc
      refine ⟨_, rfl, _, rfl, v, u, acc, rfl, (hx v (List.mem_of_getElem? hv)).of s1, hL, ?_⟩
      refine ⟨_, rfl, rfl, _, rfl, ?_⟩
      cases hn : chkNew v acc with
      | none =>
        have e : faultW v acc = "" := fault_none.mpr hn
        rw [e]
        refine iteNS rfl ?_
        obtain ⟨z, rfl, _, _⟩ := chkNew_none hn
        refine ⟨_, rfl, .inl ⟨rfl, _, SqL.of hL⟩, _, rfl, u, _, _, rfl, rfl, hL, ?_, ?_⟩
        · rw [List.length_map]
          exact small1000 (by omega)
        · refine ⟨acc ++ [z], _, _, rfl, ?_, fun b o h => ?_, ?_, ?_⟩
          · rw [upd_same, List.map_append]; rfl
          · rw [upd_ne (ne_of_none h hu)]
            exact s1 _ _ h
          · rw [← hc, chkNames, hn]
            rfl
          · rw [List.length_append]
            simp
            omega
      | some er =>
        have ne : ¬ (V.str (faultW v acc) = V.str "") := fun q => by
          have := fault_none.mp (V.str.inj q)
          rw [hn] at this
          cases this
        rw [decide_eq_false ne]
        have hce : chkNames xs [] = .error er := by rw [← hc, chkNames, hn]
        have hw : faultW v acc = (erw er).1 ∧ (erw er).2 = v := by
          refine ⟨by unfold faultW; rw [hn], ?_⟩
          cases v with
          | str z =>
            unfold chkNew at hn
            simp only at hn
            split at hn
            · split at hn
              · cases hn; rfl
              · cases hn
            · cases hn; rfl
          | _ => cases hn; rfl
        refine iteT ⟨_, rfl, _, rfl, by show 2 ≤ sizeLine; decide, fun t ht => ?_⟩
        refine k _ _ (s1.trans (Same.upd_new ht)) ?_
        rw [hce]
        refine ⟨t, rfl, ?_⟩
        rw [upd_same, hw.1, hw.2]
    · rintro σ H1 ⟨acc, x, y, rfl, hL, s1, hc, ha⟩
      rw [List.drop_length] at hc
      refine k H1 .non s1 ?_
      rw [← hc]
      rfl
end
end Dl

namespace Dl
open PySem PySem.Spec PyProof.Rows L2
theorem names_strs' : ∀ {xs : List V} {acc es : List Str}, chkNames xs acc = .ok es → (∀ z ∈ acc, validN z = true) → es.map V.str = acc.map V.str ++ xs ∧ ∀ z ∈ es, validN z = true
  | [], acc, es, h, ha => by cases h; exact ⟨by simp, ha⟩
  | v :: r, acc, es, h, ha => by
    unfold chkNames at h
    cases e : chkNew v acc with
    | some q => rw [e] at h; cases h
    | none =>
      rw [e] at h
      obtain ⟨z, rfl, hz, _⟩ := chkNew_none e
      have q := names_strs' h fun y hy => by
        rcases List.mem_append.mp hy with hy | hy
        · exact ha y hy
        · obtain rfl := List.mem_singleton.mp hy
          exact hz
      refine ⟨?_, q.2⟩
      rw [q.1, List.map_append, List.append_assoc]
      rfl
theorem names_strs {xs : List V} {es : List Str} (h : chkNames xs [] = .ok es) : xs = es.map V.str ∧ ∀ z ∈ es, validN z = true := by
  have q := names_strs' h fun z hz => absurd hz (by simp)
  exact ⟨by simpa using q.1.symm, q.2⟩
section
variable {P : Program} {w : World} {K : PySem.W.Frag} {mg : Str → Option Value} {base : Heap}
theorem scDue : FnScope ["_law_lamps", "_law_rows", "_law_due_here", "_law_looks", "_law_row", "_law_word", "_law_inner", "_law_lamp"] ["_law_lamps", "_law_rows"] (defScope sLawDue) := ⟨rfl, rfl, rfl, by decide +kernel, rfl, by decide +kernel, by decide +kernel⟩
theorem ok_due {f : Addr} {fd : FuncData} (F : Fun K "_law_due" "_law_due" sLawDue f fd) (T : TxtD mg) (gF : Dfn P w K mg base CX0 1 "_law_fault" ["_law_name_here", "_law_taken"] spFault) (gN : Dfn P w K mg base CX0 2 "_law_names_due" ["_law_names_here"] (spNamesDue K)) :
    FnOk P w K mg base CX0 3 f fd ["_law_lamps", "_law_rows"] (spDue K) := by
  obtain ⟨fFa, dFa, mFa, kFa, bFa, GFa⟩ := gF
  obtain ⟨fNd, dNd, mNd, kNd, bNd, GNd⟩ := gN
  refine F.ok scDue (fun vs H Q E h => ?_) (fun cdv A outer s H vs Q E hr h => ?_)
  · obtain ⟨a, b, lamps, rows, rfl, _⟩ := h
    rfl
  · obtain ⟨a, b, lamps, rows, rfl, ha, hla, hll, hb, hrw, hrl, k⟩ := h
    have hr2 : Room 2 _ := hr
    have hr1 : Room 1 _ := hr.mono (by decide)
    refine ⟨_, (pss_cons (ps_if (PW.pt (pw_or (pt_cmpR op_gt (pe_callB call_len_seq (by rfl) T.len PySem.boot_len (pa_cons (pv 0) pa_nil)) pe_int (nomark _)) (pw_or1 (pt_cmpR op_gt (pe_callB call_len_seq (by rfl) T.len PySem.boot_len (pa_cons (pv 1) pa_nil)) pe_int (nomark _))))) (pss_one (ps_ret (pe_tup (pa_cons pe_str (pa_cons pe_int pa_nil))))) pss_nil)
        (pss_cons (ps_set (i := 2) scDue.nd rfl (Or.inl rfl) (pe_call GNd hr2 (by rfl) mNd kNd bNd .nil pass0 (pa_cons (pv 0) pa_nil)))
        (pss_cons (ps_if (pt_cmpR op_notN (pv 2) pe_non (nomark _)) (pss_one (ps_ret (pv 2))) pss_nil)
        (pss_cons (ps_set (i := 3) scDue.nd rfl (Or.inl rfl) (pe_lst pa_nil))
        (pss_cons (ps_for PassesOwn.never rfl (pi_list (pv 1)) (pg_name (i := 4) scDue.nd rfl (Or.inl rfl)) (pss_cons (ps_set (i := 5) scDue.nd rfl (Or.inl rfl) (pe_call GFa hr1 (by rfl) mFa kFa bFa .nil pass0 (pa_cons (pe_ix ix_tup (pv 4) pe_int (fun _ _ => rfl)) (pa_cons (pv 3) pa_nil))))
        (pss_cons (ps_if (pt_cmpR op_ne (pv 5) pe_str (nomark _)) (pss_one (ps_ret (pe_tup (pa_cons (pv 5) (pa_cons (pe_ix ix_tup (pv 4) pe_int (fun _ _ => rfl)) pa_nil))))) pss_nil)
        (pss_cons (ps_expr (pe_bm PySem.F.plainAttrs_list PySem.F.slot_list_append PySem.F.type_list_append mt_append (pv 3) (pa_cons (pe_ix ix_tup (pv 4) pe_int (fun _ _ => rfl)) pa_nil)))
        (pss_cons (ps_set (i := 6) scDue.nd rfl (Or.inl rfl) (pe_lst pa_nil))
        (pss_one (ps_for PassesOwn.never rfl (pi_list (pe_ix ix_tup (pv 4) pe_int (fun _ _ => rfl))) (pg_name (i := 7) scDue.nd rfl (Or.inl rfl)) (pss_cons (ps_if (pt_cmpR (op_notInD (room65 hr)) (pv 7) (pv 0) (by rfl)) (pss_one (ps_ret (pe_tup (pa_cons pe_str (pa_cons (pv 7) pa_nil))))) pss_nil)
        (pss_cons (ps_if (pt_cmpR op_in_seq (pv 7) (pv 6) (by rfl)) (pss_one (ps_ret (pe_tup (pa_cons pe_str (pa_cons (pv 7) pa_nil))))) pss_nil)
        (pss_one (ps_expr (pe_bm PySem.F.plainAttrs_list PySem.F.slot_list_append PySem.F.type_list_append mt_append (pv 6) (pa_cons (pv 7) pa_nil)))))))))))))
        (pss_one (ps_ret pe_non))))))), ?_⟩
    have many : 24 < lamps.length ∨ 24 < (rows.map RowIn.dat).length → ∀ H' t, Same H H' → H' t = some (.tup [.str "many", .int 24]) → Q (.ref t) H' := fun h H' t s e => by
      refine k H' _ s ?_
      rw [show initT lamps (rows.map RowIn.dat) = .error .many by unfold initT; rw [if_pos h]]
      exact ⟨t, rfl, e⟩
    refine ⟨_, rfl, a, _, rfl, .inl ha, _, _, rfl, rfl, _, rfl, ?_⟩
    refine ite2 (fun c1 => ?_) (fun c1 => ?_)
    · refine ⟨by show 2 ≤ sizeLine; decide, fun t ht => many (.inl ?_) _ t (Same.upd_new ht) upd_same⟩
      have q : (24 : Int) < (lamps.length : Nat) := of_decide_eq_true c1
      omega
    refine ⟨_, rfl, b, _, rfl, .inl hb, _, _, rfl, rfl, _, rfl, ?_⟩
    refine ite2 (fun c2 => ?_) (fun c2 => ?_)
    · refine ⟨by show 2 ≤ sizeLine; decide, fun t ht => many (.inr ?_) _ t (Same.upd_new ht) upd_same⟩
      have q : (24 : Int) < ((rows.map fun r => V.ref r.t).length : Nat) := of_decide_eq_true c2
      rw [List.length_map] at q ⊢
      omega
    have c1' : ¬ 24 < lamps.length := fun x => c1 (decide_eq_true (by show (24 : Int) < (lamps.length : Nat); omega))
    have c2' : ¬ 24 < (rows.map RowIn.dat).length := fun x => c2 (decide_eq_true (by
      show (24 : Int) < ((rows.map fun r => V.ref r.t).length : Nat)
      rw [List.length_map] at x ⊢
      omega))
    have hT : initT lamps (rows.map RowIn.dat) = match chkNames lamps [] with
        | .error e => .error e
        | .ok ls => match initRows ls (rows.map RowIn.dat) [] with
          | .error e => .error e
          | .ok rs => .ok (ls, rs) := by
      show (if _ then _ else _) = _
      rw [if_neg (by intro z; rcases z with z | z; exact c1' z; exact c2' z)]
      all_goals rfl
    refine ⟨_, rfl, a, lamps, rfl, ha, fun v hv => (hla v hv).ok, hll, fun H1 v s1 rv => ?_⟩
    cases hn : chkNames lamps [] with
    | error e =>
      rw [hn] at rv hT
      dsimp only at hT
      have rv2 := rv
      obtain ⟨t, rfl, ht⟩ := rv2
      refine ⟨_, rfl, rfl, _, rfl, ?_⟩
      rw [show (!decide (V.ref t = V.non)) = true by simp]
      refine iteT ⟨_, rfl, k H1 _ s1 ?_⟩
      rw [hT]
      exact rv
    | ok ls =>
      rw [hn] at rv hT
      dsimp only at hT
      obtain rfl : v = .non := rv
      obtain ⟨hls, hval⟩ := names_strs hn
      refine ⟨_, rfl, rfl, _, rfl, ?_⟩
      rw [show (!decide (V.non = V.non)) = false by simp]
      refine iteF ⟨Nat.zero_le _, fun lk hlk => ?_⟩
      have hlk0 : H lk = none := s1.free hlk
      refine ⟨_, rfl, b, rfl, ⟨_, Same.seq (s1.trans (Same.upd_new hlk)) hb⟩, for_it (walk_list (K := K) (a := b) (xs := rows.map fun r => V.ref r.t)) (fun i σ H' => ∃ (x4 x5 x6 x7 : Option V) (acc : List (Str × List Str)),
          σ = [some (.ref a), some (.ref b), some .non, some (.ref lk), x4, x5, x6, x7] ∧ H' lk = some (.lst ((acc.map (·.1)).map V.str)) ∧ Same H H' ∧ initRows ls ((rows.map RowIn.dat).drop i) acc = initRows ls (rows.map RowIn.dat) [] ∧ acc.length ≤ i)
        ⟨none, none, none, none, [], rfl, upd_same, s1.trans (Same.upd_new hlk), rfl, Nat.le_refl _⟩ (fun i σ H' _ ⟨_, _, _, _, _, _, _, s2, _⟩ => Same.seq s2 hb) ?_ ?_⟩
      · rintro i v σ H2 H3 hi ⟨x4, x5, x6, x7, acc, rfl, hL, s3, hc, hal⟩ ⟨rfl, hv⟩
        have hv2 : (rows.map fun r => V.ref r.t)[i]? = some v := hv
        rw [List.length_map] at hi
        obtain ⟨r, hr', rfl⟩ : ∃ r, rows[i]? = some r ∧ v = V.ref r.t := by
          rw [List.getElem?_map] at hv2
          cases e : rows[i]? with
          | none => rw [e] at hv2; cases hv2
          | some r => rw [e] at hv2; exact ⟨r, rfl, (Option.some.inj hv2).symm⟩
        have hd : (rows.map RowIn.dat).drop i = (r.look, r.xs) :: (rows.map RowIn.dat).drop (i + 1) := by
          rw [List.drop_eq_getElem_cons (by rw [List.length_map]; exact hi)]
          rw [List.getElem_map, (List.getElem?_eq_some_iff.mp hr').2]
          rfl
        rw [hd] at hc
        obtain ⟨R, hxs⟩ := hrw r (List.mem_of_getElem? hr')
        have R2 := R.of s3
        refine ⟨_, rfl, r.t, _, 0, r.look, rfl, rfl, R2.pair, rfl, _, rfl, r.look, lk, acc.map (·.1), rfl, R2.name, hL, ?_⟩
        refine ⟨_, rfl, rfl, _, rfl, ?_⟩
        cases hw : chkNew r.look (acc.map (·.1)) with
        | some er =>
          have ne : ¬ (V.str (faultW r.look (acc.map (·.1))) = V.str "") := fun q => by
            have := fault_none.mp (V.str.inj q)
            rw [hw] at this
            cases this
          rw [decide_eq_false ne]
          have hce : initRows ls (rows.map RowIn.dat) [] = .error er := by rw [← hc, initRows, hw]
          have hwe : faultW r.look (acc.map (·.1)) = (erw er).1 ∧ (erw er).2 = r.look := ⟨by unfold faultW; rw [hw], chkNew_val hw⟩
          refine iteT ⟨_, rfl, _, rfl, r.t, _, 0, r.look, rfl, rfl, R2.pair, rfl, by show 2 ≤ sizeLine; decide, fun t ht => ?_⟩
          refine k _ _ (s3.trans (Same.upd_new ht)) ?_
          rw [hT, hce]
          refine ⟨t, rfl, ?_⟩
          rw [upd_same, hwe.1, hwe.2]
        | none =>
          have e : faultW r.look (acc.map (·.1)) = "" := fault_none.mpr hw
          rw [e]
          refine iteNS rfl ?_
          obtain ⟨z, ez, hz, hza⟩ := chkNew_none hw
          refine ⟨_, rfl, .inl ⟨rfl, _, SqL.of hL⟩, _, rfl, r.t, _, 0, r.look, rfl, rfl, R2.pair, rfl, lk, _, _, rfl, rfl, hL, ?_, ?_⟩
          · rw [List.length_map, List.length_map]
            exact small1000 (by omega)
          have s4 : Same H (upd H3 lk (.lst ((acc.map (·.1)).map V.str ++ [r.look]))) := fun c o h => by
            rw [upd_ne (ne_of_none h hlk0)]; exact s3 c o h
          generalize hH4 : upd H3 lk (.lst ((acc.map (·.1)).map V.str ++ [r.look])) = H4 at s4
          have hL4 : H4 lk = some (.lst ((acc.map (·.1)).map V.str ++ [r.look])) := by rw [← hH4, upd_same]
          refine ⟨Nat.zero_le _, fun u hu => ?_⟩
          have hu' : H4 u = none := hu
          have s5 : Same H (upd H4 u (.lst [])) := s4.trans (Same.upd_new hu')
          have nlu : lk ≠ u := ne_of_none hL4 hu'
          have hu0 : H u = none := s4.free hu'
          refine ⟨_, rfl, r.t, _, 1, .ref r.s, rfl, rfl, (R.of s5).pair, rfl, r.s, rfl, ⟨_, (R.of s5).lst⟩, for_it (walk_list (K := K) (a := r.s) (xs := r.xs)) (fun j σ H' => ∃ (x7 : Option V) (prev : List Str),
              σ = [some (.ref a), some (.ref b), some .non, some (.ref lk), some (.ref r.t), some (.str ""), some (.ref u), x7] ∧ H' lk = some (.lst ((acc.map (·.1)).map V.str ++ [r.look])) ∧ H' u = some (.lst (prev.map V.str)) ∧ Same H H' ∧
              r.xs.take j = prev.map V.str ∧ chkShown (r.xs.drop j) ls prev = chkShown r.xs ls [])
            ⟨x7, [], rfl, by rw [upd_ne nlu]; exact hL4, upd_same, s5, rfl, rfl⟩ (fun j σ H' _ ⟨_, _, _, _, _, s6, _⟩ => (R.of s6).lst) ?_ ?_⟩
          · rintro j y σ H5 H6 hj ⟨x7', prev, rfl, hL6, hu6, s6, ht, hcs⟩ ⟨rfl, hy⟩
            have hy2 : r.xs[j]? = some y := hy
            have hdj : r.xs.drop j = y :: r.xs.drop (j + 1) := by
              rw [List.drop_eq_getElem_cons hj]
              rw [(List.getElem?_eq_some_iff.mp hy2).2]
            rw [hdj] at hcs
            have hyD := (hxs y (List.mem_of_getElem? hy2)).of s6
            obtain ⟨d, dp, dc, dd, dany⟩ := hyD.dat K
            refine ⟨_, rfl, _, rfl, d, ls.map PyData.str, dp, .lst (by rw [← hls]; exact Same.seq s6 ha) (dpAll_strs ls), shaped_of dc dd, shaped_strs fun z hz => valid_can (hval z hz), _, rfl, ?_⟩
            rw [dany ls]
            cases hk : knows y ls with
            | false =>
              have hce : initRows ls (rows.map RowIn.dat) [] = .error (.unk y) := by
                rw [← hc, initRows, hw]
                have q : chkShown r.xs ls [] = some (.unk y) := by rw [← hcs, chkShown, if_neg (by rw [hk]; decide)]
                simp only [q]
              refine iteT ⟨_, rfl, by show 2 ≤ sizeLine; decide, fun t ht => ?_⟩
              refine k _ _ (s6.trans (Same.upd_new ht)) ?_
              rw [hT, hce]
              exact ⟨t, rfl, upd_same⟩
            | true =>
              refine iteF ?_
              obtain ⟨zy, rfl, hzy⟩ := knows_str hk
              refine ⟨_, rfl, _, rfl, u, _, rfl, .inl (SqL.of hu6), rfl, flat_strs prev, _, rfl, ?_⟩
              show if (inV (.str zy) (prev.map V.str)) = true then _ else _
              rw [inV_str]
              by_cases hm : zy ∈ prev
              · rw [decide_eq_true hm]
                have hce : initRows ls (rows.map RowIn.dat) [] = .error (.dup (.str zy)) := by
                  rw [← hc, initRows, hw]
                  have q : chkShown r.xs ls [] = some (.dup (.str zy)) := by rw [← hcs, chkShown, if_pos hk, if_pos (show strOf (.str zy) ∈ prev from hm)]
                  simp only [q]
                refine iteT ⟨_, rfl, by show 2 ≤ sizeLine; decide, fun t ht => ?_⟩
                refine k _ _ (s6.trans (Same.upd_new ht)) ?_
                rw [hT, hce]
                exact ⟨t, rfl, upd_same⟩
              · rw [decide_eq_false hm]
                refine iteF ⟨_, rfl, .inl ⟨rfl, _, SqL.of hu6⟩, _, rfl, u, _, _, rfl, rfl, hu6, ?_, ?_⟩
                · have q := congrArg List.length ht
                  rw [List.length_take, List.length_map] at q
                  have := R.len
                  rw [List.length_map]
                  exact small1000 (by omega)
                · refine ⟨_, prev ++ [zy], rfl, by rw [upd_ne nlu]; exact hL6, by rw [upd_same, List.map_append]; rfl, fun c o h => ?_, ?_, ?_⟩
                  · rw [upd_ne (ne_of_none h hu0)]; exact s6 c o h
                  · rw [List.take_succ, ht, hy2, List.map_append]
                    rfl
                  · rw [← hcs, chkShown, if_pos hk, if_neg (show ¬ strOf (.str zy) ∈ prev from hm)]
                    rfl
          · rintro σ H5 ⟨x7', prev, rfl, hL6, hu6, s6, ht, hcs⟩
            rw [List.drop_length] at hcs
            refine ⟨_, _, _, x7', acc ++ [(z, chosen ls (r.xs.map strOf))], rfl, ?_, s6, ?_, ?_⟩
            · rw [hL6, ez]
              simp
            · rw [← hc, initRows, hw]
              simp only [← hcs, chkShown]
              rw [ez]
              rfl
            · rw [List.length_append]
              simp
              omega
      · rintro σ H2 ⟨x4, x5, x6, x7, acc, rfl, hL, s3, hc, hal⟩
        have hc' : initRows ls (rows.map RowIn.dat) [] = .ok acc := by
          rw [← hc, List.drop_eq_nil_of_le (by simp)]
          rfl
        refine k H2 .non s3 ?_
        rw [hT, hc']
        rfl
end
end Dl

namespace Dl
open PySem PySem.Spec PyProof.Rows L2
/-! ### what the words of a line are, and the first wrong line -/
theorem spl_facts (S : List Nat) : ∀ (l : List Nat) (k : Nat) (acc : List Nat), TL.spl S k acc l ≠ [] ∧ (∀ p ∈ TL.spl S k acc l, p.length ≤ acc.length + l.length ∧ ∀ c ∈ p, c ∈ acc ∨ c ∈ l) ∧ (TL.spl S k acc l).length ≤ l.length + 1
  | [], k, acc => by
    rw [TL.spl_nil]
    refine ⟨by simp, fun p hp => ?_, by simp⟩
    obtain rfl := List.mem_singleton.mp hp
    exact ⟨by simp, fun c hc => .inl hc⟩
  | c :: r, 0, acc => by
    unfold TL.spl
    by_cases h : TL.pre S (c :: r) = true
    · rw [if_pos h]
      obtain ⟨_, i2, i3⟩ := spl_facts S r (S.length - 1) []
      refine ⟨by simp, fun p hp => ?_, by simp only [List.length_cons]; omega⟩
      rcases List.mem_cons.mp hp with rfl | hp
      · exact ⟨by simp, fun d hd => .inl hd⟩
      · obtain ⟨l1, l2⟩ := i2 p hp
        refine ⟨by simp only [List.length_cons, List.length_nil] at *; omega, fun d hd => ?_⟩
        rcases l2 d hd with h | h
        · simp at h
        · exact .inr (List.mem_cons_of_mem _ h)
    · rw [if_neg h]
      obtain ⟨i1, i2, i3⟩ := spl_facts S r 0 (acc ++ [c])
      refine ⟨i1, fun p hp => ?_, by simp only [List.length_cons]; omega⟩
      obtain ⟨l1, l2⟩ := i2 p hp
      refine ⟨by simp only [List.length_append, List.length_cons, List.length_nil] at *; omega, fun d hd => ?_⟩
      rcases l2 d hd with h | h
      · rcases List.mem_append.mp h with h | h
        · exact .inl h
        · obtain rfl := List.mem_singleton.mp h
          exact .inr (List.mem_cons_self ..)
      · exact .inr (List.mem_cons_of_mem _ h)
  | c :: r, k + 1, acc => by
    unfold TL.spl
    obtain ⟨i1, i2, i3⟩ := spl_facts S r k acc
    refine ⟨i1, fun p hp => ?_, by simp only [List.length_cons]; omega⟩
    obtain ⟨l1, l2⟩ := i2 p hp
    refine ⟨by simp only [List.length_cons]; omega, fun d hd => ?_⟩
    rcases l2 d hd with h | h
    · exact .inl h
    · exact .inr (List.mem_cons_of_mem _ h)
theorem sp_tl : TL.tl " " = 32 :: [] ∧ TL.tl "\n" = 10 :: [] ∧ (" " : Str).cps.all (· < 256) = true ∧ ("\n" : Str).cps.all (· < 256) = true ∧ ((" " : Str).length == 0) = false ∧ (("\n" : Str).length == 0) = false := by decide +kernel
theorem split_facts (z : Str) : Txt.split z " " ≠ [] ∧ (∀ w ∈ Txt.split z " ", w.length ≤ z.length ∧ ∀ c ∈ TL.tl w, c ∈ TL.tl z) ∧ (Txt.split z " ").length ≤ z.length + 1 := by
  have e := TL.split_spl z " " (by rw [sp_tl.1]; simp) (TL.kind_ok sp_tl.2.2.1)
  obtain ⟨f1, f2, f3⟩ := spl_facts (TL.tl " ") (TL.tl z) 0 []
  rw [← e] at f1 f2 f3
  refine ⟨fun h => f1 (by rw [h]; rfl), fun w hw => ?_, ?_⟩
  · obtain ⟨l1, l2⟩ := f2 (TL.tl w) (List.mem_map_of_mem hw)
    rw [TL.len_tl, TL.len_tl]
    refine ⟨by simpa using l1, fun c hc => ?_⟩
    rcases l2 c hc with h | h
    · simp at h
    · exact h
  · rw [List.length_map] at f3
    rw [TL.len_tl z]
    exact f3
/-- a line of signs below 128, not too long -/
structure LineOk (z : Str) : Prop where
  few : z.length ≤ 900
  asc : ∀ c ∈ TL.tl z, c < 128
structure WordOk (w : Str) : Prop where
  few : w.length ≤ 900
  asc : ∀ c ∈ TL.tl w, c < 128
theorem WordOk.can {w : Str} (h : WordOk w) : canS w := can_of fun c hc => by have := h.asc c hc; omega
theorem WordOk.nm {w : Str} (h : WordOk w) {H : Hp} : NmOk H (.str w) := Nat.le_of_lt (small1000 (by have := h.few; omega))
theorem WordOk.nmd {w : Str} (h : WordOk w) {H : Hp} : NmD H (.str w) := ⟨h.can, by have := h.few; omega⟩
theorem LineOk.words {z : Str} (h : LineOk z) : ∀ w ∈ Txt.split z " ", WordOk w := fun w hw => by
  obtain ⟨l1, l2⟩ := (split_facts z).2.1 w hw
  exact ⟨Nat.le_trans l1 h.few, fun c hc => h.asc c (l2 c hc)⟩
theorem LineOk.len {z : Str} (h : LineOk z) : (Txt.split z " ").length ≤ 901 := Nat.le_trans (split_facts z).2.2 (by have := h.few; omega)
theorem LineOk.room {z : Str} (h : LineOk z) : z.length + 2 ≤ sizeLine := by have := h.few; rw [sizeLine_eq]; omega
/-! ### the rules for lines -/
def okT (ls : List Str) (ts : List (Str × List Str)) : Bool := (exErr (initT (ls.map V.str) (ts.map rdat))).isNone
def lineLook (z : Str) : Option (Str × List Str) := match Txt.split z " " with
  | w :: n :: xs => if w = "look" then some (n, xs) else none
  | _ => none
def lineLamps (z : Str) : Option (List Str) := match Txt.split z " " with
  | w :: ls => if w = "lamps" then (if okT ls [] = true then some ls else none) else none
  | [] => none
def goRest (ls : List Str) : List (Str × List Str) → List Str → Nat → Nat
  | _, [], _ => 0
  | ts, z :: r, n => match lineLook z with
    | none => n
    | some x => if okT ls (ts ++ [x]) = true then goRest ls (ts ++ [x]) r (n + 1) else n
def firstWrong : List Str → Nat
  | [] => 1
  | l :: r => match lineLamps l with
    | none => 1
    | some ls => goRest ls [] r 2
/-- the rows of right lines -/
def rowsOf : List Str → List (Str × List Str)
  | [] => []
  | z :: r => match lineLook z with
    | none => rowsOf r
    | some x => x :: rowsOf r
def cutRows (ms : List Str) (ts : List (Str × List Str)) : List (Str × List Str) := ts.map fun t => (t.1, chosen ms t.2)
theorem okT_iff {ls : List Str} {ts : List (Str × List Str)} : okT ls ts = true ↔ ∃ r, initT (ls.map V.str) (ts.map rdat) = .ok r := by
  unfold okT
  cases e : initT (ls.map V.str) (ts.map rdat) with
  | ok r => exact ⟨fun _ => ⟨r, rfl⟩, fun _ => rfl⟩
  | error er => exact ⟨fun h => by simp [exErr] at h, fun ⟨r, h⟩ => by cases h⟩
theorem names_back {xs es : List Str} (h : chkNames (xs.map V.str) [] = .ok es) : es = xs ∧ ∀ z ∈ es, validN z = true := by
  obtain ⟨e, v⟩ := names_strs h
  refine ⟨?_, v⟩
  have e2 := congrArg (List.map strOf) e
  rw [strs_back, strs_back] at e2
  exact e2.symm
theorem rows_cut {ls : List Str} : ∀ {ts : List (Str × List Str)} {acc rs : List (Str × List Str)}, initRows ls (ts.map rdat) acc = .ok rs → rs = acc ++ cutRows ls ts
  | [], acc, rs, h => by
    cases h
    simp [cutRows]
  | x :: r, acc, rs, h => by
    rw [List.map_cons] at h
    have h : initRows ls ((V.str x.1, x.2.map V.str) :: r.map rdat) acc = .ok rs := h
    unfold initRows at h
    cases e1 : chkNew (.str x.1) (acc.map (·.1)) with
    | some e => rw [e1] at h; cases h
    | none =>
      rw [e1] at h
      simp only at h
      cases e2 : chkShown (x.2.map V.str) ls [] with
      | some e => rw [e2] at h; cases h
      | none =>
        rw [e2] at h
        have q := rows_cut h
        rw [q, strs_back, List.append_assoc]
        rfl
theorem init_cut {ls : List Str} {ts : List (Str × List Str)} {r : List Str × List (Str × List Str)} (h : initT (ls.map V.str) (ts.map rdat) = .ok r) : r = (ls, cutRows ls ts) ∧ initRows ls (ts.map rdat) [] = .ok (cutRows ls ts) ∧ chkNames (ls.map V.str) [] = .ok ls ∧ ls.length ≤ 24 ∧ ts.length ≤ 24 := by
  unfold initT at h
  by_cases few : 24 < (ls.map V.str).length ∨ 24 < (ts.map rdat).length
  · rw [if_pos few] at h; cases h
  · rw [if_neg few] at h
    rw [List.length_map, List.length_map] at few
    cases e1 : chkNames (ls.map V.str) [] with
    | error e => rw [e1] at h; cases h
    | ok es =>
      rw [e1] at h
      obtain ⟨rfl, _⟩ := names_back e1
      simp only at h
      cases e2 : initRows es (ts.map rdat) [] with
      | error e => rw [e2] at h; cases h
      | ok rs =>
        rw [e2] at h
        have q := rows_cut e2
        rw [List.nil_append] at q
        cases h
        subst q
        exact ⟨rfl, rfl, rfl, by omega, by omega⟩
/-- rows that were made stand for those that were given -/
theorem init_snoc {ls : List Str} {ts : List (Str × List Str)} {r : List Str × List (Str × List Str)} (h : initT (ls.map V.str) (ts.map rdat) = .ok r) (h2 : initRows ls ((cutRows ls ts).map rdat) [] = .ok (cutRows ls ts)) (x : Str × List Str) :
    initT (ls.map V.str) ((ts ++ [x]).map rdat) = initT (ls.map V.str) ((cutRows ls ts).map rdat ++ [(.str x.1, x.2.map V.str)]) := by
  obtain ⟨_, h1, e1, _, _⟩ := init_cut h
  have len : (cutRows ls ts).length = ts.length := by unfold cutRows; rw [List.length_map]
  unfold initT
  rw [e1]
  have c : (24 < (ls.map V.str).length ∨ 24 < ((ts ++ [x]).map rdat).length) ↔ (24 < (ls.map V.str).length ∨ 24 < ((cutRows ls ts).map rdat ++ [(V.str x.1, x.2.map V.str)]).length) := by
    simp only [List.length_map, List.length_append, List.length_cons, List.length_nil, len]
  by_cases q : 24 < (ls.map V.str).length ∨ 24 < ((ts ++ [x]).map rdat).length
  · rw [if_pos q, if_pos (c.mp q)]
  · rw [if_neg q, if_neg fun z => q (c.mpr z)]
    simp only [List.map_append, rowsApp h1, rowsApp h2]
    rfl
end Dl

/-! a, *b = a list: my own rule for a starred target at the second place of two -/
namespace Dl
open PySem PySem.Spec PySem.Calls PyProof.Rows L2
section
variable {X : Cx} {pos : Pos}
theorem pgs_star {e : Expr} {p : Pos} {es : List Expr} {t : TG} {u : TGs} (one : PG X e t) (more : PGs X es u) : PGs X (.Starred e p :: es) (gCons t u) := by
  constructor
  rintro pins s σ H vs us Q I r ⟨v, vr, rfl, h⟩
  cases r with
  | cons r rr => exact assignInOrder_cons (thn (one.run pins s σ H _ _ _ I r h) fun _ s1 ⟨σ1, H1, I1, q1⟩ => more.run pins s1 σ1 H1 _ _ Q I1 rr q1)
/-- the head and a new list of the others -/
def gStar1 (K : PySem.W.Frag) (t : TGs) : TG := fun v σ H Q => ∃ a x xs, v = .ref a ∧ SqL K H a (x :: xs) ∧ xs.length ≤ 10000 ∧ ∀ l, H l = none → t [x, .ref l] σ (upd H l (.lst xs)) Q
theorem unpack_star1 {M : Model} {A : Around} {E : Value → Shared → Prop} {s : Shared} {prog : Program} {w : World} {l : Addr} {y : Value} {ys : List Value} {Q : List Value → Shared → Prop} (hl : s.heap.IsList l (y :: ys).toArray) (hh : A.handled = none) (hz : ys.length ≤ 10000)
    (h : ∀ (h' : Heap) (tk : Nat), (∀ b o, s.heap.get? b = some o → h'.get? b = some o) → Q [y, .ref h'.objs.size] { s with heap := h'.push { cls := .type "list", data := .seq ys.toArray }, toks := tk }) :
    wpAny (model prog w) A (unpackItems (.ref l) 2 (some 1)) Q E s := by
  have lt : l < s.heap.objs.size := let ⟨_, e, _⟩ := hl; Heap.lt_size e
  have ne : l ≠ s.heap.objs.size := Nat.ne_of_lt lt
  have size : (y :: ys).toArray.size = ys.length + 1 := by simp
  unfold unpackItems notIterableAtAll
  refine wpAny_bind (wpAny_bind (wpAny_specialOf hl.typeIs slot_list_iter.lookup ?_))
  refine wpAny_pure ?_
  simp only [Bool.false_eq_true, if_false]
  refine wpAny_bind (wpAny_holding (wpAny_pyIter_list hl ?_))
  apply wpAny_bind
  apply wpAny_holding
  apply PySem.W.kun_draw ne 1 0 _ _ ⟨_, Heap.get?_push_size _ rfl, rfl, rfl⟩ (hl.push _) (by rw [size]; omega)
  intro h1 it1 same1
  have list1 : h1.IsList l (y :: ys).toArray := (hl.push _).extBut same1.extBut ne
  obtain ⟨oi, eoi, _⟩ := id it1
  obtain ⟨ol, eol, _⟩ := id list1
  have one : ((y :: ys).toArray.toList.drop 0).take 1 = [y] := by simp
  rw [one]
  rw [if_neg (by simp)]
  apply wpAny_bind
  apply wpAny_holding
  apply PySem.W.kun_collect (s := { s with heap := h1 }) (T := "list_iterator") (k := 1) (.inr (.inr (.inl rfl))) (Walks.list (A := A.in1) hh s.heap.objs.size l ne (y :: ys).toArray) (fun _ _ st => st.1.typeIs) (by rw [size]; omega) ⟨it1, list1⟩ (Heap.lt_size eoi) (Heap.lt_size eol) ?_ (by rw [size, sizeLine_eq]; omega)
  intro h2 tk keep
  have rest : (y :: ys).toArray.toList.drop 1 = ys := by simp
  rw [rest]
  simp only []
  rw [if_neg (by omega)]
  refine wpAny_bind (wpAny_newList ?_ (by rw [List.length_take, sizeLine_eq]; omega))
  have e1 : ys.length - (2 - 1 - 1) = ys.length := by omega
  rw [e1, List.take_length, List.drop_length]
  refine wpAny_pure ?_
  exact h h2 tk fun b o e => keep b o (Nat.ne_of_lt (Heap.lt_size e)) (same1.extBut b o (Nat.ne_of_lt (Heap.lt_size e)) (Heap.get?_push_of_some _ e))
theorem pg_star1 {es : List Expr} {k : Nat} {t : TGs} (hc : X.calm = true) (each : PGs X es t) (two : (assignEach es X.env).length = 2 := by rfl) (at1 : (assignEach es X.env).findIdx? (·.1) = some 1 := by rfl) : PG X (.Tuple es k pos) (gStar1 X.K t) := by
  constructor
  rintro pins s σ H v u Q I r ⟨a, x, xs, rfl, sq, short, more⟩
  cases r
  obtain ⟨its, rv, pl, hz⟩ := I.list sq
  cases rv with
  | @cons _ y _ ys ry rys =>
    have il : s.heap.IsList a (y :: ys).toArray := let ⟨o, m, e, c, d, q⟩ := pl; ⟨o, e, c, m, q⟩
    rw [PyProof.Rows.assign_Tuple]
    refine wpAny_bind (wpAny_standAt ?_)
    unfold unpack
    rw [two, at1]
    have hys : ys.length ≤ 10000 := by rw [← rys.length]; exact short
    refine wpAny_bind (wpAny_holding (unpack_star1 (M := model X.prog X.w) il (I.ok.hd hc) hys fun h' tk keep => ?_))
    have I1 : Inv X pins σ H { s with heap := h', toks := tk } := I.kept keep
    have free : H h'.objs.size = none := I1.hok.fresh (Nat.le_refl _)
    have I2 : Inv X pins σ (upd H h'.objs.size (.lst xs)) { s with heap := h'.push { cls := .type "list", data := .seq ys.toArray }, toks := tk } :=
      I1.laid (t' := tk) (fun b o e => Heap.get?_push_of_some _ e) (Nat.le_refl _) ⟨by rw [sizeLine_eq]; omega, ys, 0, rys, Heap.get?_push_size _ rfl⟩
    exact each.run pins _ σ _ _ _ Q I2 (.cons ry (.cons (show L2.RelV (V.ref h'.objs.size) (Value.ref h'.objs.size) from rfl) .nil)) (more _ free)
end
end Dl

/-! enumerate(xs, start=k) of a list: my own rule over KE.GoesEnumKw -/
namespace Dl
open PySem PySem.Spec PyProof.Rows L2
/-- a built-in type called with keywords -/
theorem type_kw {M : Model} {A : Around} {E : Value → Shared → Prop} {s : Shared} {env : Env} {pos : Pos} {T : String} {e : Expr} {rest : List Expr} {kws : List Keyword} {Q : Value → Shared → Prop}
    (first : backTo pos (starEach (e :: rest) env) = (false, eval e env) :: backTo pos (starEach rest env)) (plain : (backTo pos (starEach (e :: rest) env)).any (·.1) = false)
    (named : (backToKw pos (keywordEach kws env)).all (·.1.isSome) = true) (nostar : (backToKw pos (keywordEach kws env)).any (·.1.isNone) = false)
    (go : wpAny M A (spliced (backTo pos (starEach (e :: rest) env))) (fun vs s1 => wpAny M A (evalAll ((backToKw pos (keywordEach kws env)).map (·.2))) (fun ks s2 => wpAny M A (call (.type T) vs (((backToKw pos (keywordEach kws env)).filterMap (·.1)).zip ks)) Q E s2) E s1) E s) :
    wpAny M A (callWith pos (.type T) [] (backTo pos (starEach (e :: rest) env)) (backToKw pos (keywordEach kws env))) Q E s := by
  rw [first] at go plain ⊢
  unfold callWith
  apply wpAny_bind
  apply wpAny_holding
  apply wpAny_mono (evalArgs_kwB (f := .type T) (Q := fun a s1 => wpAny M A (call (.type T) ([] ++ a.pos) a.kw) Q E s1) named go) _ (fun _ _ x => x)
  intro a s1 h1
  apply wpAny_bind
  apply wpAny_standAt
  simp only [plain, nostar, Bool.or_false]
  refine wpAny_bind (wpAny_pure ?_)
  exact wpAny_bind (wpAny_mono h1 (fun r s2 hr => wpAny_bind (wpAny_holding (wpAny_point (wpAny_pure hr)))) fun _ _ x => x)
/-- the list at a, each item in a new pair with its number, counted from k -/
def IteK (K : PySem.W.Frag) (a : Addr) (k : Int) : It :=
  ⟨fun i H => ∃ (xs : List V) (x : V), SqL K H a xs ∧ xs[i]? = some x, fun i H v H' => ∃ T x, v = .ref T ∧ H T = none ∧ H' = upd H T (.tup [.int (k + (i : Nat)), x]) ∧ ∀ xs, SqL K H a xs → xs[i]? = some x, fun i H => ∃ xs : List V, SqL K H a xs ∧ xs.length = i⟩
theorem turn_enumK {P : Program} {w : World} {K : PySem.W.Frag} {elts : List Expr} {kk : Nat} {tpos : Pos} (a e it : Addr) (k : Int) :
    Turn P w K (.Tuple elts kk tpos) (IteK K a k) [e, it] e (fun i h => (∃ old, IsEnum h e it (k + (i : Nat)) old) ∧ h.IsListIter it a i ∧ e ≠ it) where
  mem := by simp
  obj := by
    rintro i h ⟨⟨old, he⟩, ⟨o, ho, hc, hd⟩, _⟩ b hb
    simp only [List.mem_cons, List.not_mem_nil, or_false] at hb
    rcases hb with rfl | rfl
    · exact ⟨_, he, fun v q => nomatch q⟩
    · exact ⟨o, ho, fun v q => by rw [hd] at q; cases q⟩
  keep := by
    rintro i h h' ⟨⟨old, he⟩, hi, hne⟩ k
    exact ⟨⟨old, k e (by simp) _ he⟩, hi.at fun o q => k it (by simp) o q, hne⟩
  item := by
    rintro X rfl rfl rfl hc i pins s σ H E I hf ⟨⟨old, he⟩, hit, hne⟩ ⟨xs, x, hq, hx⟩
    obtain ⟨its, rv, p, hz⟩ := I.list hq
    have il : s.heap.IsList a its.toArray := let ⟨o, m, e, c, d, q⟩ := p; ⟨o, e, c, m, q⟩
    obtain ⟨u, hu, ru⟩ := rv.get hx
    have hel : e < s.heap.objs.size := Heap.lt_size he
    have hil : it < s.heap.objs.size := by obtain ⟨_, q, _⟩ := hit; exact Heap.lt_size q
    have nai : a ≠ it := by
      rintro rfl
      obtain ⟨o1, q1, c1, _⟩ := il
      obtain ⟨o2, q2, c2, _⟩ := hit
      obtain rfl := Option.some.inj (q1.symm.trans q2)
      exact absurd (c1.symm.trans c2) (by decide)
    have nea : e ≠ a := by
      rintro rfl
      obtain ⟨o1, q1, c1, _⟩ := il
      have q2 := Option.some.inj (q1.symm.trans he)
      have c2 : Value.type "enumerate" = Value.type "list" := by rw [← c1, q2]
      exact absurd c2 (by decide)
    have hi : i < its.toArray.size := by simpa using (List.getElem?_eq_some_iff.mp hu).1
    refine wpAny_pyNext_enum_itemC (Draws.list (prog := X.prog) (w := X.w) (A := X.A.in1) (show X.A.in1.handled = none from I.ok.hd hc) it a nai its.toArray) he ⟨hit, il⟩ hi hne (by simp [hne, nea]) ?_
    intro y h' tk hy ho st' hT hsz hk
    have ey : y = u := Option.some.inj ((show its.toArray[i]? = some y from hy).symm.trans (by rw [List.getElem?_toArray]; exact hu))
    subst ey
    refine ⟨_, rfl, wpAny_letOwnedTupleGo_enum (s := { s with heap := h', toks := tk + 1 }) ho ?_⟩
    intro h'' he' sb
    have hT2 : h''.get? s.heap.objs.size = some { cls := .type "tuple", data := .seq #[.int (k + (i : Nat)) tk, y] } := (sb.2 _ (Nat.ne_of_gt hel)).trans hT
    have new : ObjOk X.prog X.w (upd H s.heap.objs.size (.tup [.int (k + (i : Nat)), x])) h'' s.heap.objs.size (.tup [.int (k + (i : Nat)), x]) :=
      ⟨by show 2 ≤ sizeLine; decide, [.int (k + (i : Nat)) tk, y], .cons ⟨_, rfl⟩ (.cons ru .nil), ⟨_, hT2, rfl, _, rfl⟩⟩
    have I1 : Inv X pins σ (upd H s.heap.objs.size (.tup [.int (k + (i : Nat)), x])) { s with heap := h'', toks := tk + 1 } := by
      refine I.turnedNew (t' := tk + 1) (ch := [e, it]) (fun b ob hb q => ?_) hf (Nat.le_refl _) new
      have n1 : b ≠ e := fun z => hb (by simp [z])
      exact (sb.2 b n1).trans (hk b ob n1 (fun z => hb (by simp [z])) q)
    refine ⟨.ref s.heap.objs.size, _, I1, rfl, ⟨_, x, rfl, I.hok.fresh (Nat.le_refl _), rfl, fun ys hys => by rw [I.list_inj hys hq]; exact hx⟩, ⟨⟨y, ?_⟩, st'.1.at fun o q => (sb.2 it (Ne.symm hne)).trans q, hne⟩, fun b hb => ?_⟩
    · have e1 : k + ((i + 1 : Nat) : Int) = k + (i : Int) + 1 := by omega
      rw [e1]
      exact he'
    · have lt : b < s.heap.objs.size := by
        simp only [List.mem_cons, List.not_mem_nil, or_false] at hb
        rcases hb with rfl | rfl
        · exact hel
        · exact hil
      rw [upd_ne (Nat.ne_of_lt lt)]
      exact (hf b hb).1
  done := by
    rintro X rfl rfl rfl hc i pins s σ H E I hf ⟨⟨old, he⟩, hit, hne⟩ ⟨xs, hq, hx⟩
    obtain ⟨its, rv, p, hz⟩ := I.list hq
    have il : s.heap.IsList a its.toArray := let ⟨o, m, e, c, d, q⟩ := p; ⟨o, e, c, m, q⟩
    obtain ⟨f0, f1, f2, f3, f4, f5⟩ := hf it (by simp)
    have nai : a ≠ it := by
      rintro rfl
      obtain ⟨o1, q1, c1, _⟩ := il
      obtain ⟨o2, q2, c2, _⟩ := hit
      obtain rfl := Option.some.inj (q1.symm.trans q2)
      exact absurd (c1.symm.trans c2) (by decide)
    have hl : its.toArray.size = i := by
      have := rv.length
      simp
      omega
    exact wpAny_pyNext_enum_endD (Draws.list (prog := X.prog) (w := X.w) (A := X.A.in1) (show X.A.in1.handled = none from I.ok.hd hc) it a nai its.toArray) he ⟨by rw [hl]; exact hit, il⟩ fun h' eb => ⟨rfl, I.turned (t' := s.toks) (fun b o hb q => eb b o hb q) f0 f1 f3 f4 f5⟩
  self := fun A i s Q E st h => let ⟨⟨_, he⟩, _⟩ := st; wpAny_pyIter_enum he h
def iEnumK (K : PySem.W.Frag) (k : Int) (ta : TA) (tk : TA) : TI := fun σ H R => ta σ H fun vs H1 => tk σ H1 fun zs H2 => ∃ a xs, vs = [.ref a] ∧ zs = [.int k] ∧ SqL K H2 a xs ∧ R (IteK K a k) H2
theorem pi_enumK {X : Cx} {e : Expr} {kws : List Keyword} {ta tk : TA} {p pos tpos : Pos} {elts : List Expr} {kk : Nat} (k : Int) (k0 : -(2 ^ 63) ≤ k) (k1 : k < 2 ^ 63) (hg : Gl X "enumerate") (hm : X.mg "enumerate" = none) (ha : PA X [e] ta) (hk : PK X kws tk)
    (first : backTo pos (starEach [e] X.env) = (false, eval e X.env) :: backTo pos (starEach [] X.env) := by rfl) (plain : (backTo pos (starEach [e] X.env)).any (·.1) = false := by rfl)
    (named : (backToKw pos (keywordEach kws X.env)).all (·.1.isSome) = true := by rfl) (nostar : (backToKw pos (keywordEach kws X.env)).any (·.1.isNone) = false := by rfl) (names : (backToKw pos (keywordEach kws X.env)).filterMap (·.1) = [Str.ofString "start"] := by rfl) :
    PI X (.Tuple elts kk tpos) (.Call (.Name "enumerate" p) [e] kws pos) (iEnumK X.K k ta tk) := by
  constructor
  intro pins s σ H R I h
  apply wpAny_Call_Name_kw
  refine ld_blt I hg hm boot_enumerate ?_
  apply type_kw first plain named nostar
  apply thn (ha.run pos pins s σ H _ I h)
  rintro us s1 ⟨vs, H1, I1, r1, h1⟩
  apply thn (hk.run pos pins s1 σ H1 _ I1 h1)
  rintro ws s2 ⟨zs, H2, I2, r2, a, xs, rfl, rfl, hq, q⟩
  rw [names]
  obtain ⟨u, rfl, ru⟩ := vals1 r1
  cases ru
  obtain ⟨z, rfl, rz⟩ := vals1 r2
  obtain ⟨t, rfl⟩ := rz
  obtain ⟨its, rv, p', hz⟩ := I2.list hq
  have il : s2.heap.IsList a its.toArray := let ⟨o, m, e, c, d, q⟩ := p'; ⟨o, e, c, m, q⟩
  refine enum_begins_start (begins_list a its.toArray) il k0 k1 fun h' he hit hsz hk => wpAny_pyIter_enum he ?_
  have I3 : Inv X pins σ H2 { s2 with heap := h' } := I2.kept (t' := s2.toks) hk
  refine ⟨s2.heap.objs.size + 1, [s2.heap.objs.size + 1, s2.heap.objs.size], _, _, H2, rfl, I3, turn_enumK a (s2.heap.objs.size + 1) s2.heap.objs.size k, ⟨⟨.none, by rw [show k + ((0 : Nat) : Int) = k by omega]; exact he⟩, ⟨_, hit, rfl, rfl⟩, Nat.succ_ne_self _⟩, fun b hb => ?_, q⟩
  have hle : s2.heap.objs.size ≤ b := by
    simp only [List.mem_cons, List.not_mem_nil, or_false] at hb
    rcases hb with z | z
    · rw [z]; exact Nat.le_add_right _ _
    · rw [z]; exact Nat.le_refl _
  exact I2.fpOk hle (I2.hok.fresh hle)
theorem walk_enumK {K : PySem.W.Frag} {a : Addr} {k : Int} {xs : List V} : Walk (IteK K a k) xs.length (fun H => SqL K H a xs) (YPair (fun i => some (.int (k + (i : Nat)))) (fun i => xs[i]?)) := by
  constructor
  · intro i H hi q
    exact ⟨xs, xs[i], q, by simp [hi]⟩
  · intro H q
    exact ⟨xs, q, rfl⟩
  · rintro i H v H' _ q ⟨T, x, h1, h2, h3, h4⟩
    exact ⟨T, .int (k + (i : Nat)), x, h1, h2, h3, rfl, h4 xs q⟩
end Dl

/-! C.m(e, ..), m a staticmethod of the own class C: my own rule -/
namespace Dl
open PySem PySem.Spec PyProof.Rows L2
structure SMet (K : PySem.W.Frag) (C : Addr) (m : Str) (p g : Addr) : Prop where
  rd : PySem.W.readsIn K C (.type "type") = true
  ga : PySem.W.specialIn K (.ref C) "__getattribute__" = some (some (.builtin "type.__getattribute__"))
  at_ : PySem.W.findCls K (.ref C) (.type "type") m = some (.get (.builtin "staticmethod.__get__") (.ref p) .none (.ref C))
  rc : ∃ rest, PySem.W.recIn K p "staticmethod" = some (.ref g :: rest)
  kp : PySem.W.keepIn K (.ref g) = true
def tStat (C : Addr) (sp : Sp) (E : XK) (ta : TE) (t : TA) : TE := fun σ H Q => ta σ H fun x H1 => x = .ref C ∧ t σ H1 fun vs H2 => sp vs H2 Q E
theorem pe_static {X : Cx} {CX : CXT} {k : Nat} {C p g : Addr} {fd : FuncData} {ps : List Str} {sp : Sp} {E : XK} {o e : Expr} {es : List Expr} {m : Str} {pos apos : Pos} {ta : TE} {t : TA} {pl : Sem Bool} (he : PE X o ta) (c : SMet X.K C m p g)
    (F : FnOk X.prog X.w X.K X.mg X.base CX k g fd ps sp) (hr : Room k X.A) (hb : Binds X.K fd ps []) (hx : Passes CX X E) (ha : PA X (e :: es) t)
    (hst : starEach (e :: es) X.env = (false, eval e X.env) :: starEach es X.env := by rfl) (hpl : (backTo pos (starEach es X.env)).any (·.1) = false := by rfl)
    (ht : eval (.Call (.Attribute o m apos) (e :: es) [] pos) X.env = (do
      let ov ← eval o X.env
      standAt apos.atName
      let (f, first) ← holding [ov] (getMethod ov m pl)
      callWith pos f first (backTo pos (starEach (e :: es) X.env)) (backToKw pos (keywordEach [] X.env))) := by rfl) :
    PE X (.Call (.Attribute o m apos) (e :: es) [] pos) (tStat C sp E ta t) := by
  constructor
  intro pins s σ H Q I h
  apply PySem.W.methodCall_KW (pl := pl) _ ht
  apply thn (he.run pins s σ H _ I h)
  rintro u s1 ⟨x, H1, I1, rx, rfl, q⟩
  cases rx
  obtain ⟨rest, hp⟩ := c.rc
  refine PySem.W.method_cls I1.kIn c.ga (PySem.W.cls_bind I1.kIn c.rd c.at_ (wpAny_call (PySem.W.sm_get (s := { s1 with toks := s1.toks + 1 }) I1.kIn hp (PySem.W.handed_on rfl ?_))))
  have I2 : Inv X pins σ H1 { s1 with toks := s1.toks + 1 } := I1.tok _
  refine PySem.W.callWith_K (h₀ := X.base) I2.ok.mod.kin c.kp ?_ hst hpl
  apply thn (ha.run pos pins _ σ H1 _ I2 q)
  rintro us s3 ⟨vs, H2, I3, rv, q2⟩
  exact ⟨I3.kIn, run_fn F hr hb .nil hx I3 rv (by rw [List.append_nil]; exact q2)⟩
end Dl

namespace Dl
open PySem PySem.Spec PyProof.Rows L2
/-! ### a table's text, read: any lines -/
theorem names_nd : ∀ {xs acc es : List Str}, chkNames (xs.map V.str) acc = .ok es → acc.Nodup → es.Nodup
  | [], acc, es, h, nd => by cases h; exact nd
  | x :: r, acc, es, h, nd => by
    rw [List.map_cons, chkNames] at h
    cases e : chkNew (.str x) acc with
    | some er => rw [e] at h; cases h
    | none =>
      rw [e] at h
      obtain ⟨z, ez, _, nz⟩ := chkNew_none e
      cases ez
      refine names_nd h ?_
      rw [List.nodup_append]
      refine ⟨nd, by simp, fun a ha b hb q => ?_⟩
      obtain rfl := List.mem_singleton.mp hb
      exact nz (q ▸ ha)
theorem rows_nd {ls : List Str} : ∀ {ts : List (Str × List Str)} {acc rs : List (Str × List Str)}, initRows ls (ts.map rdat) acc = .ok rs → (acc.map (·.1)).Nodup → (∀ x ∈ acc, validN x.1 = true) → (rs.map (·.1)).Nodup ∧ ∀ x ∈ rs, validN x.1 = true
  | [], acc, rs, h, nd, va => by cases h; exact ⟨nd, va⟩
  | x :: r, acc, rs, h, nd, va => by
    rw [List.map_cons] at h
    have h : initRows ls ((V.str x.1, x.2.map V.str) :: r.map rdat) acc = .ok rs := h
    unfold initRows at h
    cases e1 : chkNew (.str x.1) (acc.map (·.1)) with
    | some e => rw [e1] at h; cases h
    | none =>
      rw [e1] at h
      simp only at h
      cases e2 : chkShown (x.2.map V.str) ls [] with
      | some e => rw [e2] at h; cases h
      | none =>
        rw [e2] at h
        obtain ⟨z, ez, vz, nz⟩ := chkNew_none e1
        cases ez
        refine rows_nd h ?_ fun y hy => ?_
        · rw [List.map_append, List.nodup_append]
          refine ⟨nd, by simp, fun a ha b hb q => ?_⟩
          simp only [List.map_cons, List.map_nil, List.mem_singleton] at hb
          have hb : b = x.1 := hb
          exact nz (by rw [← hb, ← q]; exact ha)
        · rcases List.mem_append.mp hy with h | h
          · exact va y h
          · obtain rfl := List.mem_singleton.mp h
            exact vz
theorem init_tab {ls : List Str} {ts : List (Str × List Str)} {r : List Str × List (Str × List Str)} (h : initT (ls.map V.str) (ts.map rdat) = .ok r) : TabOk ls (cutRows ls ts) := by
  obtain ⟨_, h1, h2, l1, l2⟩ := init_cut h
  obtain ⟨k1, k2⟩ := rows_nd h1 (by simp) (fun x hx => absurd hx (by simp))
  refine ⟨names_nd h2 (by simp), (names_back h2).2, l1, k1, k2, by unfold cutRows; rw [List.length_map]; exact l2, fun x hx => ?_⟩
  obtain ⟨y, _, rfl⟩ := List.mem_map.mp hx
  exact chosen_is_sub _ _
theorem cut_same {ls : List Str} {rs : List (Str × List Str)} (ok : TabOk ls rs) : cutRows ls rs = rs := by
  unfold cutRows
  apply List.ext_getElem?
  intro i
  rw [List.getElem?_map]
  cases e : rs[i]? with
  | none => rfl
  | some r =>
    have := chosen_sub (ok.sub r (List.mem_of_getElem? e)) ok.lnd
    rw [Option.map_some, this]
/-- what one more row makes of a table that was made -/
theorem init_more' {ls : List Str} {ts : List (Str × List Str)} {r : List Str × List (Str × List Str)} (h : initT (ls.map V.str) (ts.map rdat) = .ok r) (x : Str × List Str) :
    initT (ls.map V.str) ((ts ++ [x]).map rdat) = initT (ls.map V.str) ((cutRows ls ts).map rdat ++ [(.str x.1, x.2.map V.str)]) := by
  have tab := init_tab h
  have q := (init_cut (init_ok tab)).2.1
  rw [cut_same tab] at q
  exact init_snoc h q x
def lookIf (wd : Str) : List Str → Option (Str × List Str)
  | n :: xs => if wd = "look" then some (n, xs) else none
  | [] => none
structure ExD (K : PySem.W.Frag) (C : Cs) (CD : Addr) : Prop where
  inv : PySem.W.exmOne K (.ref C.inv) (.ref CD) = some true
  dup : PySem.W.exmOne K (.ref C.dup) (.ref CD) = some true
  unk : PySem.W.exmOne K (.ref C.unk) (.ref CD) = some true
  many : PySem.W.exmOne K (.ref C.many) (.ref CD) = some true
theorem out_all {K : PySem.W.Frag} {C : Cs} {CD : Addr} (x : ExD K C CD) {H : Hp} {E : XK} {er : Er} (h : ∀ cl, PySem.W.exmOne K (.ref cl) (.ref CD) = some true → ∀ d H', Same H H' → H d = none → E (.ref cl) (some d) H') : Out C H E er := by
  cases er
  · exact fun d H' s n _ => h _ x.inv d H' s n
  · exact fun d H' s n _ => h _ x.dup d H' s n
  · exact fun d H' s n _ => h _ x.unk d H' s n
  · exact fun d H' s n _ => h _ x.many d H' s n
structure TxtRx (mg : Str → Option Value) (CT CD : Addr) : Prop where
  len : mg "len" = none
  enumerate : mg "enumerate" = none
  gT : mg "Table" = some (.ref CT)
  gD : mg "DimmerError" = some (.ref CD)
/-- an own error with its __init__, also where an exception is handled -/
def ExH (P : Program) (w : World) (K : PySem.W.Frag) (mg : Str → Option Value) (base : Heap) (x f : Str) (C : Addr) : Prop :=
  ∃ fI fd, ErrC K mg x f C fI ∧ Binds K fd ["self", f] [] ∧ FnOk P w K mg base CX0 1 fI fd ["self", f] (spEI K C f) ∧ L2H.FnH P w K mg base CX0 1 fI fd ["self", f] (spEI K C f)
def spReadLampsX (CT CL : Addr) : Sp := fun vs H Q E => ∃ z : Str, vs = [.str z] ∧ LineOk z ∧ (∀ ls, lineLamps z = some ls → ∀ H' p, Same H H' → H p = none → TableAt CT H' p ls [] → Q (.ref p) H') ∧ (lineLamps z = none → Out1 CL "line" (.int 1) H E)
section
variable {P : Program} {w : World} {K : PySem.W.Frag} {mg : Str → Option Value} {base : Heap} {C : Cs} {CT CD CL : Addr}
theorem scReadLamps : FnScope ["row", "word", "lamps"] ["row"] (defScope sReadLamps) := ⟨rfl, rfl, rfl, by decide +kernel, rfl, by decide +kernel, by decide +kernel⟩
theorem ok_readlampsX {f : Addr} {fd : FuncData} (F : Fun K "_read_lamps" "_read_lamps" sReadLamps f fd) (T : TxtRx mg CT CD) (xd : ExD K C CD) (xL : ExH P w K mg base "InvalidLine" "line" CL)
    (init : ∃ fT fdT, Mk K CT fT ∧ Binds K fdT ["self", "lamps", "looks"] [] ∧ FnOk P w K mg base (L2N.CX P w) 8 fT fdT ["self", "lamps", "looks"] (spTabInit2 K CT C)) :
    FnOk P w K mg base (L2.CX P w) 10 f fd ["row"] (spReadLampsX CT CL) := by
  obtain ⟨fM, fdM, M, bM, GM⟩ := init
  obtain ⟨fL, fdL, TL', bL, GL, GLH⟩ := xL
  refine F.okX scReadLamps (fun vs H Q E h => ?_) (fun cdv A outer s H vs Q E hr h => ?_)
  · obtain ⟨z, rfl, _⟩ := h
    rfl
  · obtain ⟨z, rfl, lok, k, kx⟩ := h
    have hr9 : Room 9 _ := hr
    have hr2 : Room 2 _ := hr.mono (by decide)
    refine ⟨_, pss_cons (ps_asg (pe_bm PySem.F.plainAttrs_str PySem.F.slot_str_split PySem.F.type_str_split mt_split (pv 0) (pa_cons pe_str pa_nil)) (pg_star1 rfl (pgs_cons (pg_name (i := 1) scReadLamps.nd rfl (Or.inl rfl)) (pgs_star (pg_name (i := 2) scReadLamps.nd rfl (Or.inl rfl)) pgs_nil))))
      (pss_cons (ps_if (pt_cmpR op_ne (pv 1) pe_str (nomark _)) (pss_one (ps_raise rfl (takes_of rfl rfl rfl rfl) (pmk_oex TL'.oex TL'.iC TL'.tI GL hr2 bL .nil pass0 (by rfl) TL'.gC (pa_cons pe_int pa_nil)))) pss_nil)
      (pss_one (L2H.ps_try_onlyX (tb := fun W => tRet (tMakeS CT (spTabInit2 K CT C) (WE W) (tCons (tVar 2) (tCons (tLst tNil) tNil)))) (ts := fun _ _ _ => fun _ σ H => tMkO CL (spEI K CL "line") [] (tCons (tC (.int 1)) tNil) σ H fun cls d H' => E cls d H') (Wout := fun cls d _ H' => E cls d H') rfl rfl ⟨rfl, by decide, Or.inl T.gD⟩ (fun hd => L2H.passesAt_of rfl hd) (takes_of rfl rfl rfl rfl)
        (fun W pn xe tkN _ _ => pss_one (ps_ret (by exact (pe_makeS M GM hr9 (by rfl) T.gT bM (fun σ => L2N.passAt tkN σ) (pa_cons (pv 2) (pa_cons (pe_lst pa_nil) pa_nil))))))
        (fun a oe cls d pn hz hf tkS hot => pss_one (L2H.ps_raiseHN hot tkS (by exact (L2H.pmk5_oexH TL'.oex TL'.iC TL'.tI GLH (L2H.roomH_mark hr2 _) hot bL pass0 (by rfl) TL'.gC (pa_cons pe_int pa_nil)))))))), ?_⟩
    obtain ⟨ne, _, _⟩ := split_facts z
    have words := lok.words
    have count := lok.len
    obtain ⟨wd, ls, sep⟩ : ∃ wd ls, Txt.split z " " = wd :: ls := by
      cases e : Txt.split z " " with
      | nil => exact absurd e ne
      | cons a r => exact ⟨a, r, rfl⟩
    have lam : lineLamps z = if wd = "lamps" then (if okT ls [] = true then some ls else none) else none := by unfold lineLamps; rw [sep]
    rw [sep] at words count
    have lcount : ls.length ≤ 900 := by simp only [List.length_cons] at count; omega
    refine ⟨_, rfl, rfl, _, _, rfl, rfl, sp_tl.2.2.2.2.1, lok.room, fun p1 hp1 => ?_⟩
    rw [sep] at *
    refine ⟨p1, V.str wd, ls.map V.str, rfl, SqL.of upd_same, by rw [List.length_map]; omega, fun l hl => ?_⟩
    have t1 := Same.upd_new hp1 (o := .lst ((wd :: ls).map V.str))
    have t2 := Same.upd_new hl (o := .lst (ls.map V.str))
    have hl2 := upd_same (H := upd H p1 (.lst ((wd :: ls).map V.str))) (a := l) (o := .lst (ls.map V.str))
    have t12 := t1.trans t2
    generalize upd (upd H p1 (.lst ((wd :: ls).map V.str))) l (.lst (ls.map V.str)) = H2 at *
    refine ⟨_, _, rfl, _, _, rfl, rfl, ?_⟩
    refine ⟨_, rfl, rfl, _, rfl, ?_⟩
    by_cases hw : wd = "lamps"
    · subst hw
      rw [if_pos rfl] at lam
      refine iteZ (by decide +kernel) ?_
      refine ⟨_, rfl, Nat.zero_le _, fun e he => ?_⟩
      have t3 := Same.upd_new he (o := .lst [])
      have he3 := upd_same (H := H2) (a := e) (o := .lst [])
      have hl3 := t3 _ _ hl2
      have t13 := t12.trans t3
      generalize upd H2 e (.lst []) = H3 at *
      intro x dx nx ndx nex
      have sm : Same H3 (upd (upd H3 dx (.own x)) x (.ins CT dx [])) := fun c o q => by rw [upd_ne (ne_of_none q nx), upd_ne (ne_of_none q ndx)]; exact q
      refine ⟨H3, x, dx, l, e, ls.map V.str, [], rfl, sm, nx, upd_same, .inl (SqL.of hl3), fun v hv => ?_, by rw [List.length_map]; omega, .inl (SqL.of he3), fun r hr => absurd hr (by simp), by simp, fun ls' rs' q H4 s4 hT => ⟨rfl, ?_⟩, fun er q => out_all xd fun cl xm d H4 s4 nd => ⟨true, xm, fun _ a0 na => ?_, fun q => Bool.noConfusion q⟩⟩
      · obtain ⟨y, hy, rfl⟩ := List.mem_map.mp hv
        exact (words y (List.mem_cons_of_mem _ hy)).nm
      · have q : initT (ls.map V.str) (([] : List (Str × List Str)).map rdat) = .ok (ls', rs') := q
        have good : okT ls [] = true := okT_iff.mpr ⟨_, q⟩
        have e2 := (init_cut q).1
        cases e2
        rw [if_pos good] at lam
        exact k ls lam H4 x (t13.trans s4) (t13.free nx) hT
      · have bad : ¬ okT ls [] = true := fun h => by
          obtain ⟨r, h⟩ := okT_iff.mp h
          have q : initT (ls.map V.str) (([] : List (Str × List Str)).map rdat) = .error er := q
          rw [h] at q
          cases q
        rw [if_neg bad] at lam
        exact raise_end (Out1.of (t13.trans s4) (kx lam))
    · rw [if_neg hw] at lam
      refine iteY (by simp [hw]) ?_
      exact raise_end (Out1.of t12 (kx lam))
/-- a further line -/
def spReadLookX (CT CL : Addr) : Sp := fun vs H Q E => ∃ (t : Addr) (n : Int) (z : Str) (ls : List Str) (ts : List (Str × List Str)), vs = [.ref t, .int n, .str z] ∧ TableAt CT H t ls (cutRows ls ts) ∧ okT ls ts = true ∧ LineOk z ∧
  (∀ x, lineLook z = some x → okT ls (ts ++ [x]) = true → ∀ H' p, Same H H' → H p = none → TableAt CT H' p ls (cutRows ls (ts ++ [x])) → Q (.ref p) H') ∧
  ((lineLook z = none ∨ ∃ x, lineLook z = some x ∧ okT ls (ts ++ [x]) = false) → Out1 CL "line" (.int n) H E)
theorem scReadLook : FnScope ["table", "line", "row", "words", "name", "lamps"] ["table", "line", "row"] (defScope sReadLook) := ⟨rfl, rfl, rfl, by decide +kernel, rfl, by decide +kernel, by decide +kernel⟩
theorem with_nm : ¬ (("with_look" : Str) = "lamps") ∧ ¬ (("with_look" : Str) = "_shown") ∧ ¬ (("with_look" : Str) = "looks") := by decide +kernel
theorem ok_readlookX {f : Addr} {fd : FuncData} (F : Fun K "_read_look" "_read_look" sReadLook f fd) (T : TxtRx mg CT CD) (xd : ExD K C CD) (xL : ExH P w K mg base "InvalidLine" "line" CL) (cl : Cls K CT)
    (gW : ∃ fW, BMeth K CT "with_look" fW ∧ FnR P w K mg base (L2N.CX P w) 10 fW (starSp 2 (spWithLook K CT C))) :
    FnOk P w K mg base (L2.CX P w) 12 f fd ["table", "line", "row"] (spReadLookX CT CL) := by
  obtain ⟨fW, bW, GW⟩ := gW
  obtain ⟨fL, fdL, TL', bL, GL, GLH⟩ := xL
  refine F.okX scReadLook (fun vs H Q E h => ?_) (fun cdv A outer s H vs Q E hr h => ?_)
  · obtain ⟨t, n, z, ls, ts, rfl, _⟩ := h
    rfl
  · obtain ⟨t, n, z, ls, ts, rfl, hT, good, lok, k, kx⟩ := h
    have hr10 : Room 10 _ := hr.mono (by decide)
    have hr2 : Room 2 _ := hr.mono (by decide)
    refine ⟨_, pss_cons (ps_set (i := 3) scReadLook.nd rfl (Or.inl rfl) (pe_bm PySem.F.plainAttrs_str PySem.F.slot_str_split PySem.F.type_str_split mt_split (pv 2) (pa_cons pe_str pa_nil)))
      (pss_cons (ps_if (PW.pt (pw_or (pt_cmpR op_ne (pe_ix ix_list (pv 3) pe_int (fun _ _ => rfl)) pe_str (nomark _)) (pw_or1 (pt_cmpR op_lt (pe_callB call_len_seq (by rfl) T.len PySem.boot_len (pa_cons (pv 3) pa_nil)) pe_int (nomark _)))))
        (pss_one (ps_raise rfl (takes_of rfl rfl rfl rfl) (pmk_oex TL'.oex TL'.iC TL'.tI GL hr2 bL .nil pass0 (by rfl) TL'.gC (pa_cons (pv 1) pa_nil)))) pss_nil)
      (pss_cons (ps_asg (pe_slice sl_list (pv 3) (po_some pe_int) po_none) (pg_star1 rfl (pgs_cons (pg_name (i := 4) scReadLook.nd rfl (Or.inl rfl)) (pgs_star (pg_name (i := 5) scReadLook.nd rfl (Or.inl rfl)) pgs_nil))))
      (pss_one (L2H.ps_try_onlyX (tb := fun W => tRet (tMethSBS K CT "with_look" fW (starSp 2 (spWithLook K CT C)) (WE W) (tVar 0) (tVar 4) (tVar 5))) (ts := fun _ _ _ => fun _ σ H => tMkO CL (spEI K CL "line") [] (tCons (tVar 1) tNil) σ H fun cls d H' => E cls d H') (Wout := fun cls d _ H' => E cls d H') rfl rfl ⟨rfl, by decide, Or.inl T.gD⟩ (fun hd => L2H.passesAt_of rfl hd) (takes_of rfl rfl rfl rfl)
        (fun W pn xe tkN _ _ => pss_one (ps_ret (by exact (pe_methSBS (pv 0) cl bW GW hr10 (fun σ => L2N.passAt tkN σ) (pv 4) (pv 5)))))
        (fun a oe cls d pn hz hf tkS hot => pss_one (L2H.ps_raiseHN hot tkS (by exact (L2H.pmk5_oexH TL'.oex TL'.iC TL'.tI GLH (L2H.roomH_mark hr2 _) hot bL pass0 (by rfl) TL'.gC (pa_cons (pv 1) pa_nil))))))))), ?_⟩
    obtain ⟨ne, _, _⟩ := split_facts z
    have words := lok.words
    have count := lok.len
    obtain ⟨r0, hr0⟩ := okT_iff.mp good
    have tab := init_tab hr0
    obtain ⟨wd, rest, sep⟩ : ∃ wd rest, Txt.split z " " = wd :: rest := by
      cases e : Txt.split z " " with
      | nil => exact absurd e ne
      | cons a r => exact ⟨a, r, rfl⟩
    have look : lineLook z = lookIf wd rest := by
      unfold lineLook
      rw [sep]
      cases rest <;> rfl
    rw [sep] at words count
    refine ⟨_, rfl, rfl, _, _, rfl, rfl, sp_tl.2.2.2.2.1, lok.room, fun p1 hp1 => ?_⟩
    rw [sep] at *
    have t1 := Same.upd_new hp1 (o := .lst ((wd :: rest).map V.str))
    have h1 := upd_same (H := H) (a := p1) (o := .lst ((wd :: rest).map V.str))
    generalize upd H p1 (.lst ((wd :: rest).map V.str)) = H1 at *
    have at0 : atI ((wd :: rest).map V.str) 0 = some (V.str wd) := atI_nat (xs := (wd :: rest).map V.str) (j := 0) (v := .str wd) rfl
    refine ⟨_, rfl, p1, _, 0, .str wd, rfl, rfl, SqL.of h1, at0, rfl, _, rfl, ?_⟩
    by_cases hw : wd = "look"
    case neg =>
      refine iteY (by simp [hw]) ?_
      refine ⟨_, rfl, raise_end (Out1.of t1 (kx (.inl ?_)))⟩
      rw [look]
      cases rest with
      | nil => rfl
      | cons a r => exact if_neg hw
    subst hw
    refine iteZ (by decide +kernel) ?_
    refine ⟨_, rfl, p1, _, rfl, .inl (SqL.of h1), _, _, rfl, rfl, _, rfl, ?_⟩
    cases rest with
    | nil =>
      refine iteY (decide_eq_true (by simp)) ?_
      exact ⟨_, rfl, raise_end (Out1.of t1 (kx (.inl look)))⟩
    | cons nm xs =>
      have look : lineLook z = some (nm, xs) := look.trans (by unfold lookIf; exact if_pos rfl)
      refine iteZ (decide_eq_false (by simp; omega)) ?_
      have cut : cutV (("look" :: nm :: xs : List Str).map V.str) (some 1) none = .str nm :: xs.map V.str := (cut_drop _ 1).trans rfl
      refine ⟨_, rfl, 1, rfl, p1, _, rfl, SqL.of h1, fun p2 hp2 => ?_⟩
      rw [cut] at *
      have t2 := Same.upd_new hp2 (o := .lst (.str nm :: xs.map V.str))
      have xcount : xs.length ≤ 900 := by simp only [List.length_cons] at count; omega
      refine ⟨p2, V.str nm, xs.map V.str, rfl, SqL.of upd_same, by rw [List.length_map]; omega, fun l hl => ?_⟩
      have t3 := Same.upd_new hl (o := .lst (xs.map V.str))
      have hl3 := upd_same (H := upd H1 p2 (.lst (.str nm :: xs.map V.str))) (a := l) (o := .lst (xs.map V.str))
      have t13 := t1.trans (t2.trans t3)
      generalize upd (upd H1 p2 (.lst (.str nm :: xs.map V.str))) l (.lst (xs.map V.str)) = H3 at *
      refine ⟨_, _, rfl, _, _, rfl, rfl, ?_⟩
      have hT3 := hT.of t13
      obtain ⟨dt, lt, sd, kt, kvs, hp, _⟩ := id hT3
      refine ⟨_, rfl, t, dt, _, rfl, hp, pf3_no _ _ _ with_nm.1 with_nm.2.1 with_nm.2.2, fun q hq => ?_⟩
      have t4 := Same.upd_new hq (o := .met fW t)
      refine ⟨_, rfl, _, rfl, l, xs.map V.str, rfl, .inr (SqL.of (t4 _ _ hl3)), upd_same, ?_⟩
      refine ⟨[.ref t, .str nm], xs.map V.str, rfl, rfl, by rw [List.length_map, sizeLine_eq]; omega, fun s hs => ?_⟩
      have t5 := Same.upd_new hs (o := .tup (xs.map V.str))
      have t45 := t4.trans t5
      have t15 := t13.trans t45
      have one := init_more' hr0 (nm, xs)
      refine ⟨t, s, ls, cutRows ls ts, .str nm, xs.map V.str, rfl, hT3.of t45, tab, (words nm (by simp)).nm, upd_same, fun v hv => ?_, by rw [List.length_map]; omega, fun ls' rs' e H' p s' free tab' => ?_, fun er e => out_all xd fun cl xm d H4 s4 nd => ⟨true, xm, fun _ a0 na => ⟨_, rfl, ?_⟩, fun q => Bool.noConfusion q⟩⟩
      · obtain ⟨y, hy, rfl⟩ := List.mem_map.mp hv
        exact (words y (List.mem_cons_of_mem _ (List.mem_cons_of_mem _ hy))).nm
      · rw [← one] at e
        have g2 : okT ls (ts ++ [(nm, xs)]) = true := okT_iff.mpr ⟨_, e⟩
        have e2 := (init_cut e).1
        cases e2
        exact k (nm, xs) look g2 H' p (t15.trans s') (t15.free free) tab'
      · rw [← one] at e
        have bad : okT ls (ts ++ [(nm, xs)]) = false := by
          cases g : okT ls (ts ++ [(nm, xs)]) with
          | false => rfl
          | true =>
            obtain ⟨r, h⟩ := okT_iff.mp g
            rw [h] at e
            cases e
        exact raise_end (Out1.of (t15.trans s4) (kx (.inr ⟨_, look, bad⟩)))
end
end Dl

namespace Dl
open PySem PySem.Spec PyProof.Rows L2
theorem rowsOf_app (a b : List Str) : rowsOf (a ++ b) = rowsOf a ++ rowsOf b := by
  induction a with
  | nil => rfl
  | cons z r ih =>
    show (match lineLook z with | none => rowsOf (r ++ b) | some x => x :: rowsOf (r ++ b)) = (match lineLook z with | none => rowsOf r | some x => x :: rowsOf r) ++ rowsOf b
    cases lineLook z with
    | none => exact ih
    | some x => rw [ih]; rfl
theorem first_lamps {l : Str} {r : List Str} {ls : List Str} (h : lineLamps l = some ls) : firstWrong (l :: r) = goRest ls [] r 2 := by
  show (match lineLamps l with | none => 1 | some ls => goRest ls [] r 2) = _
  rw [h]
theorem lamps_ok {l : Str} {ls : List Str} (h : lineLamps l = some ls) : okT ls [] = true := by
  unfold lineLamps at h
  cases e : Txt.split l " " with
  | nil => rw [e] at h; cases h
  | cons w r =>
    rw [e] at h
    simp only at h
    by_cases q : w = "lamps"
    · rw [if_pos q] at h
      by_cases g : okT r [] = true
      · rw [if_pos g] at h
        cases h
        exact g
      · rw [if_neg g] at h; cases h
    · rw [if_neg q] at h; cases h
/-- a text of any lines -/
def spReadX (CT CL : Addr) : Sp := fun vs H Q E => ∃ (l : Str) (r : List Str), vs = [.str (Txt.join "\n" (l :: r))] ∧ (∀ z ∈ l :: r, LineOk z ∧ 10 ∉ TL.tl z) ∧ r.length ≤ 60 ∧
  (firstWrong (l :: r) = 0 → ∀ ls, lineLamps l = some ls → ∀ H' p, Same H H' → H p = none → TableAt CT H' p ls (cutRows ls (rowsOf r)) → TabOk ls (cutRows ls (rowsOf r)) → Q (.ref p) H') ∧
  (firstWrong (l :: r) ≠ 0 → Out1 CL "line" (.int (firstWrong (l :: r) : Nat)) H E)
section
variable {P : Program} {w : World} {K : PySem.W.Frag} {mg : Str → Option Value} {base : Heap} {C : Cs} {CT CD CL : Addr}
theorem scRead : FnScope ["text", "first", "others", "table", "line", "row"] ["text"] (defScope sTableRead) := ⟨rfl, rfl, rfl, by decide +kernel, rfl, by decide +kernel, by decide +kernel⟩
theorem ok_readX {f : Addr} {fd : FuncData} (F : Fun K "read" "Table.read" sTableRead f fd) (T : TxtRx mg CT CD) (gL : Dfn P w K mg base (L2.CX P w) 10 "_read_lamps" ["row"] (spReadLampsX CT CL)) (gK : Dfn P w K mg base (L2.CX P w) 12 "_read_look" ["table", "line", "row"] (spReadLookX CT CL)) :
    FnOk P w K mg base (L2.CX P w) 13 f fd ["text"] (spReadX CT CL) := by
  obtain ⟨fL, dL, mL, kL, bL, GL⟩ := gL
  obtain ⟨fK, dK, mK, kK, bK, GK⟩ := gK
  refine F.okX scRead (fun vs H Q E h => ?_) (fun cdv A outer s H vs Q E hr h => ?_)
  · obtain ⟨l, r, rfl, _⟩ := h
    rfl
  · obtain ⟨l, r, rfl, lok, few, k, kx⟩ := h
    have hr12 : Room 12 _ := hr
    have hr10 : Room 10 _ := hr.mono (by decide)
    refine ⟨_, pss_cons (ps_asg (pe_bm PySem.F.plainAttrs_str PySem.F.slot_str_split PySem.F.type_str_split mt_split (pv 0) (pa_cons pe_str pa_nil)) (pg_star1 rfl (pgs_cons (pg_name (i := 1) scRead.nd rfl (Or.inl rfl)) (pgs_star (pg_name (i := 2) scRead.nd rfl (Or.inl rfl)) pgs_nil))))
      (pss_cons (ps_set (i := 3) scRead.nd rfl (Or.inl rfl) (pe_call GL hr10 (by rfl) mL kL bL .nil (passes_call (takes_of rfl rfl rfl rfl) (fun _ _ _ _ h => h)) (pa_cons (pv 1) pa_nil)))
      (pss_cons (ps_for (passes_of rfl) rfl (pi_enumK 2 (by decide) (by decide) (by rfl) T.enumerate (pa_cons (pv 2) pa_nil) (pk_cons pe_int pk_nil)) (pg_tup rfl (pgs_cons (pg_name (i := 4) scRead.nd rfl (Or.inl rfl)) (pgs_cons (pg_name (i := 5) scRead.nd rfl (Or.inl rfl)) pgs_nil)))
        (pss_one (ps_set (i := 3) scRead.nd rfl (Or.inl rfl) (pe_call GK hr12 (by rfl) mK kK bK .nil (passes_call (takes_of rfl rfl rfl rfl) (fun _ _ _ _ h => h)) (pa_cons (pv 3) (pa_cons (pv 4) (pa_cons (pv 5) pa_nil)))))))
      (pss_one (ps_ret (pv 3))))), ?_⟩
    have sep : Txt.split (Txt.join "\n" (l :: r)) "\n" = l :: r := TL.split_join sp_tl.2.1 sp_tl.2.2.2.1 (by simp) fun z hz => (lok z hz).2
    have long : (Txt.join "\n" (l :: r)).length + 2 ≤ sizeLine := by
      have q := join_len "\n" (l :: r)
      have s := sum_le (n := 900) (ws := l :: r) fun z hz => (lok z hz).1.few
      have nl1 : ("\n" : Str).length = 1 := by decide +kernel
      rw [TL.join_eq]
      rw [nl1] at q
      have : (l :: r).length * 900 ≤ 61 * 900 := Nat.mul_le_mul_right _ (by simp only [List.length_cons]; omega)
      have : (l :: r).length ≤ 61 := by simp only [List.length_cons]; omega
      rw [sizeLine_eq]
      omega
    refine ⟨_, rfl, rfl, _, _, rfl, rfl, sp_tl.2.2.2.2.2, long, fun p1 hp1 => ?_⟩
    rw [sep] at *
    have t1 := Same.upd_new hp1 (o := .lst ((l :: r).map V.str))
    refine ⟨p1, V.str l, r.map V.str, rfl, SqL.of upd_same, by rw [List.length_map]; omega, fun o ho => ?_⟩
    have t2 := Same.upd_new ho (o := .lst (r.map V.str))
    have ho2 := upd_same (H := upd H p1 (.lst ((l :: r).map V.str))) (a := o) (o := .lst (r.map V.str))
    have t12 := t1.trans t2
    generalize upd (upd H p1 (.lst ((l :: r).map V.str))) o (.lst (r.map V.str)) = H2 at *
    refine ⟨_, _, rfl, _, _, rfl, rfl, ?_⟩
    refine ⟨_, rfl, l, rfl, (lok l (List.mem_cons_self ..)).1, fun ls lam H3 p s3 np hT3 => ?_, fun lam => ?_⟩
    case refine_2 =>
      have e : firstWrong (l :: r) = 1 := by
        show (match lineLamps l with | none => 1 | some ls => goRest ls [] r 2) = _
        rw [lam]
      rw [e] at kx
      exact Out1.of t12 (kx (by decide))
    have fw := first_lamps (r := r) lam
    refine ⟨_, rfl, o, _, rfl, rfl, SqL.of (s3 _ _ ho2), for_it (walk_enumK (K := K) (a := o) (k := 2) (xs := r.map V.str)) (fun i σ H' => ∃ (q : Addr) (x4 x5 : Option V), σ = [some (.str (Txt.join "\n" (l :: r))), some (.str l), some (.ref o), some (.ref q), x4, x5] ∧ Same H2 H' ∧ H2 q = none ∧ TableAt CT H' q ls (cutRows ls (rowsOf (r.take i))) ∧ okT ls (rowsOf (r.take i)) = true ∧ goRest ls [] r 2 = goRest ls (rowsOf (r.take i)) (r.drop i) (2 + i))
      ⟨p, none, none, rfl, s3, np, hT3, lamps_ok lam, rfl⟩ (fun i σ H' _ ⟨_, _, _, _, s, _⟩ => SqL.of (s _ _ ho2)) ?_ ?_⟩
    · rintro i v σ H4 H5 hi ⟨q, x4, x5, rfl, s4, nq, hT4, good, rest⟩ ⟨Tp, n, row, rfl, hTp, rfl, en, hrow⟩
      cases en
      have hrow : (r.map V.str)[i]? = some row := hrow
      rw [List.getElem?_map] at hrow
      cases hz : r[i]? with
      | none => rw [hz] at hrow; cases hrow
      | some z =>
        rw [hz] at hrow
        cases hrow
        have hir : i < r.length := (List.getElem?_eq_some_iff.mp hz).1
        have hd : r.drop i = z :: r.drop (i + 1) := by
          rw [List.drop_eq_getElem_cons hir]
          have e := (List.getElem?_eq_some_iff.mp hz).2
          rw [e]
        have ht : rowsOf (r.take (i + 1)) = rowsOf (r.take i) ++ rowsOf [z] := by rw [take_at hz, rowsOf_app]
        rw [hd] at rest
        have s5 := Same.upd_new hTp (o := .tup [.int (2 + (i : Nat)), .str z])
        have hT5 := hT4.of s5
        refine ⟨Tp, _, rfl, SqT.of upd_same, rfl, _, _, rfl, _, _, rfl, rfl, ?_⟩
        have s45 := s4.trans s5
        generalize upd H4 Tp (.tup [.int (2 + (i : Nat)), .str z]) = H5 at *
        refine ⟨_, rfl, _, rfl, _, rfl, q, _, z, ls, rowsOf (r.take i), rfl, hT5, good, (lok z (List.mem_cons_of_mem _ (List.mem_of_getElem? hz))).1, fun x lk g2 H6 q2 s6 n6 hT6 => ?_, fun bad => ?_⟩
        · have e1 : rowsOf [z] = [x] := by
            show (match lineLook z with | none => rowsOf [] | some x => x :: rowsOf []) = _
            rw [lk]
            rfl
          rw [e1] at ht
          refine ⟨q2, _, _, rfl, s45.trans s6, s45.free n6, by rw [ht]; exact hT6, by rw [ht]; exact g2, ?_⟩
          rw [rest, ht]
          show (match lineLook z with | none => 2 + i | some x => if okT ls (rowsOf (r.take i) ++ [x]) = true then goRest ls (rowsOf (r.take i) ++ [x]) (r.drop (i + 1)) (2 + i + 1) else 2 + i) = _
          rw [lk]
          simp only []
          rw [if_pos g2]
          rfl
        · have e : firstWrong (l :: r) = 2 + i := by
            rw [fw, rest]
            show (match lineLook z with | none => 2 + i | some x => if okT ls (rowsOf (r.take i) ++ [x]) = true then goRest ls (rowsOf (r.take i) ++ [x]) (r.drop (i + 1)) (2 + i + 1) else 2 + i) = _
            rcases bad with b | ⟨x, b, g⟩
            · rw [b]
            · rw [b]
              simp only []
              rw [if_neg (by rw [g]; decide)]
          have e2 : ((firstWrong (l :: r) : Nat) : Int) = 2 + (i : Nat) := by rw [e]; omega
          rw [← e2]
          exact Out1.of (t12.trans s45) (kx (by rw [e]; omega))
    rintro σ H4 ⟨q, x4, x5, rfl, s4, nq, hT4, good, rest⟩
    rw [List.length_map, List.take_length] at hT4 good
    rw [List.length_map, List.take_length, List.drop_length] at rest
    obtain ⟨r0, h0⟩ := okT_iff.mp good
    exact ⟨_, rfl, k (by rw [fw, rest]; rfl) ls lam H4 q (t12.trans s4) (t12.free nq) hT4 (init_tab h0)⟩
end
end Dl

/-! x.replace(" ", "  ", 1) of written texts: my own rule -/
namespace Dl
open PySem PySem.Spec PyProof.Rows L2 PySem.Builtin.Str
theorem gives_repl1 (x y z : Str) (t u v k : Tok) (h0 : (u == 0 || v == 0) = false) (huv : (u == v) = false) (hyz : (y == z) = false) (hl : tooLong (x.length + (occurrences x y 0 x.length 1).length * z.length) = false) :
    Gives (Builtin.«str.replace» ⟨[.str x t, .str y u, .str z v, .int 1 k], []⟩) (if ((occurrences x y 0 x.length 1).isEmpty || (y.length == 0 && z.length == 0)) = true then .val (.str x t) else .str (glued z (partsBetween x (occurrences x y 0 x.length 1) y.length))) := by
  show Gives (if ((occurrences x y 0 x.length 1).isEmpty || (y.length == 0 && z.length == 0)) = true then (do rule "str.replace.nothing"; ret (.str x t)) else
          (do let same ← isSame (.str y u) (.str z v)
              if same = true then (do rule "str.replace.old-is-new"; ret (.str x t)) else
              if tooLong (x.length + (occurrences x y 0 x.length 1).length * z.length) = true then unsupported "str.replace:memory" else
              retStr (glued z (partsBetween x (occurrences x y 0 x.length 1) y.length)))) _
  cases ((occurrences x y 0 x.length 1).isEmpty || (y.length == 0 && z.length == 0))
  · rw [isSame_str_other y z u v h0 huv hyz, hl]
    exact .of_eq rfl
  · exact .rule (.of_eq rfl)
end Dl

/-! x.replace(y, z, 1) as a term, and a list whose first element is a text plus a written one (my own rules) -/
namespace Dl
open PySem PySem.Spec PyProof.Rows L2 PySem.Builtin.Str
def rep1 (x y z : Str) : Str := if ((occurrences x y 0 x.length 1).isEmpty || (y.length == 0 && z.length == 0)) = true then x else glued z (partsBetween x (occurrences x y 0 x.length 1) y.length)
theorem rep1_len (x y z : Str) : (rep1 x y z).length ≤ x.length + z.length := by
  unfold rep1
  split
  · exact Nat.le_add_right _ _
  · have h1 := StrLaws.occ_length_le x y 0 x.length 1
    have hy : (glued y (partsBetween x (occurrences x y 0 x.length 1) y.length)).length = x.length := by rw [StrLaws.glued_between_self]
    rw [size_glued, length_partsBetween, Nat.add_sub_cancel] at hy
    rw [size_glued, length_partsBetween, Nat.add_sub_cancel]
    have h2 : (occurrences x y 0 x.length 1).length * z.length ≤ 1 * z.length := Nat.mul_le_mul_right _ h1
    omega
theorem joinL_mem {S : List Nat} {c : Nat} : ∀ {ps : List (List Nat)}, c ∈ TL.joinL S ps → c ∈ S ∨ ∃ p ∈ ps, c ∈ p
  | [], h => by simp [TL.joinL] at h
  | [p], h => .inr ⟨p, List.mem_singleton_self _, by simpa [TL.joinL] using h⟩
  | p :: q :: r, h => by
    have h : c ∈ p ++ (S ++ TL.joinL S (q :: r)) := by simpa [TL.joinL] using h
    rcases List.mem_append.mp h with h | h
    · exact .inr ⟨p, List.mem_cons_self .., h⟩
    · rcases List.mem_append.mp h with h | h
      · exact .inl h
      · rcases joinL_mem h with h | ⟨p2, m, h⟩
        · exact .inl h
        · exact .inr ⟨p2, List.mem_cons_of_mem _ m, h⟩
theorem mem_joinL {S : List Nat} {c : Nat} : ∀ {ps : List (List Nat)} {p : List Nat}, p ∈ ps → c ∈ p → c ∈ TL.joinL S ps
  | [], _, m, _ => by simp at m
  | [q], p, m, h => by
    obtain rfl := List.mem_singleton.mp m
    simpa [TL.joinL] using h
  | q :: q2 :: r, p, m, h => by
    have e : TL.joinL S (q :: q2 :: r) = q ++ (S ++ TL.joinL S (q2 :: r)) := by simp [TL.joinL]
    rw [e]
    rcases List.mem_cons.mp m with rfl | m
    · exact List.mem_append_left _ h
    · exact List.mem_append_right _ (List.mem_append_right _ (mem_joinL m h))
theorem rep1_mem {x y z : Str} {c : Nat} (h : c ∈ TL.tl (rep1 x y z)) : c ∈ TL.tl x ∨ c ∈ TL.tl z := by
  unfold rep1 at h
  split at h
  · exact .inl h
  · rw [StrLaws.glued_eq_join, TL.tl_join] at h
    rcases joinL_mem h with h | ⟨p, m, h⟩
    · exact .inr h
    · refine .inl ?_
      have e := StrLaws.glued_between_self x y 1
      rw [StrLaws.glued_eq_join] at e
      rw [← e, TL.tl_join]
      exact mem_joinL m h
def tRepl1 (to : TE) (y z : Str) : TE := fun σ H Q => to σ H fun v H1 => ∃ x, v = .str x ∧ x.length + z.length ≤ 16777216 ∧ Q (.str (rep1 x y z)) H1
theorem Call_method3 {prog : Program} {w : World} {A : Around} {E : Value → Shared → Prop} {s : Shared} {env : Env} {o e₁ e₂ e₃ : Expr} {name : Str} {apos pos : Pos} {Q : Value → Shared → Prop}
    (hbase : attributeBase o name env (eval o env) = eval o env) (hs : starEach [e₁, e₂, e₃] env = [(false, eval e₁ env), (false, eval e₂ env), (false, eval e₃ env)]) (hline : (apos.endLine == pos.line) = true)
    (h : wpAny (model prog w) A (eval o env) (fun ov s₁ => MethodOnS prog w A E name ov pos [(false, eval e₁ env), (false, eval e₂ env), (false, eval e₃ env)] Q s₁) E s) :
    wpAny (model prog w) A (eval (.Call (.Attribute o name apos) [e₁, e₂, e₃] [] pos) env) Q E s := by
  refine wpAny_Call_method_lateS hbase (by rw [hs]; rfl) hline ?_
  rw [hs]; exact h
section
variable {X : Cx} {o e f : Expr} {te tf : TE} {to : TE} {y z : Str} {j k l : Nat} {c0 c1 c2 apos pos p p' : Pos}
theorem pet_repl1 (ho : PE X o to) (hyz : (y == z) = false := by decide)
    (hst : starEach [.Constant (.str y) j c0, .Constant (.str z) k c1, .Constant (.int 1) l c2] X.env = [(false, eval (.Constant (.str y) j c0) X.env), (false, eval (.Constant (.str z) k c1) X.env), (false, eval (.Constant (.int 1) l c2) X.env)] := by rfl)
    (hbase : attributeBase o "replace" X.env (eval o X.env) = eval o X.env := by rfl) (hline : (apos.endLine == pos.line) = true := by rfl) :
    PET X (.Call (.Attribute o "replace" apos) [.Constant (.str y) j c0, .Constant (.str z) k c1, .Constant (.int 1) l c2] [] pos) (tRepl1 to y z) := by
  intro pins s σ H Q h0 I h
  refine Call_method3 hbase hst hline ?_
  refine wpAny_mono (PySem.wpAny_toks (ho.run pins s σ H _ I h)) (fun v s1 q => ?_) fun _ _ z => z.2
  obtain ⟨hk, v', H1, I1, r1, x, e1, hb, q⟩ := q
  subst e1
  obtain ⟨tx, e2⟩ := r1
  subst e2
  refine ⟨"str", _, PySem.F.plainAttrs_str, PySem.F.slot_str_replace, PySem.F.type_str_replace, typeIs_str _ _ _, (fun _ e => nomatch e), Calls.callWith_builtin rfl (Calls.evalArgs_plain (Calls.spliced_cons ?_))⟩
  refine Calls.Constant_str (Calls.spliced_cons (Calls.Constant_str (Calls.spliced_cons (wpAny_Constant_int (Calls.spliced_nil ?_)))))
  have hl : tooLong (x.length + (occurrences x y 0 x.length 1).length * z.length) = false := by
    have h1 := StrLaws.occ_length_le x y 0 x.length 1
    have h2 : (occurrences x y 0 x.length 1).length * z.length ≤ 1 * z.length := Nat.mul_le_mul_right _ h1
    have e : (2 : Nat) ^ 24 = 16777216 := by decide
    unfold tooLong sizeLine
    exact decide_eq_false (by omega)
  have n0 : s1.toks ≠ 0 := by omega
  refine call_gives F.slot_str_replace (typeIs_str _ _ _) F.entry_str_replace (F.args_str_replace_4 _ _ _ _)
    (gives_repl1 x y z tx s1.toks (s1.toks + 1) _ (by simp [n0]) (by simp) hyz hl) ?_
  have q' := q
  have ln := rep1_len x y z
  unfold rep1 at q' ln
  cases hc : ((occurrences x y 0 x.length 1).isEmpty || (y.length == 0 && z.length == 0))
  · rw [hc] at q' ln
    simp only [Bool.false_eq_true, if_false] at q' ln ⊢
    have e : (2 : Nat) ^ 24 = 16777216 := by decide
    exact ⟨by unfold sizeLine; omega, .str (glued z (partsBetween x (occurrences x y 0 x.length 1) y.length)), H1, I1.tok _, ⟨_, rfl⟩, q'⟩
  · rw [hc] at q'
    simp only [if_true] at q' ⊢
    exact ⟨.str x, H1, I1.tok _, ⟨_, rfl⟩, q'⟩
theorem PET.of' (h : PE X e te) : PET X e te := fun pins s σ H Q _ I q => h.run pins s σ H Q I q
/-- a list whose first element writes a text: behind it a token is out -/
theorem pa_consOp {es : List Expr} {ta : TA} {op : Operator} {r : R2} {x : Str} {ix : Nat} {cx bpos : Pos} (ho : OpR X (binaryOp op) r) (ha : PE X e te) (hr : PAT X es ta)
    (hs : starEach (.BinOp e op (.Constant (.str x) ix cx) bpos :: es) X.env = (false, eval (.BinOp e op (.Constant (.str x) ix cx) bpos) X.env) :: starEach es X.env := by rfl) :
    PA X (.BinOp e op (.Constant (.str x) ix cx) bpos :: es) (tCons (tOp r te (tC (.str x))) ta) := by
  refine ⟨fun pos pins s σ H Q I h => ?_⟩
  rw [hs]
  show wpAny _ _ (spliced ((false, eval (.BinOp e op (.Constant (.str x) ix cx) bpos) X.env) :: backTo pos (starEach es X.env))) _ _ s
  refine Calls.spliced_cons (wpAny_BinOp (thn (ha.run pins s σ H _ I h) fun v s1 ⟨x1, H1, I1, r1, q1⟩ => Calls.Constant_str ?_))
  refine wpAny_mono (PySem.wpAny_toks (ho pins { s1 with toks := s1.toks + 1 } σ H1 x1 (.str x) v (.str x s1.toks) _ (I1.tok _) r1 ⟨_, rfl⟩ q1)) (fun u s2 q => ?_) fun _ _ z => z.2
  obtain ⟨hk, y2, H2, I2, r2, q2⟩ := q
  have hk : s1.toks + 1 ≤ s2.toks := hk
  exact thn (hr pos pins s2 σ H2 _ (by omega) I2 q2) fun us s3 ⟨xs, H3, I3, r3, q3⟩ => ⟨y2 :: xs, H3, I3, .cons r2 r3, q3⟩
end
end Dl

namespace Dl
open PySem PySem.Spec PyProof.Rows L2
/-! ### the lines of lamps and rows, as a law writes them -/
def linesOf (ls : List Str) (ts : List (Str × List Str)) : List Str := lineOf (lampLine ls) :: ts.map fun x => lineOf (lookLine x)
/-- words that are short and few -/
structure Short (ls : List Str) (ts : List (Str × List Str)) : Prop where
  lval : ∀ z ∈ ls, z.length ≤ 12
  lfew : ls.length ≤ 24
  kval : ∀ x ∈ ts, x.1.length ≤ 12
  kfew : ts.length ≤ 26
  sub : ∀ x ∈ ts, ∀ z ∈ x.2, z ∈ ls
  few : ∀ x ∈ ts, x.2.length ≤ 24
theorem Short.lampWords {ls : List Str} {ts : List (Str × List Str)} (m : Short ls ts) : (∀ z ∈ lampLine ls, z.length ≤ 12) ∧ (lampLine ls).length ≤ 26 := by
  refine ⟨fun z hz => ?_, by unfold lampLine; have := m.lfew; simp; omega⟩
  rcases List.mem_cons.mp hz with rfl | h
  · exact word_len.1
  · exact m.lval z h
theorem Short.lookWords {ls : List Str} {ts : List (Str × List Str)} (m : Short ls ts) {x : Str × List Str} (hx : x ∈ ts) : (∀ z ∈ lookLine x, z.length ≤ 12) ∧ (lookLine x).length ≤ 26 := by
  refine ⟨fun z hz => ?_, by unfold lookLine; have := m.few x hx; simp; omega⟩
  rcases List.mem_cons.mp hz with rfl | h
  · exact word_len.2
  · rcases List.mem_cons.mp h with rfl | h
    · exact m.kval x hx
    · exact m.lval z (m.sub x hx z h)
def spLines : Sp := fun vs H Q _ => ∃ (a R : Addr) (ls : List Str) (ts : List (Str × List Str)) (rows : List RowIn), vs = [.ref a, .ref R] ∧ H a = some (.lst (ls.map V.str)) ∧ H R = some (.lst (refsOf rows)) ∧ (∀ r ∈ rows, RowG H r) ∧ rows.map RowIn.dat = ts.map rdat ∧ Short ls ts ∧
  ∀ H' D, Same H H' → H D = none → H' D = some (.lst ((linesOf ls ts).map V.str)) → Q (.ref D) H'
section
variable {P : Program} {w : World} {K : PySem.W.Frag} {mg : Str → Option Value} {base : Heap} {C : Cs} {CT : Addr}
theorem scLines : FnScope ["_law_lamps", "_law_rows", "_law_lines_here", "_law_row"] ["_law_lamps", "_law_rows"] (defScope sLawLines) := ⟨rfl, rfl, rfl, by decide +kernel, rfl, by decide +kernel, by decide +kernel⟩
theorem ok_lines {f : Addr} {fd : FuncData} (F : Fun K "_law_lines" "_law_lines" sLawLines f fd) : FnOk P w K mg base CX0 1 f fd ["_law_lamps", "_law_rows"] spLines := by
  refine F.ok scLines (fun vs H Q E h => ?_) (fun cdv A outer s H vs Q E hr h => ?_)
  · obtain ⟨a, R, ls, ts, rows, rfl, _⟩ := h
    rfl
  · obtain ⟨a, R, ls, ts, rows, rfl, ha, hR, hrw, hdat, m, k⟩ := h
    refine ⟨_, (pss_cons (ps_set (i := 2) scLines.nd rfl (Or.inl rfl) (pe_lst (pa_cons (pe_bm PySem.F.plainAttrs_str PySem.F.slot_str_join PySem.F.type_str_join mt_join pe_str (pa_cons (pe_op op_cat (pe_lst (pa_cons pe_str pa_nil)) (pv 0)) pa_nil)) pa_nil)))
        (pss_cons (ps_for PassesOwn.never rfl (pi_list (pv 1)) (pg_name (i := 3) scLines.nd rfl (Or.inl rfl)) (pss_one (ps_expr (pe_bm PySem.F.plainAttrs_list PySem.F.slot_list_append PySem.F.type_list_append mt_append (pv 2) (pa_cons (pe_bm PySem.F.plainAttrs_str PySem.F.slot_str_join PySem.F.type_str_join mt_join pe_str (pa_cons (pe_op op_cat (pe_lst (pa_cons pe_str (pa_cons (pe_ix ix_tup (pv 3) pe_int (fun _ _ => rfl)) pa_nil))) (pe_ix ix_tup (pv 3) pe_int (fun _ _ => rfl))) pa_nil)) pa_nil)))))
        (pss_one (ps_ret (pv 2))))), ?_⟩
    have sp1 : (" " : Str).length = 1 := by decide +kernel
    have nl1 : ("\n" : Str).length = 1 := by decide +kernel
    obtain ⟨lw1, lw2⟩ := m.lampWords
    have lfew := m.lfew
    have kfew := m.kfew
    have hrl : rows.length = ts.length := by
      have e := congrArg List.length hdat
      rw [List.length_map, List.length_map] at e
      exact e
    -- the first line
    refine ⟨rfl, by show 1 ≤ sizeLine; decide, fun e1 he1 => ?_⟩
    have t1 := Same.upd_new he1 (o := .lst [.str "lamps"])
    refine ⟨_, rfl, e1, a, _, _, rfl, rfl, upd_same, t1 _ _ ha, Nat.le_of_lt (small1000 (by rw [List.length_map]; simp; omega)), fun e2 he2 => ?_⟩
    have t2 := Same.upd_new he2 (o := .lst ([.str "lamps"] ++ ls.map V.str))
    have w1 : ([V.str "lamps"] ++ ls.map V.str) = (lampLine ls).map V.str := rfl
    refine ⟨_, e2, lampLine ls, rfl, rfl, .inl (SqL.of (by rw [upd_same, w1])), join_room lw1 (by omega) (by decide) sp1, ?_⟩
    refine ⟨by show 1 ≤ sizeLine; decide, fun D hD => ?_⟩
    have t3 := Same.upd_new hD (o := .lst [.str (lineOf (lampLine ls))])
    have hD3 := upd_same (H := upd (upd H e1 (.lst [.str "lamps"])) e2 (.lst ([.str "lamps"] ++ ls.map V.str))) (a := D) (o := .lst [.str (lineOf (lampLine ls))])
    have t12 := t1.trans t2
    have hD0 := t12.free hD
    have t13 := t12.trans t3
    have hD3 : upd (upd (upd H e1 (.lst [.str "lamps"])) e2 (.lst ([.str "lamps"] ++ ls.map V.str))) D (.lst [.str (Txt.join " " (lampLine ls))]) D = some (.lst ((lineOf (lampLine ls) :: (ts.take 0).map fun x => lineOf (lookLine x)).map V.str)) := upd_same
    have t13 : Same H (upd (upd (upd H e1 (.lst [.str "lamps"])) e2 (.lst ([.str "lamps"] ++ ls.map V.str))) D (.lst [.str (Txt.join " " (lampLine ls))])) := t13
    generalize upd (upd (upd H e1 (.lst [.str "lamps"])) e2 (.lst ([.str "lamps"] ++ ls.map V.str))) D (.lst [.str (Txt.join " " (lampLine ls))]) = H3 at *
    clear t1 t2 t3 t12 hD he1 he2
    refine ⟨_, rfl, R, rfl, ⟨_, SqL.of (t13 _ _ hR)⟩, for_it (walk_list (K := K) (a := R) (xs := refsOf rows)) (fun i σ H' => ∃ x3 : Option V, σ = [some (.ref a), some (.ref R), some (.ref D), x3] ∧ Same H H' ∧ H' D = some (.lst ((lineOf (lampLine ls) :: (ts.take i).map fun x => lineOf (lookLine x)).map V.str)))
      ⟨none, rfl, t13, hD3⟩ (fun i σ H' _ ⟨_, _, s, _⟩ => SqL.of (s _ _ hR)) ?_ ?_⟩
    · rintro i v σ H4 H5 hi ⟨x3, rfl, s4, hD4⟩ ⟨rfl, hv⟩
      obtain ⟨r, hir, hrm, rfl, gl, gx, hri⟩ := row_at hdat (show (rows.map fun r => V.ref r.t)[i]? = some v from hv)
      have G := (hrw r hrm).of s4
      have pg := G.pair
      have qg := G.lst
      rw [gl] at pg
      rw [gx] at qg
      have hx := List.getElem_mem hir
      obtain ⟨w1, w2⟩ := m.lookWords hx
      have xf := m.few _ hx
      generalize ts[i] = x at *
      refine ⟨_, rfl, .inl ⟨rfl, _, SqL.of hD4⟩, rfl, _, rfl, r.t, _, 0, .str x.1, rfl, rfl, SqT.of pg, rfl, by show 2 ≤ sizeLine; decide, fun e1 he1 => ?_⟩
      have t1 := Same.upd_new he1 (o := .lst [.str "look", .str x.1])
      refine ⟨_, rfl, r.t, _, 1, .ref r.s, rfl, rfl, SqT.of (t1 _ _ pg), rfl, e1, r.s, _, _, rfl, rfl, upd_same, t1 _ _ qg, Nat.le_of_lt (small1000 (by rw [List.length_map]; simp; omega)), fun e2 he2 => ?_⟩
      have t2 := Same.upd_new he2 (o := .lst ([V.str "look", .str x.1] ++ x.2.map V.str))
      have w3 : ([V.str "look", .str x.1] ++ x.2.map V.str) = (lookLine x).map V.str := rfl
      refine ⟨_, e2, lookLine x, rfl, rfl, .inl (SqL.of (by rw [upd_same, w3])), join_room w1 (by omega) (by decide) sp1, ?_⟩
      have t12 := t1.trans t2
      generalize upd (upd H5 e1 (.lst [.str "look", .str x.1])) e2 (.lst ([V.str "look", .str x.1] ++ x.2.map V.str)) = H6 at *
      refine ⟨D, _, _, rfl, rfl, t12 _ _ hD4, small1000 (by simp only [List.length_cons, List.length_map, List.length_take]; omega), ?_⟩
      refine ⟨_, rfl, fun c o h => ?_, ?_⟩
      · rw [upd_ne (ne_of_none h hD0)]
        exact t12 _ _ (s4 _ _ h)
      · rw [upd_same, take_at hri]
        simp only [List.map_cons, List.map_append, List.map_nil, List.cons_append]
        rfl
    rintro σ H4 ⟨x3, rfl, s4, hD4⟩
    have full : (refsOf rows).length = ts.length := by unfold refsOf; rw [List.length_map, hrl]
    rw [full, List.take_length] at hD4
    exact ⟨_, rfl, k _ D s4 hD0 hD4⟩
end
end Dl

namespace Dl
open PySem PySem.Spec PyProof.Rows L2
/-! ### the first wrong line, as a law reckons it -/
def spFirst : Sp := fun vs H Q _ => ∃ (a : Addr) (l : Str) (r : List Str), vs = [.ref a] ∧ H a = some (.lst ((l :: r).map V.str)) ∧ (∀ z ∈ l :: r, LineOk z) ∧ r.length ≤ 60 ∧
  ∀ H', Same H H' → Q (.int (firstWrong (l :: r) : Nat)) H'
theorem res_none {H : Hp} {v : V} {o : Option Er} (h : ResAt H v o) : (!decide (v = V.non)) = !o.isNone := by
  cases o with
  | none => obtain rfl : v = .non := h; simp
  | some e => obtain ⟨t, rfl, _⟩ := h; simp
/-- a row of words, as the law keeps it -/
structure RowW (D : Addr) (H : Hp) (q : RowIn) : Prop where
  g : RowG H q
  nt : q.t ≠ D
  ns : q.s ≠ D
  nm : ∃ n, q.look = .str n ∧ WordOk n
  xs : ∃ xs : List Str, q.xs = xs.map V.str ∧ (∀ z ∈ xs, WordOk z) ∧ xs.length ≤ 900
theorem RowW.of {D : Addr} {H H' : Hp} {q : RowIn} (s : Same H H') (h : RowW D H q) : RowW D H' q := ⟨h.g.of s, h.nt, h.ns, h.nm, h.xs⟩
theorem RowW.put {D : Addr} {H : Hp} {o : HO} {q : RowIn} (h : RowW D H q) : RowW D (upd H D o) q := ⟨⟨by rw [upd_ne h.nt]; exact h.g.pair, by rw [upd_ne h.ns]; exact h.g.lst⟩, h.nt, h.ns, h.nm, h.xs⟩
theorem RowW.ok {K : PySem.W.Frag} {D : Addr} {H : Hp} {q : RowIn} (h : RowW D H q) : RowOk K H q ∧ ∀ v ∈ q.xs, NmD H v := by
  obtain ⟨n, en, on⟩ := h.nm
  obtain ⟨xs, ex, ox, lx⟩ := h.xs
  have all : ∀ v ∈ q.xs, NmD H v := fun v hv => by
    rw [ex] at hv
    obtain ⟨z, hz, rfl⟩ := List.mem_map.mp hv
    exact (ox z hz).nmd
  exact ⟨⟨SqT.of h.g.pair, by rw [en]; exact on.nm, SqL.of h.g.lst, fun v hv => (all v hv).ok, by rw [ex, List.length_map]; omega⟩, all⟩
structure TxtF (mg : Str → Option Value) : Prop where
  len : mg "len" = none
  range : mg "range" = none
section
variable {P : Program} {w : World} {K : PySem.W.Frag} {mg : Str → Option Value} {base : Heap}
theorem scFirst : FnScope ["_law_lines_here", "_law_lamps", "_law_rows", "_law_k", "_law_words"] ["_law_lines_here"] (defScope sLawFirstWrong) := ⟨rfl, rfl, rfl, by decide +kernel, rfl, by decide +kernel, by decide +kernel⟩
theorem ok_first {f : Addr} {fd : FuncData} (F : Fun K "_law_first_wrong" "_law_first_wrong" sLawFirstWrong f fd) (T : TxtF mg) (gD : Dfn P w K mg base CX0 3 "_law_due" ["_law_lamps", "_law_rows"] (spDue K)) :
    FnOk P w K mg base CX0 4 f fd ["_law_lines_here"] spFirst := by
  obtain ⟨fDue, dDue, mDue, kDue, bDue, GDue⟩ := gD
  refine F.ok scFirst (fun vs H Q E h => ?_) (fun cdv A outer s H vs Q E hr h => ?_)
  · obtain ⟨a, l, r, rfl, _⟩ := h
    rfl
  · obtain ⟨a, l, r, rfl, ha, lok, few, k⟩ := h
    have hr3 : Room 3 _ := hr
    refine ⟨_, (pss_cons (ps_set (i := 1) scFirst.nd rfl (Or.inl rfl) (pe_slice sl_list (pe_bm PySem.F.plainAttrs_str PySem.F.slot_str_split PySem.F.type_str_split mt_split (pe_ix ix_list (pv 0) pe_int (fun _ _ => rfl)) (pa_cons pe_str pa_nil)) (po_some pe_int) po_none))
        (pss_cons (ps_if (PW.pt (pw_or (pt_cmpR op_ne (pe_ix ix_list (pe_bm PySem.F.plainAttrs_str PySem.F.slot_str_split PySem.F.type_str_split mt_split (pe_ix ix_list (pv 0) pe_int (fun _ _ => rfl)) (pa_cons pe_str pa_nil)) pe_int (fun _ _ => rfl)) pe_str (nomark _)) (pw_or1 (pt_cmpR op_notN (pe_call GDue hr3 (by rfl) mDue kDue bDue .nil pass0 (pa_cons (pv 1) (pa_cons (pe_lst pa_nil) pa_nil))) pe_non (nomark _))))) (pss_one (ps_ret pe_int)) pss_nil)
        (pss_cons (ps_set (i := 2) scFirst.nd rfl (Or.inl rfl) (pe_lst pa_nil))
        (pss_cons (ps_for PassesOwn.never rfl (pi_range2 (by rfl) T.range (pa_cons pe_int (pa_cons (pe_callB call_len_seq (by rfl) T.len PySem.boot_len (pa_cons (pv 0) pa_nil)) pa_nil))) (pg_name (i := 3) scFirst.nd rfl (Or.inl rfl)) (pss_cons (ps_set (i := 4) scFirst.nd rfl (Or.inl rfl) (pe_bm PySem.F.plainAttrs_str PySem.F.slot_str_split PySem.F.type_str_split mt_split (pe_ix ix_list (pv 0) (pv 3) (fun _ _ => rfl)) (pa_cons pe_str pa_nil)))
        (pss_cons (ps_if (PW.pt (pw_or (pt_cmpR op_ne (pe_ix ix_list (pv 4) pe_int (fun _ _ => rfl)) pe_str (nomark _)) (pw_or1 (pt_cmpR op_lt (pe_callB call_len_seq (by rfl) T.len PySem.boot_len (pa_cons (pv 4) pa_nil)) pe_int (nomark _))))) (pss_one (ps_ret (pe_op op_add (pv 3) pe_int))) pss_nil)
        (pss_cons (ps_expr (pe_bm PySem.F.plainAttrs_list PySem.F.slot_list_append PySem.F.type_list_append mt_append (pv 2) (pa_cons (pe_tup (pa_cons (pe_ix ix_list (pv 4) pe_int (fun _ _ => rfl)) (pa_cons (pe_slice sl_list (pv 4) (po_some pe_int) po_none) pa_nil))) pa_nil)))
        (pss_one (ps_if (pt_cmpR op_notN (pe_call GDue hr3 (by rfl) mDue kDue bDue .nil pass0 (pa_cons (pv 1) (pa_cons (pv 2) pa_nil))) pe_non (nomark _)) (pss_one (ps_ret (pe_op op_add (pv 3) pe_int))) pss_nil))))))
        (pss_one (ps_ret pe_int)))))), ?_⟩
    have l0 := lok l (List.mem_cons_self ..)
    obtain ⟨ne, _, _⟩ := split_facts l
    have words := l0.words
    have count := l0.len
    obtain ⟨wd, ls, sep⟩ : ∃ wd ls, Txt.split l " " = wd :: ls := by
      cases e : Txt.split l " " with
      | nil => exact absurd e ne
      | cons a r => exact ⟨a, r, rfl⟩
    have lam : lineLamps l = if wd = "lamps" then (if okT ls [] = true then some ls else none) else none := by unfold lineLamps; rw [sep]
    rw [sep] at words count
    have lcount : ls.length ≤ 900 := by simp only [List.length_cons] at count; omega
    have at0 : atI ((l :: r).map V.str) 0 = some (V.str l) := atI_nat (xs := (l :: r).map V.str) (j := 0) (v := .str l) rfl
    have lwords : ∀ v ∈ ls.map V.str, ∀ {H : Hp}, NmD H v := fun v hv {H} => by
      obtain ⟨z, hz, rfl⟩ := List.mem_map.mp hv
      exact (words z (List.mem_cons_of_mem _ hz)).nmd
    have one : (firstWrong (l :: r) = 1) → ∀ H', Same H H' → Q (.int 1) H' := fun e H' s => by
      have q := k H' s
      rw [e] at q
      exact q
    refine ⟨_, rfl, a, _, 0, .str l, rfl, rfl, SqL.of ha, at0, rfl, _, _, rfl, rfl, sp_tl.2.2.2.2.1, l0.room, fun p1 hp1 => ?_⟩
    rw [sep]
    have t1 := Same.upd_new hp1 (o := .lst ((wd :: ls).map V.str))
    refine ⟨1, rfl, p1, _, rfl, SqL.of upd_same, fun p2 hp2 => ?_⟩
    have cut : cutV ((wd :: ls).map V.str) (some 1) none = ls.map V.str := (cut_drop _ 1).trans rfl
    rw [cut] at *
    have t2 := Same.upd_new hp2 (o := .lst (ls.map V.str))
    have hp22 := upd_same (H := upd H p1 (.lst ((wd :: ls).map V.str))) (a := p2) (o := .lst (ls.map V.str))
    have t12 := t1.trans t2
    generalize upd (upd H p1 (.lst ((wd :: ls).map V.str))) p2 (.lst (ls.map V.str)) = H2 at *
    refine ⟨_, rfl, a, _, 0, .str l, rfl, rfl, SqL.of (t12 _ _ ha), at0, rfl, _, _, rfl, rfl, sp_tl.2.2.2.2.1, l0.room, fun p3 hp3 => ?_⟩
    rw [sep]
    have t3 := Same.upd_new hp3 (o := .lst ((wd :: ls).map V.str))
    have hp33 := upd_same (H := H2) (a := p3) (o := .lst ((wd :: ls).map V.str))
    have t13 := t12.trans t3
    have hp23 := t3 _ _ hp22
    generalize upd H2 p3 (.lst ((wd :: ls).map V.str)) = H3 at *
    have at1 : atI ((wd :: ls).map V.str) 0 = some (V.str wd) := atI_nat (xs := (wd :: ls).map V.str) (j := 0) (v := .str wd) rfl
    refine ⟨p3, _, 0, .str wd, rfl, rfl, SqL.of hp33, at1, rfl, _, rfl, ?_⟩
    by_cases hw : wd = "lamps"
    case neg =>
      rw [if_neg hw] at lam
      have e : firstWrong (l :: r) = 1 := by
        show (match lineLamps l with | none => 1 | some ls => goRest ls [] r 2) = _
        rw [lam]
      refine iteY (by simp [hw]) ?_
      exact one e _ t13
    subst hw
    rw [if_pos rfl] at lam
    refine iteZ (by decide +kernel) ?_
    refine ⟨_, rfl, Nat.zero_le _, fun p4 hp4 => ?_⟩
    have t4 := Same.upd_new hp4 (o := .lst [])
    have hp44 := upd_same (H := H3) (a := p4) (o := .lst [])
    have hp24 := t4 _ _ hp23
    have t14 := t13.trans t4
    generalize upd H3 p4 (.lst []) = H4 at *
    refine ⟨p2, p4, ls.map V.str, [], rfl, SqL.of hp24, fun v hv => lwords v hv, by rw [List.length_map]; omega, SqL.of hp44, fun r hr => absurd hr (by simp), by simp, fun H5 v s5 res => ?_⟩
    have rn := res_none res
    refine ⟨rfl, _, rfl, ?_⟩
    rw [rn]
    by_cases good : okT ls [] = true
    case neg =>
      rw [if_neg good] at lam
      have e : firstWrong (l :: r) = 1 := by
        show (match lineLamps l with | none => 1 | some ls => goRest ls [] r 2) = _
        rw [lam]
      have g : (exErr (initT (ls.map V.str) [])).isNone = false := by
        cases q : (exErr (initT (ls.map V.str) [])).isNone with
        | false => rfl
        | true => exact absurd q good
      refine iteY (by rw [show ([] : List RowIn).map RowIn.dat = [] from rfl, g]; rfl) ?_
      exact one e _ (t14.trans s5)
    rw [if_pos good] at lam
    refine iteZ (by
      have g : (exErr (initT (ls.map V.str) [])).isNone = true := good
      rw [show ([] : List RowIn).map RowIn.dat = [] from rfl, g]
      rfl) ?_
    have fw := first_lamps (r := r) lam
    refine ⟨Nat.zero_le _, fun D hD => ?_⟩
    have t6 := Same.upd_new hD (o := .lst [])
    have s6 := (t14.trans s5).trans t6
    have hD0 := (t14.trans s5).free hD
    have hD6 := upd_same (H := H5) (a := D) (o := .lst [])
    have hp26 := t6 _ _ (s5 _ _ hp24)
    have nD2 : p2 ≠ D := ne_of_none (s5 _ _ hp24) hD
    generalize upd H5 D (.lst []) = H6 at *
    clear t1 t2 t3 t4 t12 t13 t14 hp33 hp44 hp24 hp23 hp22 hp1 hp2 hp3 hp4 hD s5 t6
    have el : (((l :: r).map V.str).length : Int) = (r.length : Int) + 1 := by simp
    refine ⟨_, rfl, a, _, rfl, .inl (SqL.of (s6 _ _ ha)), 1, _, rfl, ⟨by omega, by omega, by omega, by omega⟩, for_it walk_range (fun i σ H' => ∃ (x3 x4 : Option V) (rows : List RowIn) (ts : List (Str × List Str)), σ = [some (.ref a), some (.ref p2), some (.ref D), x3, x4] ∧ Same H H' ∧ H' p2 = some (.lst (ls.map V.str)) ∧ H' D = some (.lst (refsOf rows)) ∧ rows.map RowIn.dat = ts.map rdat ∧
        (∀ q ∈ rows, RowW D H' q) ∧ rows.length = i ∧ goRest ls [] r 2 = goRest ls ts (r.drop i) (2 + i)) ⟨none, none, [], [], rfl, s6, hp26, hD6, rfl, fun q hq => absurd hq (by simp), rfl, rfl⟩ (fun _ _ _ _ _ => trivial) ?_ ?_⟩
    · rintro i v σ H6' H7 hi ⟨x3, x4, rows, ts, rfl, s7, hp7, hD7, dat, rok, rlen, rest⟩ ⟨rfl, rfl⟩
      have hir : i < r.length := by
        have q : i < (((l :: r).map V.str).length - 1 : Int).toNat := hi
        omega
      have hz : r[i]? = some r[i] := List.getElem?_eq_getElem hir
      have hd : r.drop i = r[i] :: r.drop (i + 1) := List.drop_eq_getElem_cons hir
      rw [hd] at rest
      have zok := lok r[i] (List.mem_cons_of_mem _ (List.getElem_mem hir))
      have atz : atI ((l :: r).map V.str) (1 + (i : Nat)) = some (V.str r[i]) := by
        rw [show (1 : Int) + (i : Nat) = ((i + 1 : Nat) : Int) by omega]
        exact atI_nat (by rw [List.getElem?_map, List.getElem?_cons_succ, hz]; rfl)
      generalize r[i] = z at *
      have bad : lineLook z = none ∨ (∃ x, lineLook z = some x ∧ okT ls (ts ++ [x]) = false) → ∀ H', Same H H' → Q (.int (1 + (i : Nat) + 1)) H' := fun b H' s => by
        have e : firstWrong (l :: r) = 2 + i := by
          rw [fw, rest]
          show (match lineLook z with | none => 2 + i | some x => if okT ls (ts ++ [x]) = true then goRest ls (ts ++ [x]) (r.drop (i + 1)) (2 + i + 1) else 2 + i) = _
          rcases b with b | ⟨x, b, g⟩
          · rw [b]
          · rw [b]
            simp only []
            rw [if_neg (by rw [g]; decide)]
        have q := k H' s
        rw [e, show ((2 + i : Nat) : Int) = 1 + (i : Nat) + 1 by omega] at q
        exact q
      obtain ⟨ne2, _, _⟩ := split_facts z
      have words2 := zok.words
      have count2 := zok.len
      obtain ⟨wd2, rest2, sep2⟩ : ∃ wd ls, Txt.split z " " = wd :: ls := by
        cases e : Txt.split z " " with
        | nil => exact absurd e ne2
        | cons a r => exact ⟨a, r, rfl⟩
      have look : lineLook z = lookIf wd2 rest2 := by
        unfold lineLook
        rw [sep2]
        cases rest2 <;> rfl
      rw [sep2] at words2 count2
      refine ⟨_, rfl, _, rfl, a, _, _, .str z, rfl, rfl, SqL.of (s7 _ _ ha), atz, rfl, _, _, rfl, rfl, sp_tl.2.2.2.2.1, zok.room, fun q1 hq1 => ?_⟩
      rw [sep2]
      have u1 := Same.upd_new hq1 (o := .lst ((wd2 :: rest2).map V.str))
      have hq11 := upd_same (H := H7) (a := q1) (o := .lst ((wd2 :: rest2).map V.str))
      have nq1 : q1 ≠ D := fun e => by rw [e, hD7] at hq1; cases hq1
      generalize upd H7 q1 (.lst ((wd2 :: rest2).map V.str)) = H8 at *
      have at2 : atI ((wd2 :: rest2).map V.str) 0 = some (V.str wd2) := atI_nat (xs := (wd2 :: rest2).map V.str) (j := 0) (v := .str wd2) rfl
      refine ⟨_, rfl, q1, _, 0, .str wd2, rfl, rfl, SqL.of hq11, at2, rfl, _, rfl, ?_⟩
      by_cases hw : wd2 = "look"
      case neg =>
        refine iteY (by simp [hw]) ?_
        refine ⟨_, rfl, 1 + (i : Nat), 1, rfl, rfl, bad (.inl ?_) _ (s7.trans u1)⟩
        rw [look]
        cases rest2 with
        | nil => rfl
        | cons a r => exact if_neg hw
      subst hw
      refine iteZ (by decide +kernel) ?_
      refine ⟨_, rfl, q1, _, rfl, .inl (SqL.of hq11), _, _, rfl, rfl, _, rfl, ?_⟩
      cases rest2 with
      | nil =>
        refine iteY (decide_eq_true (by simp)) ?_
        exact ⟨_, rfl, 1 + (i : Nat), 1, rfl, rfl, bad (.inl look) _ (s7.trans u1)⟩
      | cons nm xs =>
        have look : lineLook z = some (nm, xs) := look.trans (by unfold lookIf; exact if_pos rfl)
        refine iteZ (decide_eq_false (by simp; omega)) ?_
        have at3 : atI (("look" :: nm :: xs : List Str).map V.str) 1 = some (V.str nm) := atI_nat (xs := ("look" :: nm :: xs : List Str).map V.str) (j := 1) (v := .str nm) rfl
        have cut : cutV (("look" :: nm :: xs : List Str).map V.str) (some 2) none = xs.map V.str := (cut_drop _ 2).trans rfl
        have xcount : xs.length ≤ 900 := by simp only [List.length_cons] at count2; omega
        refine ⟨_, rfl, .inl ⟨rfl, _, SqL.of (u1 _ _ hD7)⟩, _, rfl, q1, _, 1, .str nm, rfl, rfl, SqL.of hq11, at3, _, rfl, 2, rfl, q1, _, rfl, SqL.of hq11, fun q2 hq2 => ?_⟩
        rw [cut] at *
        have u2 := Same.upd_new hq2 (o := .lst (xs.map V.str))
        have hq22 := upd_same (H := H8) (a := q2) (o := .lst (xs.map V.str))
        have nq2 : q2 ≠ D := fun e => by rw [e, u1 _ _ hD7] at hq2; cases hq2
        have u12 := u1.trans u2
        generalize upd H8 q2 (.lst (xs.map V.str)) = H9 at *
        refine ⟨by show 2 ≤ sizeLine; decide, fun T hT => ?_⟩
        have u3 := Same.upd_new hT (o := .tup [.str nm, .ref q2])
        have hT3 := upd_same (H := H9) (a := T) (o := .tup [.str nm, .ref q2])
        have nT : T ≠ D := fun e => by rw [e, u12 _ _ hD7] at hT; cases hT
        have u13 := u12.trans u3
        have hq23 := u3 _ _ hq22
        generalize upd H9 T (.tup [.str nm, .ref q2]) = H10 at *
        refine ⟨D, _, _, rfl, rfl, u13 _ _ hD7, small1000 (by unfold refsOf; rw [List.length_map, rlen]; omega), ?_⟩
        obtain ⟨rows2, er2⟩ : ∃ r2, r2 = rows ++ [(⟨T, .str nm, q2, xs.map V.str⟩ : RowIn)] := ⟨_, rfl⟩
        have dat2 : rows2.map RowIn.dat = (ts ++ [(nm, xs)]).map rdat := by
          rw [er2, List.map_append, List.map_append, dat]
          rfl
        have refs2 : refsOf rows ++ [.ref T] = refsOf rows2 := by
          rw [er2]
          unfold refsOf
          rw [List.map_append]
          rfl
        have len2 : rows2.length = i + 1 := by rw [er2, List.length_append, rlen]; rfl
        have hrow : ∀ q ∈ rows2, RowW D (upd H10 D (.lst (refsOf rows2))) q := fun q hq => by
          rw [er2] at hq
          rcases List.mem_append.mp hq with h | h
          · exact ((rok q h).of u13).put
          · obtain rfl := List.mem_singleton.mp h
            exact RowW.put ⟨⟨hT3, hq23⟩, nT, nq2, ⟨nm, rfl, words2 nm (by simp)⟩, ⟨xs, rfl, fun z hz => words2 z (List.mem_cons_of_mem _ (List.mem_cons_of_mem _ hz)), xcount⟩⟩
        rw [refs2]
        have s10 : Same H (upd H10 D (.lst (refsOf rows2))) := fun c o h => by
          rw [upd_ne (ne_of_none h hD0)]
          exact u13 _ _ (s7 _ _ h)
        have hp10 : upd H10 D (.lst (refsOf rows2)) p2 = some (.lst (ls.map V.str)) := by
          rw [upd_ne nD2]
          exact u13 _ _ hp7
        have hD10 := upd_same (H := H10) (a := D) (o := .lst (refsOf rows2))
        generalize upd H10 D (.lst (refsOf rows2)) = H11 at *
        refine ⟨_, rfl, _, rfl, p2, D, ls.map V.str, _, rfl, SqL.of hp10, fun v hv => lwords v hv, by rw [List.length_map]; omega, SqL.of hD10, fun q hq => (hrow q hq).ok, by omega, fun H12 v s12 res => ?_⟩
        rw [dat2] at res
        have rn := res_none res
        refine ⟨rfl, _, rfl, ?_⟩
        rw [rn]
        have ed : (exErr (initT (ls.map V.str) ((ts ++ [(nm, xs)]).map rdat))).isNone = okT ls (ts ++ [(nm, xs)]) := rfl
        rw [ed]
        cases g : okT ls (ts ++ [(nm, xs)]) with
        | false =>
          refine iteY rfl ?_
          exact ⟨_, rfl, 1 + (i : Nat), 1, rfl, rfl, bad (.inr ⟨_, look, g⟩) _ (s10.trans s12)⟩
        | true =>
          refine iteZ rfl ?_
          refine ⟨_, _, _, ts ++ [(nm, xs)], rfl, s10.trans s12, s12 _ _ hp10, s12 _ _ hD10, dat2, fun q hq => (hrow q hq).of s12, len2, ?_⟩
          rw [rest]
          show (match lineLook z with | none => 2 + i | some x => if okT ls (ts ++ [x]) = true then goRest ls (ts ++ [x]) (r.drop (i + 1)) (2 + i + 1) else 2 + i) = _
          rw [look]
          simp only []
          rw [if_pos g]
          rfl
    rintro σ H7 ⟨x3, x4, rows, ts, rfl, s7, hp7, hD7, dat, rok, rlen, rest⟩
    have e0 : firstWrong (l :: r) = 0 := by
      rw [fw, rest, List.drop_eq_nil_of_le (by have := rlen; omega)]
      rfl
    have q := k H7 s7
    rw [e0] at q
    exact q
end
end Dl

namespace Dl
open PySem PySem.Spec PyProof.Rows L2
/-! ### a line is spoilt -/
structure LineIn (n m : Nat) (z : Str) : Prop where
  few : z.length ≤ n
  asc : ∀ c ∈ TL.tl z, c < 128 ∧ c ≠ 10
  wd : ∀ w ∈ Txt.split z " ", w.length ≤ m
theorem LineIn.self {n : Nat} {z : Str} (few : z.length ≤ n) (asc : ∀ c ∈ TL.tl z, c < 128 ∧ c ≠ 10) : LineIn n n z := ⟨few, asc, fun w hw => Nat.le_trans ((split_facts z).2.1 w hw).1 few⟩
theorem LineIn.mono {n m k : Nat} {z : Str} (h : LineIn n m z) (q : n ≤ k) : LineIn k k z := .self (Nat.le_trans h.few q) h.asc
def puts5 (z fw lw : Str) : List Str := [z ++ " ", " " ++ z, rep1 z " " "  ", Txt.upper z] ++ [z ++ " absent9999", fw, "", "lamps"] ++ [("look" : Str), "looks " ++ z, z ++ " " ++ lw, z]
theorem tl_app (a b : Str) : TL.tl (a ++ b) = TL.tl a ++ TL.tl b := cat_codes a b
theorem lits5 : (∀ y ∈ ([" ", "  ", " absent9999", "", "lamps", "look", "looks "] : List Str), y.length ≤ 11 ∧ ∀ c ∈ TL.tl y, c < 128 ∧ c ≠ 10) ∧ (" " : Str).length = 1 ∧ ("  " : Str).length = 2 ∧ ("looks " : Str).length = 6 ∧ (" absent9999" : Str).length = 11 := by decide +kernel
theorem app_len (a b : Str) : (a ++ b).length = a.length + b.length := by
  rw [TL.len_tl, TL.len_tl, TL.len_tl, tl_app, List.length_append]
theorem upper_facts {z : Str} (h : ∀ c ∈ TL.tl z, c < 128 ∧ c ≠ 10) : (Txt.upper z).length = z.length ∧ ∀ c ∈ TL.tl (Txt.upper z), c < 128 ∧ c ≠ 10 := by
  have e : Txt.upper z = ⟨z.cps.map up1⟩ := upper_ascii fun c hc => (h c hc).1
  rw [e]
  refine ⟨by show (z.cps.map up1).size = z.cps.size; simp, fun c hc => ?_⟩
  have hc : c ∈ (z.cps.map up1).toList := hc
  rw [Array.toList_map] at hc
  obtain ⟨d, hd, rfl⟩ := List.mem_map.mp hc
  obtain ⟨h1, h2⟩ := h d hd
  unfold up1
  split <;> omega
theorem put_ok {n m : Nat} {z fw lw : Str} (h : LineIn n m z) (hf : fw ∈ Txt.split z " ") (hl : lw ∈ Txt.split z " ") : ∀ y ∈ puts5 z fw lw, y.length ≤ n + m + 11 ∧ ∀ c ∈ TL.tl y, c < 128 ∧ c ≠ 10 := by
  obtain ⟨lit, l1, l2, l3, l4⟩ := lits5
  have zl := h.few
  have za := h.asc
  have wa : ∀ w ∈ Txt.split z " ", ∀ c ∈ TL.tl w, c < 128 ∧ c ≠ 10 := fun w hw c hc => za c (((split_facts z).2.1 w hw).2 c hc)
  have ap : ∀ {a b : Str}, (∀ c ∈ TL.tl a, c < 128 ∧ c ≠ 10) → (∀ c ∈ TL.tl b, c < 128 ∧ c ≠ 10) → ∀ c ∈ TL.tl (a ++ b), c < 128 ∧ c ≠ 10 := fun {a b} ha hb c hc => by
    rw [tl_app] at hc
    rcases List.mem_append.mp hc with h | h
    · exact ha c h
    · exact hb c h
  have one := lit " " (by simp)
  have hf1 := h.wd fw hf
  have hl1 := h.wd lw hl
  intro y hy
  simp only [puts5, List.cons_append, List.nil_append, List.mem_cons, List.not_mem_nil, or_false] at hy
  rcases hy with rfl | rfl | rfl | rfl | rfl | rfl | rfl | rfl | rfl | rfl | rfl | rfl
  · exact ⟨by rw [app_len, l1]; omega, ap za one.2⟩
  · exact ⟨by rw [app_len, l1]; omega, ap one.2 za⟩
  · refine ⟨by have := rep1_len z " " "  "; rw [l2] at this; omega, fun c hc => ?_⟩
    rcases rep1_mem hc with q | q
    · exact za c q
    · exact (lit "  " (by simp)).2 c q
  · obtain ⟨u1, u2⟩ := upper_facts za
    exact ⟨by rw [u1]; omega, u2⟩
  · exact ⟨by rw [app_len, l4]; omega, ap za (lit " absent9999" (by simp)).2⟩
  · exact ⟨by omega, wa _ hf⟩
  · exact ⟨Nat.le_trans (lit "" (by simp)).1 (by omega), (lit "" (by simp)).2⟩
  · exact ⟨Nat.le_trans (lit "lamps" (by simp)).1 (by omega), (lit "lamps" (by simp)).2⟩
  · exact ⟨Nat.le_trans (lit "look" (by simp)).1 (by omega), (lit "look" (by simp)).2⟩
  · exact ⟨by rw [app_len, l3]; omega, ap (lit "looks " (by simp)).2 za⟩
  · exact ⟨by rw [app_len, app_len, l1]; omega, ap (ap za one.2) (wa _ hl)⟩
  · exact ⟨by omega, za⟩
def spSpoilt : Sp := fun vs H Q _ => ∃ (b a : Addr) (xs : List Str) (n m : Nat), vs = [.ref b, .ref a] ∧ BagIn H b ∧ a ≠ b ∧ H a = some (.lst (xs.map V.str)) ∧ 1 ≤ xs.length ∧ xs.length ≤ 50 ∧ (∀ z ∈ xs, LineIn n m z) ∧ n + m ≤ 900 ∧
  ∀ (H' : Hp) (D : Addr) (ys : List Str), SameB b H H' → BagIn H' b → D ≠ b → H' D = some (.lst (ys.map V.str)) → 1 ≤ ys.length → ys.length ≤ xs.length + 1 → (∀ z ∈ ys, LineIn (n + m + 11) (n + m + 11) z) → Q (.ref D) H'
structure TxtSp (mg : Str → Option Value) : Prop where
  len : mg "len" = none
  int : mg "int" = none
section
variable {P : Program} {w : World} {K : PySem.W.Frag} {mg : Str → Option Value} {base : Heap}
theorem scSpoilt : FnScope ["_law_bag_here", "_law_lines_here", "_law_spot", "_law_line", "_law_way", "_law_put"] ["_law_bag_here", "_law_lines_here"] (defScope sLawSpoilt) := ⟨rfl, rfl, rfl, by decide +kernel, rfl, by decide +kernel, by decide +kernel⟩
theorem ok_spoilt {f : Addr} {fd : FuncData} (F : Fun K "_law_spoilt" "_law_spoilt" sLawSpoilt f fd) (T : TxtSp mg) (gT : Dfn P w K mg base CX0 1 "_law_take" ["_law_bag_here", "_law_size"] spTake) :
    FnOk P w K mg base CX0 2 f fd ["_law_bag_here", "_law_lines_here"] spSpoilt := by
  obtain ⟨fT, dT, mTake, kTake, bTake, GTake⟩ := gT
  refine F.ok scSpoilt (fun vs H Q E h => ?_) (fun cdv A outer s H vs Q E hr h => ?_)
  · obtain ⟨b, a, xs, n, m, rfl, _⟩ := h
    rfl
  · obtain ⟨b, a, xs, n, m, rfl, hb, nab, ha, x1, x50, lin, nm, k⟩ := h
    have hr1 : Room 1 _ := hr
    refine ⟨_, (pss_cons (ps_set (i := 2) scSpoilt.nd rfl (Or.inl rfl) (pe_call GTake hr1 (by rfl) mTake kTake bTake .nil pass0 (pa_cons (pv 0) (pa_cons (pe_callB call_len_seq (by rfl) T.len PySem.boot_len (pa_cons (pv 1) pa_nil)) pa_nil))))
        (pss_cons (ps_set (i := 3) scSpoilt.nd rfl (Or.inl rfl) (pe_ix ix_list (pv 1) (pv 2) (fun _ _ => rfl)))
        (pss_cons (ps_set (i := 4) scSpoilt.nd rfl (Or.inl rfl) (pe_call GTake hr1 (by rfl) mTake kTake bTake .nil pass0 (pa_cons (pv 0) (pa_cons pe_int pa_nil))))
        (C8.pss_cut (ps_if (PW.pt (pw_and (pt_cmpR op_eq (pv 4) pe_int (nomark _)) (pw_and1 (pt_cmpR op_gt (pe_callB call_len_seq (by rfl) T.len PySem.boot_len (pa_cons (pv 1) pa_nil)) pe_int (nomark _))))) (pss_one (ps_ret (pe_op op_cat (pe_slice sl_list (pv 1) po_none (po_some (pv 2))) (pe_slice sl_list (pv 1) (po_some (pe_op op_add (pv 2) pe_int)) po_none)))) pss_nil)
        (pss_cons (ps_if (pt_cmpR op_eq (pv 4) pe_int (nomark _)) (pss_one (ps_ret (pe_op op_cat (pe_op op_cat (pe_slice sl_list (pv 1) po_none (po_some (pv 2))) (pe_lst (pa_cons (pv 3) pa_nil))) (pe_slice sl_list (pv 1) (po_some (pv 2)) po_none)))) pss_nil)
        (pss_cons (ps_if (pt_cmpR op_eq (pv 4) pe_int (nomark _)) (pss_one (ps_ret (pe_op op_cat (pe_op op_cat (pe_lst (pa_cons (pv 3) pa_nil)) (pe_slice sl_list (pv 1) po_none (po_some (pv 2)))) (pe_slice sl_list (pv 1) (po_some (pe_op op_add (pv 2) pe_int)) po_none)))) pss_nil)
        (pss_cons (ps_set (i := 5) scSpoilt.nd rfl (Or.inl rfl) (pe_lst (pa_consOp op_add_str (pv 3) (pat_cons (PET.of' (pe_op op_add_str pe_str (pv 3))) (pat_cons (pet_repl1 (pv 3) (by decide +kernel)) (pat_cons (PET.of' (pe_upper (pv 3))) pat_nil))))))
        (pss_cons (ps_set (i := 5) scSpoilt.nd rfl (Or.inl rfl) (pe_op op_cat (pv 5) (pe_lst (pa_cons (pe_op op_add_str (pv 3) pe_str) (pa_cons (pe_ix ix_list (pe_bm PySem.F.plainAttrs_str PySem.F.slot_str_split PySem.F.type_str_split mt_split (pv 3) (pa_cons pe_str pa_nil)) pe_int (fun _ _ => rfl)) (pa_cons pe_str (pa_cons pe_str pa_nil)))))))
        (pss_cons (ps_set (i := 5) scSpoilt.nd rfl (Or.inl rfl) (pe_op op_cat (pv 5) (pe_lst (pa_cons pe_str (pa_cons (pe_op op_add_str pe_str (pv 3)) (pa_cons (pe_op op_add_str (pe_op op_add_str (pv 3) pe_str) (pe_ix ix_list (pe_bm PySem.F.plainAttrs_str PySem.F.slot_str_split PySem.F.type_str_split mt_split (pv 3) (pa_cons pe_str pa_nil)) (pe_un un_neg pe_int) (fun _ _ => rfl))) (pa_cons (pv 3) pa_nil)))))))
        (pss_one (ps_ret (pe_op op_cat (pe_op op_cat (pe_slice sl_list (pv 1) po_none (po_some (pv 2))) (pe_lst (pa_cons (pe_ix ix_list (pv 5) (pe_op op_mod (pe_callTy call_int1 (by rfl) T.int (by decide +kernel) (pa_cons (pv 4) pa_nil)) pe_int) (fun _ _ => rfl)) pa_nil))) (pe_slice sl_list (pv 1) (po_some (pe_op op_add (pv 2) pe_int)) po_none))))))))))))), ?_⟩
    obtain ⟨L, hL, okL⟩ := hb
    refine ⟨_, rfl, _, rfl, a, _, rfl, .inl (SqL.of ha), b, L, _, rfl, hL, okL, by rw [List.length_map]; omega, by rw [List.length_map]; omega, fun L1 q ok1 q0 q1 => ?_⟩
    obtain ⟨q, rfl⟩ := Int.eq_ofNat_of_zero_le q0
    rw [List.length_map] at q1
    have hq : q < xs.length := by omega
    have s1 : SameB b H (upd H b (.lst (L1.map V.int))) := draw_same
    have hb1 := upd_same (H := H) (a := b) (o := .lst (L1.map V.int))
    generalize upd H b (.lst (L1.map V.int)) = H1 at *
    have ha1 := s1 _ _ nab ha
    have atq : atI (xs.map V.str) (q : Int) = some (.str xs[q]) := atI_nat (by rw [List.getElem?_map, List.getElem?_eq_getElem hq]; rfl)
    have zin := lin _ (List.getElem_mem hq)
    generalize xs[q] = z at *
    refine ⟨_, rfl, _, rfl, a, _, (q : Int), .str z, rfl, rfl, SqL.of ha1, atq, ?_⟩
    refine ⟨_, rfl, b, L1, 15, rfl, hb1, ok1, by decide, by decide, fun L2 way ok2 w0 w1 => ?_⟩
    have s2 : SameB b H (upd H1 b (.lst (L2.map V.int))) := s1.trans draw_same
    have hb2 := upd_same (H := H1) (a := b) (o := .lst (L2.map V.int))
    generalize upd H1 b (.lst (L2.map V.int)) = H2 at *
    have ha2 := s2 _ _ nab ha
    have hb2 : BagIn H2 b := ⟨L2, hb2, ok2⟩
    have up : ∀ z ∈ xs, LineIn (n + m + 11) (n + m + 11) z := fun z hz => (lin z hz).mono (by omega)
    have zup : LineIn (n + m + 11) (n + m + 11) z := zin.mono (by omega)
    have c1 : cutV (xs.map V.str) none (some (q : Int)) = (xs.take q).map V.str := by rw [cut_take, List.map_take]
    have c2 : cutV (xs.map V.str) (some (q : Int)) none = (xs.drop q).map V.str := by rw [cut_drop, List.map_drop]
    have c3 : cutV (xs.map V.str) (some ((q : Int) + 1)) none = (xs.drop (q + 1)).map V.str := by
      rw [show (q : Int) + 1 = ((q + 1 : Nat) : Int) from rfl, cut_drop, List.map_drop]
    have lt : (xs.take q).length = q := by rw [List.length_take]; omega
    have ld1 : (xs.drop q).length = xs.length - q := List.length_drop
    have ld2 : (xs.drop (q + 1)).length = xs.length - (q + 1) := List.length_drop
    -- what is returned
    have fin : ∀ (H' : Hp) (D : Addr) (ys : List Str), Same H2 H' → H2 D = none → H' D = some (.lst (ys.map V.str)) → 1 ≤ ys.length → ys.length ≤ xs.length + 1 → (∀ y ∈ ys, y ∈ xs.take q ∨ y ∈ xs.drop q ∨ LineIn (n + m + 11) (n + m + 11) y) → Q (.ref D) H' := fun H' D ys t nD hD l1 l2 all => by
      refine k H' D ys (s2.trans (SameB.of t)) (hb2.of t) (fun e => ?_) hD l1 l2 fun y hy => ?_
      · obtain ⟨x, e2⟩ := hb2.lst
        rw [e, e2] at nD
        cases nD
      · rcases all y hy with h | h | h
        · exact up y (List.mem_of_mem_take h)
        · exact up y (List.mem_of_mem_drop h)
        · exact h
    have drops : ∀ y ∈ xs.drop (q + 1), y ∈ xs.drop q := fun y hy => by
      rw [← List.drop_drop] at hy
      exact List.mem_of_mem_drop hy
    have big : ∀ k : Nat, k ≤ 200 → k ≤ sizeLine := fun k hk => by rw [sizeLine_eq]; omega
    have lm : (xs.map V.str).length = xs.length := List.length_map _
    refine ⟨fun σ' H' => σ' = [some (.ref b), some (.ref a), some (.int (q : Nat)), some (.str z), some (.int way), none] ∧ H' = H2, ?_, ?_⟩
    · refine ⟨_, rfl, rfl, _, rfl, ?_⟩
      refine ite2 (fun _ => ?_) (fun _ => ?_)
      · refine ⟨_, rfl, a, _, rfl, .inl (SqL.of ha2), _, _, rfl, rfl, _, rfl, ?_⟩
        refine ite2 (fun c => ?_) (fun _ => ⟨rfl, rfl⟩)
        have two : 1 < xs.length := by
          have c := of_decide_eq_true c
          rw [lm] at c
          omega
        refine ⟨_, rfl, _, rfl, _, rfl, a, _, rfl, SqL.of ha2, fun p1 hp1 => ?_⟩
        rw [c1]
        have t1 := Same.upd_new hp1 (o := .lst ((xs.take q).map V.str))
        have h1 := upd_same (H := H2) (a := p1) (o := .lst ((xs.take q).map V.str))
        generalize upd H2 p1 (.lst ((xs.take q).map V.str)) = H3 at *
        refine ⟨_, rfl, _, rfl, _, _, rfl, rfl, _, rfl, a, _, rfl, SqL.of (t1 _ _ ha2), fun p2 hp2 => ?_⟩
        rw [c3]
        have t2 := Same.upd_new hp2 (o := .lst ((xs.drop (q + 1)).map V.str))
        have h2 := upd_same (H := H3) (a := p2) (o := .lst ((xs.drop (q + 1)).map V.str))
        have h12 := t2 _ _ h1
        have t12 := t1.trans t2
        generalize upd H3 p2 (.lst ((xs.drop (q + 1)).map V.str)) = H4 at *
        refine ⟨p1, p2, _, _, rfl, rfl, h12, h2, big _ (by rw [List.length_map, List.length_map]; omega), fun D hD => ?_⟩
        rw [← List.map_append]
        refine fin _ D _ (t12.trans (Same.upd_new hD)) (t12.free hD) upd_same (by rw [List.length_append]; omega) (by rw [List.length_append]; omega) fun y hy => ?_
        rcases List.mem_append.mp hy with h | h
        · exact .inl h
        · exact .inr (.inl (drops y h))
      · exact iteF ⟨rfl, rfl⟩
    rintro σ' H' ⟨rfl, rfl⟩
    refine ⟨_, rfl, rfl, _, rfl, ?_⟩
    refine ite2 (fun _ => ?_) (fun _ => ?_)
    · refine ⟨_, rfl, _, rfl, _, rfl, a, _, rfl, SqL.of ha2, fun p1 hp1 => ?_⟩
      rw [c1]
      have t1 := Same.upd_new hp1 (o := .lst ((xs.take q).map V.str))
      have h1 := upd_same (H := H') (a := p1) (o := .lst ((xs.take q).map V.str))
      generalize upd H' p1 (.lst ((xs.take q).map V.str)) = H3 at *
      refine ⟨_, rfl, by show 1 ≤ sizeLine; decide, fun p2 hp2 => ?_⟩
      have t2 := Same.upd_new hp2 (o := .lst [.str z])
      have h2 := upd_same (H := H3) (a := p2) (o := .lst [.str z])
      have h12 := t2 _ _ h1
      have t12 := t1.trans t2
      generalize upd H3 p2 (.lst [.str z]) = H4 at *
      refine ⟨p1, p2, _, _, rfl, rfl, h12, h2, big _ (by rw [List.length_map]; simp only [List.length_cons, List.length_nil]; omega), fun p3 hp3 => ?_⟩
      have t3 := Same.upd_new hp3 (o := .lst ((xs.take q).map V.str ++ [.str z]))
      have h3 := upd_same (H := H4) (a := p3) (o := .lst ((xs.take q).map V.str ++ [.str z]))
      have t13 := t12.trans t3
      generalize upd H4 p3 (.lst ((xs.take q).map V.str ++ [.str z])) = H5 at *
      refine ⟨_, rfl, _, rfl, _, rfl, a, _, rfl, SqL.of (t13 _ _ ha2), fun p4 hp4 => ?_⟩
      rw [c2]
      have t4 := Same.upd_new hp4 (o := .lst ((xs.drop q).map V.str))
      have h4 := upd_same (H := H5) (a := p4) (o := .lst ((xs.drop q).map V.str))
      have h34 := t4 _ _ h3
      have t14 := t13.trans t4
      generalize upd H5 p4 (.lst ((xs.drop q).map V.str)) = H6 at *
      refine ⟨p3, p4, _, _, rfl, rfl, h34, h4, big _ (by simp only [List.length_append, List.length_map, List.length_cons, List.length_nil]; omega), fun D hD => ?_⟩
      refine fin _ D (xs.take q ++ [z] ++ xs.drop q) (t14.trans (Same.upd_new hD)) (t14.free hD) (by rw [upd_same]; simp only [List.map_append, List.map_cons, List.map_nil]) (by simp only [List.length_append, List.length_cons, List.length_nil]; omega) (by simp only [List.length_append, List.length_cons, List.length_nil]; omega) fun y hy => ?_
      rcases List.mem_append.mp hy with h | h
      · rcases List.mem_append.mp h with h | h
        · exact .inl h
        · obtain rfl := List.mem_singleton.mp h
          exact .inr (.inr zup)
      · exact .inr (.inl h)
    refine ⟨_, rfl, rfl, _, rfl, ?_⟩
    refine ite2 (fun _ => ?_) (fun _ => ?_)
    · refine ⟨_, rfl, by show 1 ≤ sizeLine; decide, fun p1 hp1 => ?_⟩
      have t1 := Same.upd_new hp1 (o := .lst [.str z])
      have h1 := upd_same (H := H') (a := p1) (o := .lst [.str z])
      generalize upd H' p1 (.lst [.str z]) = H3 at *
      refine ⟨_, rfl, _, rfl, _, rfl, a, _, rfl, SqL.of (t1 _ _ ha2), fun p2 hp2 => ?_⟩
      rw [c1]
      have t2 := Same.upd_new hp2 (o := .lst ((xs.take q).map V.str))
      have h2 := upd_same (H := H3) (a := p2) (o := .lst ((xs.take q).map V.str))
      have h12 := t2 _ _ h1
      have t12 := t1.trans t2
      generalize upd H3 p2 (.lst ((xs.take q).map V.str)) = H4 at *
      refine ⟨p1, p2, _, _, rfl, rfl, h12, h2, big _ (by rw [List.length_map]; simp only [List.length_cons, List.length_nil]; omega), fun p3 hp3 => ?_⟩
      have t3 := Same.upd_new hp3 (o := .lst ([.str z] ++ (xs.take q).map V.str))
      have h3 := upd_same (H := H4) (a := p3) (o := .lst ([.str z] ++ (xs.take q).map V.str))
      have t13 := t12.trans t3
      generalize upd H4 p3 (.lst ([.str z] ++ (xs.take q).map V.str)) = H5 at *
      refine ⟨_, rfl, _, rfl, _, _, rfl, rfl, _, rfl, a, _, rfl, SqL.of (t13 _ _ ha2), fun p4 hp4 => ?_⟩
      rw [c3]
      have t4 := Same.upd_new hp4 (o := .lst ((xs.drop (q + 1)).map V.str))
      have h4 := upd_same (H := H5) (a := p4) (o := .lst ((xs.drop (q + 1)).map V.str))
      have h34 := t4 _ _ h3
      have t14 := t13.trans t4
      generalize upd H5 p4 (.lst ((xs.drop (q + 1)).map V.str)) = H6 at *
      refine ⟨p3, p4, _, _, rfl, rfl, h34, h4, big _ (by simp only [List.length_append, List.length_map, List.length_cons, List.length_nil]; omega), fun D hD => ?_⟩
      refine fin _ D ([z] ++ xs.take q ++ xs.drop (q + 1)) (t14.trans (Same.upd_new hD)) (t14.free hD) (by rw [upd_same]; simp only [List.map_append, List.map_cons, List.map_nil]) (by simp only [List.length_append, List.length_cons, List.length_nil]; omega) (by simp only [List.length_append, List.length_cons, List.length_nil]; omega) fun y hy => ?_
      rcases List.mem_append.mp hy with h | h
      · rcases List.mem_append.mp h with h | h
        · obtain rfl := List.mem_singleton.mp h
          exact .inr (.inr zup)
        · exact .inl h
      · exact .inr (.inl (drops y h))
    -- one of twelve
    obtain ⟨ne, spf, spl⟩ := split_facts z
    obtain ⟨fw, rest, sep⟩ : ∃ fw rest, Txt.split z " " = fw :: rest := by
      cases e : Txt.split z " " with
      | nil => exact absurd e ne
      | cons a r => exact ⟨a, r, rfl⟩
    obtain ⟨ini, lw, sep2⟩ : ∃ ini lw, Txt.split z " " = ini ++ [lw] := ⟨_, _, (List.dropLast_concat_getLast ne).symm⟩
    have fwm : fw ∈ Txt.split z " " := by rw [sep]; exact List.mem_cons_self ..
    have lwm : lw ∈ Txt.split z " " := by rw [sep2]; exact List.mem_append_right _ (List.mem_singleton_self _)
    have all := put_ok zin fwm lwm
    obtain ⟨_, l1, l2, l3, l4⟩ := lits5
    have zl := zin.few
    have fwl := zin.wd fw fwm
    have lwl := zin.wd lw lwm
    have sz : ∀ k : Nat, k ≤ 5000 → k ≤ sizeLine := fun k hk => by rw [sizeLine_eq]; omega
    have room : z.length + 2 ≤ sizeLine := sz _ (by omega)
    refine ⟨_, rfl, _, _, rfl, rfl, sz _ (by omega), _, rfl, _, _, rfl, rfl, sz _ (by omega), _, rfl, _, rfl, by rw [l2]; omega, _, rfl, ⟨_, rfl⟩, _, rfl, rfl, by omega, by show 4 ≤ sizeLine; decide, fun p1 hp1 => ?_⟩
    have t1 := Same.upd_new hp1 (o := .lst [.str (z ++ " "), .str (" " ++ z), .str (rep1 z " " "  "), .str (Txt.upper z)])
    have h1 := upd_same (H := H') (a := p1) (o := .lst [.str (z ++ " "), .str (" " ++ z), .str (rep1 z " " "  "), .str (Txt.upper z)])
    generalize upd H' p1 (.lst [.str (z ++ " "), .str (" " ++ z), .str (rep1 z " " "  "), .str (Txt.upper z)]) = H3 at *
    refine ⟨_, rfl, _, rfl, _, _, rfl, rfl, sz _ (by omega), _, rfl, rfl, _, _, rfl, rfl, sp_tl.2.2.2.2.1, room, fun s1 hs1 => ?_⟩
    rw [sep]
    have t2 := Same.upd_new hs1 (o := .lst ((fw :: rest).map V.str))
    have h2 := upd_same (H := H3) (a := s1) (o := .lst ((fw :: rest).map V.str))
    have h12 := t2 _ _ h1
    have t12 := t1.trans t2
    generalize upd H3 s1 (.lst ((fw :: rest).map V.str)) = H4 at *
    refine ⟨s1, _, 0, .str fw, rfl, rfl, SqL.of h2, atI_nat (j := 0) rfl, by show 4 ≤ sizeLine; decide, fun p2 hp2 => ?_⟩
    have t3 := Same.upd_new hp2 (o := .lst [.str (z ++ " absent9999"), .str fw, .str "", .str "lamps"])
    have h3 := upd_same (H := H4) (a := p2) (o := .lst [.str (z ++ " absent9999"), .str fw, .str "", .str "lamps"])
    have h13 := t3 _ _ h12
    have t13 := t12.trans t3
    generalize upd H4 p2 (.lst [.str (z ++ " absent9999"), .str fw, .str "", .str "lamps"]) = H5 at *
    refine ⟨p1, p2, _, _, rfl, rfl, h13, h3, by show 8 ≤ sizeLine; decide, fun p3 hp3 => ?_⟩
    have t4 := Same.upd_new hp3 (o := .lst ([.str (z ++ " "), .str (" " ++ z), .str (rep1 z " " "  "), .str (Txt.upper z)] ++ [.str (z ++ " absent9999"), .str fw, .str "", .str "lamps"]))
    have h4 := upd_same (H := H5) (a := p3) (o := .lst ([.str (z ++ " "), .str (" " ++ z), .str (rep1 z " " "  "), .str (Txt.upper z)] ++ [.str (z ++ " absent9999"), .str fw, .str "", .str "lamps"]))
    have t14 := t13.trans t4
    generalize upd H5 p3 (.lst ([.str (z ++ " "), .str (" " ++ z), .str (rep1 z " " "  "), .str (Txt.upper z)] ++ [.str (z ++ " absent9999"), .str fw, .str "", .str "lamps"])) = H6 at *
    refine ⟨_, rfl, _, rfl, _, _, rfl, rfl, sz _ (by omega), _, rfl, _, _, rfl, rfl, sz _ (by omega), _, rfl, rfl, _, _, rfl, rfl, sp_tl.2.2.2.2.1, room, fun s2 hs2 => ?_⟩
    rw [sep2]
    have t5 := Same.upd_new hs2 (o := .lst ((ini ++ [lw]).map V.str))
    have h5 := upd_same (H := H6) (a := s2) (o := .lst ((ini ++ [lw]).map V.str))
    have h45 := t5 _ _ h4
    have t15 := t14.trans t5
    generalize upd H6 s2 (.lst ((ini ++ [lw]).map V.str)) = H7 at *
    have atl : atI ((ini ++ [lw]).map V.str) (-1) = some (.str lw) := by rw [List.map_append]; exact atI_last _ _
    refine ⟨_, rfl, s2, _, -1, .str lw, rfl, rfl, SqL.of h5, atl, _, _, rfl, rfl, sz _ (by rw [app_len]; omega), _, rfl, by show 4 ≤ sizeLine; decide, fun p4 hp4 => ?_⟩
    have t6 := Same.upd_new hp4 (o := .lst [.str "look", .str ("looks " ++ z), .str (z ++ " " ++ lw), .str z])
    have h6 := upd_same (H := H7) (a := p4) (o := .lst [.str "look", .str ("looks " ++ z), .str (z ++ " " ++ lw), .str z])
    have h46 := t6 _ _ h45
    have t16 := t15.trans t6
    generalize upd H7 p4 (.lst [.str "look", .str ("looks " ++ z), .str (z ++ " " ++ lw), .str z]) = H8 at *
    refine ⟨p3, p4, _, _, rfl, rfl, h46, h6, by show 12 ≤ sizeLine; decide, fun p5 hp5 => ?_⟩
    have ep : (([V.str (z ++ " "), .str (" " ++ z), .str (rep1 z " " "  "), .str (Txt.upper z)] ++ [.str (z ++ " absent9999"), .str fw, .str "", .str "lamps"]) ++ [.str "look", .str ("looks " ++ z), .str (z ++ " " ++ lw), .str z]) = (puts5 z fw lw).map V.str := rfl
    rw [ep]
    have t7 := Same.upd_new hp5 (o := .lst ((puts5 z fw lw).map V.str))
    have h7 := upd_same (H := H8) (a := p5) (o := .lst ((puts5 z fw lw).map V.str))
    have t17 := t16.trans t7
    generalize upd H8 p5 (.lst ((puts5 z fw lw).map V.str)) = H9 at *
    refine ⟨_, rfl, _, rfl, _, rfl, a, _, rfl, SqL.of (t17 _ _ ha2), fun p6 hp6 => ?_⟩
    rw [c1]
    have t8 := Same.upd_new hp6 (o := .lst ((xs.take q).map V.str))
    have h8 := upd_same (H := H9) (a := p6) (o := .lst ((xs.take q).map V.str))
    have h78 := t8 _ _ h7
    have t18 := t17.trans t8
    generalize upd H9 p6 (.lst ((xs.take q).map V.str)) = H10 at *
    obtain ⟨mm, hmm⟩ : ∃ k : Nat, way % 12 = (k : Int) := ⟨(way % 12).toNat, by omega⟩
    have l12 : (puts5 z fw lw).length = 12 := rfl
    have hk : mm < (puts5 z fw lw).length := by omega
    have atm : atI ((puts5 z fw lw).map V.str) (way % 12) = some (.str (puts5 z fw lw)[mm]) := by
      rw [hmm]
      exact atI_nat (by rw [List.getElem?_map, List.getElem?_eq_getElem hk]; rfl)
    have ymem := List.getElem_mem hk
    generalize (puts5 z fw lw)[mm] = y0 at *
    obtain ⟨y1, y2⟩ := all y0 ymem
    refine ⟨_, rfl, _, rfl, .inl ⟨way, rfl, way, 12, rfl, rfl, (by decide : (0 : Int) < 12), p5, _, _, .str y0, rfl, rfl, SqL.of h78, atm, by show 1 ≤ sizeLine; decide, fun p7 hp7 => ?_⟩⟩
    have t9 := Same.upd_new hp7 (o := .lst [.str y0])
    have h9 := upd_same (H := H10) (a := p7) (o := .lst [.str y0])
    have h89 := t9 _ _ h8
    have t19 := t18.trans t9
    generalize upd H10 p7 (.lst [.str y0]) = H11 at *
    refine ⟨p6, p7, _, _, rfl, rfl, h89, h9, big _ (by rw [List.length_map]; simp only [List.length_cons, List.length_nil]; omega), fun p8 hp8 => ?_⟩
    have v1 := Same.upd_new hp8 (o := .lst ((xs.take q).map V.str ++ [.str y0]))
    have g1 := upd_same (H := H11) (a := p8) (o := .lst ((xs.take q).map V.str ++ [.str y0]))
    have v11 := t19.trans v1
    generalize upd H11 p8 (.lst ((xs.take q).map V.str ++ [.str y0])) = H12 at *
    refine ⟨_, rfl, _, rfl, _, _, rfl, rfl, _, rfl, a, _, rfl, SqL.of (v11 _ _ ha2), fun p9 hp9 => ?_⟩
    rw [c3]
    have v2 := Same.upd_new hp9 (o := .lst ((xs.drop (q + 1)).map V.str))
    have g2 := upd_same (H := H12) (a := p9) (o := .lst ((xs.drop (q + 1)).map V.str))
    have g12 := v2 _ _ g1
    have v12 := v11.trans v2
    generalize upd H12 p9 (.lst ((xs.drop (q + 1)).map V.str)) = H13 at *
    refine ⟨p8, p9, _, _, rfl, rfl, g12, g2, big _ (by simp only [List.length_append, List.length_map, List.length_cons, List.length_nil]; omega), fun D hD => ?_⟩
    refine fin _ D (xs.take q ++ [y0] ++ xs.drop (q + 1)) (v12.trans (Same.upd_new hD)) (v12.free hD) (by rw [upd_same]; simp only [List.map_append, List.map_cons, List.map_nil]) (by simp only [List.length_append, List.length_cons, List.length_nil]; omega) (by simp only [List.length_append, List.length_cons, List.length_nil]; omega) fun y hy => ?_
    rcases List.mem_append.mp hy with h | h
    · rcases List.mem_append.mp h with h | h
      · exact .inl h
      · obtain rfl := List.mem_singleton.mp h
        exact .inr (.inr (LineIn.self y1 y2))
    · exact .inr (.inl (drops y h))
end
end Dl

namespace Dl
open PySem PySem.Spec PyProof.Rows L2
/-! ### the rows of right lines, as a law reckons them -/
theorem rest_zero {ls : List Str} : ∀ {r : List Str} {ts : List (Str × List Str)} {n : Nat}, goRest ls ts r n = 0 → 1 ≤ n → ∀ z ∈ r, ∃ x, lineLook z = some x
  | [], _, _, _, _, z, hz => absurd hz (by simp)
  | y :: r, ts, n, h, h1, z, hz => by
    have h : (match lineLook y with | none => n | some x => if okT ls (ts ++ [x]) = true then goRest ls (ts ++ [x]) r (n + 1) else n) = 0 := h
    cases e : lineLook y with
    | none => rw [e] at h; simp only [] at h; omega
    | some x =>
      rw [e] at h
      simp only [] at h
      by_cases g : okT ls (ts ++ [x]) = true
      · rw [if_pos g] at h
        rcases List.mem_cons.mp hz with rfl | hz
        · exact ⟨x, e⟩
        · exact rest_zero h (by omega) z hz
      · rw [if_neg g] at h; omega
theorem lookw5 {z : Str} {x : Str × List Str} (h : lineLook z = some x) : Txt.split z " " = ("look" : Str) :: x.1 :: x.2 := by
  unfold lineLook at h
  split at h
  · rename_i w n xs e
    by_cases q : w = "look"
    · rw [if_pos q] at h
      cases h
      rw [e, q]
    · rw [if_neg q] at h; cases h
  · cases h
theorem lampw5 {z : Str} {ls : List Str} (h : lineLamps z = some ls) : Txt.split z " " = ("lamps" : Str) :: ls := by
  unfold lineLamps at h
  split at h
  · rename_i w xs e
    by_cases q : w = "lamps"
    · rw [if_pos q] at h
      by_cases g : okT xs [] = true
      · rw [if_pos g] at h
        cases h
        rw [e, q]
      · rw [if_neg g] at h; cases h
    · rw [if_neg q] at h; cases h
  · cases h
def spDueRows (K : PySem.W.Frag) : Sp := fun vs H Q _ => ∃ (a : Addr) (l : Str) (r : List Str) (ls : List Str), vs = [.ref a] ∧ H a = some (.lst ((l :: r).map V.str)) ∧ (∀ z ∈ l :: r, LineOk z) ∧ r.length ≤ 60 ∧ lineLamps l = some ls ∧ (∀ z ∈ r, ∃ x, lineLook z = some x) ∧
  ∀ (H' : Hp) (D : Addr) (rows : List RowIn), Same H H' → H D = none → H' D = some (.lst (refsOf rows)) → (∀ q ∈ rows, RowT H' q) → rows.map RowIn.dat = (cutRows ls (rowsOf r)).map rdat → Q (.ref D) H'
def rTupOf5 (K : PySem.W.Frag) : List V → Hp → VK → Prop := fun xs H Q => ∃ p ys, xs = [V.ref p] ∧ ((SqL K H p ys ∧ ∀ l, H l = none → Q (.ref l) (upd H l (.tup ys))) ∨ (SqT K H p ys ∧ Q (.ref p) H))
structure TxtDR (mg : Str → Option Value) : Prop where
  tuple : mg "tuple" = none
section
variable {P : Program} {w : World} {K : PySem.W.Frag} {mg : Str → Option Value} {base : Heap}
theorem scDueRows : FnScope ["_law_lines_here", "_law_lamps", "_law_rows", "_law_line", "_law_words", "_law_lamp"] ["_law_lines_here"] (defScope sLawDueRows) := ⟨rfl, rfl, rfl, by decide +kernel, rfl, by decide +kernel, by decide +kernel⟩
theorem ok_duerows {f : Addr} {fd : FuncData} (F : Fun K "_law_due_rows" "_law_due_rows" sLawDueRows f fd) (T : TxtDR mg) : FnOk P w K mg base CX0 1 f fd ["_law_lines_here"] (spDueRows K) := by
  refine F.ok scDueRows (fun vs H Q E h => ?_) (fun cdv A outer s H vs Q E hr h => ?_)
  · obtain ⟨a, l, r, ls, rfl, _⟩ := h
    rfl
  · obtain ⟨a, l, r, ls, rfl, ha, lok, few, lam, looks, k⟩ := h
    refine ⟨_, (pss_cons (ps_set (i := 1) scDueRows.nd rfl (Or.inl rfl) (pe_slice sl_list (pe_bm PySem.F.plainAttrs_str PySem.F.slot_str_split PySem.F.type_str_split mt_split (pe_ix ix_list (pv 0) pe_int (fun _ _ => rfl)) (pa_cons pe_str pa_nil)) (po_some pe_int) po_none))
        (pss_cons (ps_set (i := 2) scDueRows.nd rfl (Or.inl rfl) (pe_lst pa_nil))
        (pss_cons (ps_for PassesOwn.never rfl (pi_list (pe_slice sl_list (pv 0) (po_some pe_int) po_none)) (pg_name (i := 3) scDueRows.nd rfl (Or.inl rfl)) (pss_cons (ps_set (i := 4) scDueRows.nd rfl (Or.inr rfl) (pe_bm PySem.F.plainAttrs_str PySem.F.slot_str_split PySem.F.type_str_split mt_split (pv 3) (pa_cons pe_str pa_nil)))
        (pss_one (ps_expr (pe_bm PySem.F.plainAttrs_list PySem.F.slot_list_append PySem.F.type_list_append mt_append (pv 2) (pa_cons (pe_tup (pa_cons (pe_ix ix_list (pv 4) pe_int (fun _ _ => rfl)) (pa_cons (pe_callTy call_tuple_of (by rfl) T.tuple (by decide +kernel) (pa_cons (pe_lc (own := [("_law_lamp", 5)]) (g := gName 5) (tt := tTest (tOp (rIn K false) (tVar 5) (tSl (rSlL K) (tVar 4) (tPart (tC (.int 2))) tNoPart))) (te := tVar 5) rfl scDueRows.nd (pi_list (pv 1)) (blkOk_by (N := ["_law_lines_here", "_law_lamps", "_law_rows", "_law_line", "_law_words", "_law_lamp"]) (sc := defScope sLawDueRows) (by decide +kernel)) (fun _ _ _ _ _ => (pg_name (i := 5) scDueRows.nd rfl (Or.inl rfl))) (fun _ _ _ _ _ => (pts_one (pt_cmpR (by exact op_in_seq : OpR _ _ (rIn K false)) (pv 5) (pe_slice (by exact sl_list : SlR _ (rSlL K)) (pv 4) (po_some pe_int) po_none) (by rfl)))) (fun _ _ _ _ _ => (pv 5))) pa_nil)) pa_nil))) pa_nil))))))
        (pss_one (ps_ret (pv 2)))))), ?_⟩
    have lw := lampw5 lam
    have l0 := lok l (List.mem_cons_self ..)
    have at0 : atI ((l :: r).map V.str) 0 = some (V.str l) := atI_nat (xs := (l :: r).map V.str) (j := 0) (v := .str l) rfl
    have lcount : ls.length ≤ 900 := by have := l0.len; rw [lw] at this; simp only [List.length_cons] at this; omega
    refine ⟨_, rfl, a, _, 0, .str l, rfl, rfl, SqL.of ha, at0, rfl, _, _, rfl, rfl, sp_tl.2.2.2.2.1, l0.room, fun p1 hp1 => ?_⟩
    rw [lw]
    have t1 := Same.upd_new hp1 (o := .lst ((("lamps" : Str) :: ls).map V.str))
    refine ⟨1, rfl, p1, _, rfl, SqL.of upd_same, fun p2 hp2 => ?_⟩
    have cut : cutV ((("lamps" : Str) :: ls : List Str).map V.str) (some 1) none = ls.map V.str := (cut_drop _ 1).trans rfl
    rw [cut]
    have t2 := Same.upd_new hp2 (o := .lst (ls.map V.str))
    have h2 := upd_same (H := upd H p1 (.lst ((("lamps" : Str) :: ls).map V.str))) (a := p2) (o := .lst (ls.map V.str))
    have t12 := t1.trans t2
    generalize upd (upd H p1 (.lst ((("lamps" : Str) :: ls).map V.str))) p2 (.lst (ls.map V.str)) = H2 at *
    refine ⟨Nat.zero_le _, fun D hD => ?_⟩
    have t3 := Same.upd_new hD (o := .lst [])
    have hD3 := upd_same (H := H2) (a := D) (o := .lst [])
    have hD0 := t12.free hD
    have nD2 : p2 ≠ D := ne_of_none h2 hD
    have t13 := t12.trans t3
    have h23 := t3 _ _ h2
    generalize upd H2 D (.lst []) = H3 at *
    refine ⟨_, rfl, 1, rfl, a, _, rfl, SqL.of (t13 _ _ ha), fun p3 hp3 => ?_⟩
    have cutr : cutV ((l :: r).map V.str) (some 1) none = r.map V.str := (cut_drop _ 1).trans rfl
    rw [cutr]
    have t4 := Same.upd_new hp3 (o := .lst (r.map V.str))
    have h34 := upd_same (H := H3) (a := p3) (o := .lst (r.map V.str))
    have nD3 : p3 ≠ D := fun e => by rw [e, hD3] at hp3; cases hp3
    have t14 := t13.trans t4
    have h24 := t4 _ _ h23
    have hD4 := t4 _ _ hD3
    generalize upd H3 p3 (.lst (r.map V.str)) = H4 at *
    refine ⟨p3, rfl, ⟨_, SqL.of h34⟩, for_it (walk_list (K := K) (a := p3) (xs := r.map V.str)) (fun i σ H' => ∃ (x3 x4 : Option V) (rows : List RowIn), σ = [some (.ref a), some (.ref p2), some (.ref D), x3, x4, none] ∧ Same H H' ∧ H' p2 = some (.lst (ls.map V.str)) ∧ H' p3 = some (.lst (r.map V.str)) ∧ H' D = some (.lst (refsOf rows)) ∧
        (∀ q ∈ rows, RowT H' q) ∧ rows.length = i ∧ rows.map RowIn.dat = (cutRows ls (rowsOf (r.take i))).map rdat)
      ⟨none, none, [], rfl, t14, h24, h34, hD4, fun q hq => absurd hq (by simp), rfl, rfl⟩ (fun i σ H' _ ⟨_, _, _, _, _, _, h, _⟩ => SqL.of h) ?_ ?_⟩
    · rintro i v σ H4' H5 hi ⟨x3, x4, rows, rfl, s5, h25, h35, hD5, rt, rlen, dat⟩ ⟨rfl, hv⟩
      have hv : (r.map V.str)[i]? = some v := hv
      rw [List.getElem?_map] at hv
      cases hz : r[i]? with
      | none => rw [hz] at hv; cases hv
      | some z =>
      rw [hz] at hv
      cases hv
      have hir : i < r.length := (List.getElem?_eq_some_iff.mp hz).1
      have zm : z ∈ r := List.mem_of_getElem? hz
      obtain ⟨x, lk⟩ := looks z zm
      have zok := lok z (List.mem_cons_of_mem _ zm)
      have zw := lookw5 lk
      have xcount : x.2.length ≤ 900 := by have := zok.len; rw [zw] at this; simp only [List.length_cons] at this; omega
      have e1 : rowsOf [z] = [x] := by
        show (match lineLook z with | none => rowsOf [] | some x => x :: rowsOf []) = _
        rw [lk]
        rfl
      have ht : rowsOf (r.take (i + 1)) = rowsOf (r.take i) ++ [x] := by rw [take_at hz, rowsOf_app, e1]
      refine ⟨_, rfl, rfl, _, _, rfl, rfl, sp_tl.2.2.2.2.1, zok.room, fun q1 hq1 => ?_⟩
      rw [zw]
      have u1 := Same.upd_new hq1 (o := .lst ((("look" : Str) :: x.1 :: x.2 : List Str).map V.str))
      have g1 := upd_same (H := H5) (a := q1) (o := .lst ((("look" : Str) :: x.1 :: x.2 : List Str).map V.str))
      generalize upd H5 q1 (.lst ((("look" : Str) :: x.1 :: x.2 : List Str).map V.str)) = H6 at *
      have at1 : atI ((("look" : Str) :: x.1 :: x.2 : List Str).map V.str) 1 = some (V.str x.1) := atI_nat (xs := (("look" : Str) :: x.1 :: x.2 : List Str).map V.str) (j := 1) (v := .str x.1) rfl
      have cutx : cutV ((("look" : Str) :: x.1 :: x.2 : List Str).map V.str) (some 2) none = x.2.map V.str := (cut_drop _ 2).trans rfl
      refine ⟨_, rfl, .inl ⟨rfl, _, SqL.of (u1 _ _ hD5)⟩, _, rfl, q1, _, 1, .str x.1, rfl, rfl, SqL.of g1, at1, _, rfl, p2, rfl, ⟨_, SqL.of (u1 _ _ h25)⟩, fun G hG => lc_it (walk_list (K := K) (a := p2) (xs := ls.map V.str)) (fun j H' => Same H6 H' ∧ H' G = some (.lst ((chosen (ls.take j) x.2).map V.str))) ⟨Same.upd_new hG, upd_same⟩ (fun j H' _ ⟨s, _⟩ => SqL.of (s _ _ (u1 _ _ h25))) ?_ ?_⟩
      · rintro j y H7' H7 hj ⟨s7, hG7⟩ ⟨rfl, hy⟩
        have hy : (ls.map V.str)[j]? = some y := hy
        rw [List.getElem?_map] at hy
        cases hzj : ls[j]? with
        | none => rw [hzj] at hy; cases hy
        | some n =>
        rw [hzj] at hy
        cases hy
        have st : chosen (ls.take (j + 1)) x.2 = chosen (ls.take j) x.2 ++ (if decide (n ∈ x.2) = true then [n] else []) := by
          unfold chosen
          rw [take_at hzj, List.filter_append]
          by_cases hz : n ∈ x.2 <;> simp [hz]
        have q1l : (chosen (ls.take j) x.2).length ≤ j := Nat.le_trans (List.length_filter_le _ _) (by rw [List.length_take]; omega)
        have jl : j < ls.length := (List.getElem?_eq_some_iff.mp hzj).1
        refine ⟨rfl, _, rfl, _, rfl, 2, rfl, q1, _, rfl, SqL.of (s7 _ _ g1), fun q2 hq2 => ?_⟩
        rw [cutx]
        have u2 := Same.upd_new hq2 (o := .lst (x.2.map V.str))
        have g2 := upd_same (H := H7) (a := q2) (o := .lst (x.2.map V.str))
        have hG8 := u2 _ _ hG7
        have s8 := s7.trans u2
        generalize upd H7 q2 (.lst (x.2.map V.str)) = H8 at *
        refine ⟨q2, _, rfl, .inl (SqL.of g2), rfl, flat_strs x.2, inV (.str n) (x.2.map V.str), rfl, ?_⟩
        rw [inV_str]
        by_cases hz : n ∈ x.2
        · rw [decide_eq_true hz]
          refine iteT ⟨_, rfl, _, hG8, by rw [List.length_map]; exact small1000 (by omega), fun c o h => ?_, ?_⟩
          · rw [upd_ne (ne_of_none h hG)]
            exact s8 _ _ h
          · rw [upd_same, st, decide_eq_true hz, if_pos rfl, List.map_append]
            rfl
        · rw [decide_eq_false hz]
          refine iteF ⟨s8, ?_⟩
          rw [hG8, st, decide_eq_false hz, if_neg (by decide), List.append_nil]
      · rintro H7 ⟨s7, hG7⟩
        rw [List.length_map, List.take_length] at hG7
        refine ⟨G, _, rfl, .inl ⟨SqL.of hG7, fun q3 hq3 => ⟨by show 2 ≤ sizeLine; decide, fun T hT => ?_⟩⟩⟩
        have u3 := Same.upd_new hq3 (o := .tup ((chosen ls x.2).map V.str))
        have g3 := upd_same (H := H7) (a := q3) (o := .tup ((chosen ls x.2).map V.str))
        have u4 := Same.upd_new hT (o := .tup [.str x.1, .ref q3])
        have g4 := upd_same (H := upd H7 q3 (.tup ((chosen ls x.2).map V.str))) (a := T) (o := .tup [.str x.1, .ref q3])
        have g34 := u4 _ _ g3
        have s67 := (s7.trans u3).trans u4
        generalize upd (upd H7 q3 (.tup ((chosen ls x.2).map V.str))) T (.tup [.str x.1, .ref q3]) = H8 at *
        have s58 := u1.trans s67
        have hD8 := s58 _ _ hD5
        refine ⟨D, _, _, rfl, rfl, hD8, small1000 (by unfold refsOf; rw [List.length_map, rlen]; omega), ?_⟩
        have keep : ∀ {c : Addr} {ys : List V}, H8 c = some (.tup ys) → upd H8 D (.lst (refsOf rows ++ [.ref T])) c = some (.tup ys) := fun {c ys} h => by
          rw [upd_ne (ne_tup_lst h hD8)]
          exact h
        refine ⟨_, _, rows ++ [⟨T, .str x.1, q3, (chosen ls x.2).map V.str⟩], rfl, fun c o h => ?_, ?_, ?_, ?_, fun y hy => ?_, by rw [List.length_append, rlen]; rfl, ?_⟩
        · rw [upd_ne (ne_of_none h hD0)]
          exact s58 _ _ (s5 _ _ h)
        · rw [upd_ne nD2]
          exact s58 _ _ h25
        · rw [upd_ne nD3]
          exact s58 _ _ h35
        · rw [upd_same]
          unfold refsOf
          rw [List.map_append]
          rfl
        · rcases List.mem_append.mp hy with h | h
          · have g := (rt y h).of s58
            exact ⟨keep g.pair, keep g.tup⟩
          · obtain rfl := List.mem_singleton.mp h
            exact ⟨keep g4, keep g34⟩
        · rw [List.map_append, dat, ht]
          unfold cutRows
          rw [List.map_append, List.map_append]
          rfl
    rintro σ H5 ⟨x3, x4, rows, rfl, s5, h25, h35, hD5, rt, rlen, dat⟩
    rw [List.length_map, List.take_length] at dat
    exact ⟨_, rfl, k H5 D rows s5 hD0 hD5 rt dat⟩
end
end Dl

/-! in a try's body: o.m(..) of a def with a star parameter, o[k] by the own __getitem__; isinstance of a caught error that has its dict -/
namespace Dl
open PySem PySem.Spec PyProof.Rows L2
section
variable {X : Cx} {σ : L2.St} {pins : List (Addr × Obj)} {H : Hp} {s : Shared} {Q : VK}
/-- what isinstance asks of an error's class -/
structure IsE (K : PySem.W.Frag) (D : Addr) : Prop where
  hc : (PySem.W.clsIn K D).isSome = true
  ga : PySem.W.findIn K (.ref D) "__getattribute__" = some (some (.builtin "BaseException.__getattribute__"))
  gg : PySem.W.findIn K (.ref D) "__getattr__" = some none
  sb : PySem.W.subIn K (.ref D) (.type "BaseException") = some true
  ha : PySem.W.findIn K (.ref D) "__class__" = some (some (.builtin "object.__class__"))
  hn : PySem.W.specialIn K (.builtin "object.__class__") "__get__" = some (some (.builtin "getset_descriptor.__get__"))
  ht : PySem.W.takesIn K (.builtin "object.__class__") = some true
  hm : PySem.W.mroIn K D (.type "object") = some true
def rIsED (K : PySem.W.Frag) (D a : Addr) (cls : Value) (d : Option Addr) : List V → Hp → VK → Prop := fun xs H Q => ∃ (c : V) (cv : Value) (b : Bool) (dd : Addr) (fs : List (Str × V)), xs = [.ref a, c] ∧ (∀ u, RelV c u → u = cv) ∧ cls = .ref D ∧ d = some dd ∧ H dd = some (.xd fs) ∧ PySem.W.kitOne K (.ref D) cv = some b ∧ Q (.bl b) H
theorem call_isED {a D : Addr} {cls : Value} {d : Option Addr} {oe : Obj} {pn : List (Addr × Obj)} (T : IsE X.K D) (hz : Zc cls d oe) (hf : ∃ vs, oe.data = .fields vs) : CallR (X.suite a ((a, oe) :: pn)) (.builtin "isinstance") (rIsED X.K D a cls d) := by
  intro pins s σ H xs us Q I r h
  obtain ⟨c, cv, b, dd, fs, rfl, hcv, rfl, rfl, hdd, hk, q⟩ := h
  obtain ⟨u1, u2, rfl, r1, r2⟩ := vals2 r
  cases r1
  obtain rfl := hcv _ r2
  obtain ⟨there, _⟩ := I.pin (a, oe) (List.mem_append_left _ List.mem_cons_self)
  obtain ⟨vs, hv⟩ := hf
  obtain ⟨mA, hns, _⟩ := (show ObjOk X.prog X.w H s.heap dd (.xd fs) from I.hok dd _ hdd)
  obtain ⟨od, ho, _⟩ := lookIn_ns hns
  have J : PySem.W.InstAt s.heap a oe D (some od) := ⟨there, hz.1, by unfold PySem.W.notCls; rw [hv] <;> rfl, by rw [hz.2]; exact ho⟩
  exact PySem.W.kia_one (PySem.W.kitx_exc T.hc T.ga T.gg T.sb T.ha T.hn T.ht T.hm) I.kIn J hk (fun z => nomatch z) fun tk => ⟨.bl b, H, I.kept (t' := tk) fun _ _ z => z, rfl, q⟩
end
end Dl

/-! try with several clauses «except C as n»: my own rule -/
namespace Dl
open PySem PySem.Spec PyProof.Rows L2
abbrev Suite := Addr → Value → Option Addr → TS
/-- the ends of a suite whose name at slot i is unbound behind it -/
def unE (i : Nat) (D : Ends) : Ends where
  nx := fun τ G => D.nx (τ.set i none) G
  rt := D.rt
  bk := fun τ G => D.bk (τ.set i none) G
  ct := fun τ G => D.ct (τ.set i none) G
def wAll (K : PySem.W.Frag) (i : Nat) (out : WX) (D : Ends) : List (Value × Suite) → WX
  | [] => out
  | p :: rest => fun cls d τ G => ∃ yes : Bool, PySem.W.exmOne K cls p.1 = some yes ∧ (yes = true → ∀ a, G a = none → p.2 a cls d (unE i D) (τ.set i (some (.ref a))) G) ∧ (yes = false → wAll K i out D rest cls d τ G)
inductive Clauses (X : Cx) (n : Str) : List ExceptHandler → List (Value × Suite) → Prop
  | done : Clauses X n [] []
  | more {x : Str} {c : Value} {ts : Suite} {st : Stmt} {sts : List Stmt} {q q' : Pos} {rest : List ExceptHandler} {l : List (Value × Suite)} (nm : Names X x c)
      (suite : ∀ (a : Addr) (oe : Obj) (cls : Value) (d : Option Addr) (pn : List (Addr × Obj)), Zc cls d oe → (∃ fs, oe.data = .fields fs) → PSs (X.suite a ((a, oe) :: pn)) (st :: sts) (ts a cls d)) (tail : Clauses X n rest l) :
      Clauses X n (.ExceptHandler (some (.Name x q)) (some n) (st :: sts) q' :: rest) ((c, ts) :: l)
section
variable {X : Cx} {n : Str} {i : Nat} {body : List Stmt} {h1 : ExceptHandler} {more : List ExceptHandler} {l : List (Value × Suite)} {pos : Pos} {tb : WX → TS} {out : WX}
theorem ps_try_all (top : X.stack = X.env :: X.outer) (fr : X.env.frame = some X.env.locals) (nd : X.N.Nodup) (at_ : X.N[i]? = some n) (loc : X.env.kindOf n = some .local) (tk : Takes X out)
    (run : ∀ (W : WX) (pn : List (Addr × Obj)) (xe : Value → Shared → Prop), Takes (X.tr pn xe) W → PassesOwn (model X.prog X.w) X.A X.env xe → PSs (X.tr pn xe) body (tb W)) (cs : Clauses X n (h1 :: more) l) :
    PS X (.Try body (h1 :: more) [] [] pos) (fun D τ G => tb (wAll X.K i out D l) D τ G) := by
  constructor
  intro pins s τ G D I want
  have good := I.ok
  have frames : X.A.frames = some (X.env :: X.outer) := top ▸ good.frames
  apply wpAny_Try_except
  have go := (run (wAll X.K i out D l) (X.pn ++ pins)
    (fun e t1 => wpAny (model X.prog X.w) X.A (noteFrame e X.env)
      (fun _ t2 => wpAny (model X.prog X.w) X.A (setFlight e none)
        (fun _ t3 => wpAny (model X.prog X.w) X.A (handleBy e X.env (h1 :: more)) (SP X pins D) X.xe t3) X.xe t2) X.xe t1) ?caught PassesOwn.looking).run [] s τ G D (I.toTry _) want
  case caught =>
    rintro u t ⟨a, B, sI, pins', τ', G', cls, d, rfl, J0, fresh, up, sky, na, os, ag, w⟩
    have J : Inv X pins τ' G' sI := J0.ofTry good
    rw [top] at sky
    show wpAny (model X.prog X.w) X.A (noteFrame (.ref a) X.env) _ _ _
    apply Sky.land Zc.steady frames fr sky
    intro h3 fl up3
    have J3 : Inv X pins τ' G' { t with heap := h3 } := J.landed fresh fl.1 (up.trans up3) os ag
    obtain ⟨ob, fs, hob, zob, dob⟩ := fl.there
    have out_frames : a ∉ frs (X.env :: X.outer) := by
      intro hm
      obtain ⟨_, o2, e2, no⟩ := fl.2.2.1.mem hm
      rw [hob] at e2
      cases e2
      exact no _ dob
    have nl : a ≠ X.env.locals := fun e => out_frames (List.mem_filterMap.mpr ⟨X.env, List.mem_cons_self, fr.trans (congrArg some e.symm)⟩)
    have nf : a ∉ X.fs := by
      intro hm
      obtain ⟨ev, hev, e2⟩ := List.mem_filterMap.mp hm
      exact out_frames (List.mem_filterMap.mpr ⟨ev, List.mem_cons_of_mem _ hev, e2⟩)
    have S3 := J3.suite hob dob na nl nf
    have each : ∀ {hs : List ExceptHandler} {k : List (Value × Suite)}, Clauses X n hs k → wAll X.K i out D k cls d τ' G' → wpAny (model X.prog X.w) X.A (handleBy (.ref a) X.env hs) (SP X pins D) X.xe { t with heap := h3 } := by
      intro hs k hk
      induction hk with
      | done =>
        intro w
        apply wpAny_handleBy_nil
        have fl2 := fl
        obtain ⟨_, _, _, o4, v4, T, _, _, e4, _, d4, i4, _⟩ := fl2
        have off : wpAny (model X.prog X.w) X.A (setFlight (.ref a) X.env.frame) (fun _ t4 => wpAny (model X.prog X.w) X.A (throw (.ref a) : Sem Flow) (SP X pins D) X.xe t4) X.xe { t with heap := h3 } := by
          rw [fr]
          apply HandSPX.setFlight_upZ fl
          intro h4 hh4 up4
          exact wpAny_throw (tk _ _ ⟨a, B, sI, pins, τ', G', cls, d, rfl, J, fresh, (up.trans up3).trans up4, .inr (.inr (top.symm ▸ hh4)), na, os, ag, w⟩)
        unfold PySem.passOn
        apply wpAny_bind
        apply wpAny_field e4 d4 i4
        rw [if_neg (by simp : ¬ ((Value.ref T == Value.none) = true))]
        first
          | exact wpAny_bind (wpAny_pure (wpAny_bind off))
          | exact wpAny_bind off
      | @more x c ts st sts q q' rest k2 nm suite tail ih =>
        rintro ⟨yes, e5, isYes, isNo⟩
        apply wpAny_handleBy_cons (codeAny_handlers_test ?test) (by intro z; cases z)
        case test =>
          have looks : PySem.W.Looks (model X.prog X.w) h3 (typeOf (.ref a)) cls := fun _ _ _ _ keep z => wpAny_typeOf_ref (keep _ _ hob) (zob.1.symm ▸ z)
          have one := PySem.W.exm_one (M := model X.prog X.w) J3.kIn looks e5
          have read : ∀ {Q : Value → Shared → Prop} {E : Value → Shared → Prop}, Q c { t with heap := h3 } → wpAny (model X.prog X.w) (X.A.mark (some (.ref a))) (eval (.Name x q) X.env) Q E { t with heap := h3 } := by
            intro Q E z
            obtain ⟨g, dbg, inMod | ⟨inMod, v, nn⟩⟩ := nm
            · exact ld_glob (X := X.suite a ((a, ob) :: (X.pn ++ pins))) S3 g inMod z dbg
            · exact ld_blt (X := X.suite a ((a, ob) :: (X.pn ++ pins))) S3 g inMod v z nn dbg
          apply read
          apply one.here
          cases yes with
          | false =>
            show wpAny _ X.A (handleBy (.ref a) X.env rest) _ _ _
            exact ih (isNo rfl)
          | true =>
            apply codeAny_handlers_suite_as
            apply HandSPX.lands_againZ fl
            intro h4 fl4 up4
            have J4 : Inv X pins τ' G' { t with heap := h4 } := J.landed fresh fl4.1 ((up.trans up3).trans up4) os ag
            obtain ⟨ob4, fs4, hob4, zob4, dob4⟩ := fl4.there
            have S4 := J4.suite hob4 dob4 na nl nf
            apply store_ok (X := X.suite a ((a, ob4) :: (X.pn ++ pins))) (v := .ref a) S4 nd at_ (.inl loc) rfl ?_ (.inr loc)
            intro t5 S5
            have body5 := (suite a ob4 cls d (X.pn ++ pins) zob4 ⟨_, dob4⟩).run [] t5 _ G' _ S5 (isYes rfl a na)
            apply wpAny_mono body5 ?_ (fun _ _ z => z.elim)
            intro fw t6 end6
            have drop : ∀ {τ6 : L2.St} {G6 : Hp} {R : Shared → Prop}, Inv (X.suite a ((a, ob4) :: (X.pn ++ pins))) [] τ6 G6 t6 → (∀ t7, Inv X pins (τ6.set i none) G6 t7 → R t7) → wpAny (model X.prog X.w) X.A (do bindName X.env n .none; unbindBehindTheSuite X.env n q') (fun _ t7 => R t7) X.xe t6 := by
              intro τ6 G6 R S6 z
              exact gone_ok (S6.unsuite good) nd at_ loc z
            match fw, end6 with
            | .next, ⟨τ6, G6, S6, q6⟩ => exact drop S6 fun t7 J7 => ⟨_, _, J7, q6⟩
            | .brk, ⟨τ6, G6, S6, q6⟩ => exact drop S6 fun t7 J7 => ⟨_, _, J7, q6⟩
            | .cont, ⟨τ6, G6, S6, q6⟩ => exact drop S6 fun t7 J7 => ⟨_, _, J7, q6⟩
            | .ret u, ⟨v6, τ6, G6, S6, r6, q6⟩ => exact drop S6 fun t7 J7 => ⟨_, _, _, J7, r6, q6⟩
    exact each cs w
  apply wpAny_mono go ?_ (fun _ _ z => z)
  intro fw t1 end1
  match fw, end1 with
  | .next, ⟨τ1, G1, J1, q1⟩ => exact wpAny_execs_nil ⟨τ1, G1, J1.ofTry good, q1⟩
  | .brk, ⟨τ1, G1, J1, q1⟩ => exact ⟨τ1, G1, J1.ofTry good, q1⟩
  | .cont, ⟨τ1, G1, J1, q1⟩ => exact ⟨τ1, G1, J1.ofTry good, q1⟩
  | .ret u, ⟨v1, τ1, G1, J1, r1, q1⟩ => exact ⟨v1, τ1, G1, J1.ofTry good, r1, q1⟩
end
end Dl

/-! a def that calls no def, called while an exception is handled, whatever that exception's context is: my own rule; a staticmethod called in a try's body -/
namespace Dl
open PySem PySem.Spec PyProof.Rows L2
abbrev NoX : XK := fun _ _ _ => False
def Quiet (P : Program) (w : World) (K : PySem.W.Frag) (mg : Str → Option Value) (base : Heap) (f : Addr) (sp : Sp) : Prop :=
  ∀ (A : Around) (outer : List Env) (s : Shared) (H : Hp) (us : List Value) (vs : List V) (Q : VK) (p : Addr × Obj), L2H.RoomH 1 A → L2H.PinOk outer H s p → Env0 P w K mg base A outer s H → Vals vs us → sp vs H Q NoX →
    codeAny (model P w) A (.call (.ref f) ⟨us, []⟩) (CR CX0 outer P w H s Q NoX) s
set_option maxHeartbeats 400000 in
theorem quiet_of {P : Program} {w : World} {K : PySem.W.Frag} {mg : Str → Option Value} {base : Heap} {x qual : Str} {st : Stmt} {f : Addr} {fd : FuncData} {N ps : List Str} {sp : Sp} (F : Fun K x qual st f fd) (S : FnScope N ps (defScope st)) (binds : Binds K fd ps []) (len : ∀ vs H Q E, sp vs H Q E → vs.length = ps.length)
    (body : ∀ (cdv : Value) (A : Around) (outer : List Env) (s : Shared) (H : Hp) (vs : List V) (Q : VK) (p : Addr × Obj), L2H.RoomH 0 (A.deeper (envOfC qual (defScope st) s.heap.objs.size f cdv)) → sp vs H Q NoX →
      ∃ t, PSs (L2H.cxH CX0 P w K mg base N qual (defScope st) f cdv A outer s H NoX p) (defBody st) t ∧ t { nx := fun _ H' => Q .non H', rt := Q } (L2.start N vs) H) : Quiet P w K mg base f sp := by
  obtain ⟨oc, od, kV, doc, pm, an, cdv, ct, osl, rfl, lk, code⟩ := F.ex
  intro A outer s H us vs Q p room pin e0 rel want
  have size : vs.length = ps.length := len _ _ _ _ want
  have there := fun b o e => (e0.bs b o e).1
  have inK : K.In s.heap := e0.mod.kin.keeps there
  have bound := binds s us inK (by rw [List.append_nil, ← rel.length]; exact size)
  rw [List.append_nil] at bound
  have kinds : ∀ y ∈ ps.zip us, (defScope st).names.lookup y.1 = some .local ∨ ((defScope st).names.lookup y.1 = some .cell ∧ ((cellsFrom (s.heap.objs.size + 1) (defScope st).names []).lookup y.1).isSome = true) := by
    rintro ⟨n, v⟩ hy
    refine (S.par n (List.of_mem_zip hy).1).imp (fun q => q) fun q => ⟨q, ?_⟩
    exact PySem.W.cellsFrom_some _ _ _ (.inl q)
  apply codeAny_call_function room.depth (inK _ _ lk) rfl S.co S.gen rfl (PySem.W.codeRec_of inK code)
  apply bound
  apply wpAny_newFunctionEnv_cells S.kind kinds
  rintro env rfl s1 inside
  refine ⟨(e0.mod.nolimit.keeps there).keeps inside.toInCall.keep, codeAny_func ?_⟩
  obtain ⟨t, run, ask⟩ := body cdv A outer s H vs Q p (room.deeper _) want
  have J := L2H.inv_startH (CX := CX0) (E := NoX) S pin e0 size rel inside
  apply wpAny_mono (run.run [] s1 _ H _ J ask) _ fun _ _ z => z
  intro out s2 got
  have done : ∀ {τ : L2.St} {H2 : Hp} {v : V} {u : Value}, Inv (L2H.cxH CX0 P w K mg base N qual (defScope st) f cdv A outer s H NoX p) [] τ H2 s2 → RelV v u → Q v H2 → CE outer P w H s Q u s2 := fun {τ H2 v u} J2 rv q => ⟨v, H2, J2.os, J2.bare, J2.base, J2.hok, rv, q⟩
  cases out with
  | ret u =>
    obtain ⟨v, τ, H2, J2, rv, q⟩ := got
    exact done J2 rv q
  | next =>
    obtain ⟨τ, H2, J2, q⟩ := got
    exact done (v := V.non) (u := Value.none) J2 rfl q
  | brk => exact got.choose_spec.choose_spec.2.elim
  | cont => exact got.choose_spec.choose_spec.2.elim
def tQuiet (sp : Sp) (t : TA) : TE := fun σ H Q => t σ H fun vs H1 => sp vs H1 Q NoX
set_option maxHeartbeats 400000 in
theorem pe_quiet {X : Cx} {a f : Addr} {oe : Obj} {pn : List (Addr × Obj)} {sp : Sp} {x : Str} {e : Expr} {es : List Expr} {t : TA} {q pos : Pos} (F : Quiet X.prog X.w X.K X.mg X.base f sp) (room : L2H.RoomH 1 (X.A.mark (some (.ref a)))) (hg : Gl X x) (hm : X.mg x = some (.ref f)) (hk : PySem.W.keepIn X.K (.ref f) = true)
    (ha : PA (X.suite a ((a, oe) :: pn)) (e :: es) t) (hdb : (x == ("__debug__" : Str)) = false := by decide) (first : starEach (e :: es) X.env = (false, eval e X.env) :: starEach es X.env := by rfl) (plain : (backTo pos (starEach es X.env)).any (·.1) = false := by rfl) :
    PE (X.suite a ((a, oe) :: pn)) (.Call (.Name x q) (e :: es) [] pos) (tQuiet sp t) := by
  constructor
  intro pins s σ H Q I want
  apply wpAny_Call_Name_kw
  apply ld_glob (X := X.suite a ((a, oe) :: pn)) I hg hm _ hdb
  apply PySem.W.callWith_K (h₀ := X.base) I.ok.mod.kin hk _ first plain
  apply thn (ha.run pos pins s σ H _ I want)
  rintro us s1 ⟨vs, H1, J, rel, want1⟩
  refine ⟨J.kIn, wpAny_call ?_⟩
  have P1 := J.pin (a, oe) (List.mem_append_left _ List.mem_cons_self)
  have pin : L2H.PinOk (X.suite a ((a, oe) :: pn)).stack H1 s1 (a, oe) := ⟨P1.1, P1.2.1, fun hm => by
    rcases List.mem_cons.mp (J.stkSub a hm) with h | h
    · exact P1.2.2.1 h
    · exact P1.2.2.2.1 h, P1.2.2.2.2⟩
  apply codeAny_mono (F _ _ s1 H1 us vs Q (a, oe) room pin J.env0 rel want1)
  intro out s2 got
  match out, got with
  | .ok (.ret u), got => exact J.after got
  | .error er, got => exact got
def tStatS (C : Addr) (sp : Sp) (E : L2.St → XK) (ta : TE) (t : TA) : TE := fun σ H Q => ta σ H fun x H1 => x = .ref C ∧ t σ H1 fun vs H2 => sp vs H2 Q (E σ)
theorem pe_staticS {X : Cx} {CX : CXT} {k : Nat} {C p g : Addr} {fd : FuncData} {ps : List Str} {sp : Sp} {E : L2.St → XK} {o e : Expr} {es : List Expr} {m : Str} {pos apos : Pos} {ta : TE} {t : TA} {pl : Sem Bool} (he : PE X o ta) (c : SMet X.K C m p g)
    (F : FnOk X.prog X.w X.K X.mg X.base CX k g fd ps sp) (hr : Room k X.A) (hb : Binds X.K fd ps []) (hx : ∀ σ, PassesAt CX X σ (E σ)) (ha : PA X (e :: es) t)
    (hst : starEach (e :: es) X.env = (false, eval e X.env) :: starEach es X.env := by rfl) (hpl : (backTo pos (starEach es X.env)).any (·.1) = false := by rfl)
    (ht : eval (.Call (.Attribute o m apos) (e :: es) [] pos) X.env = (do
      let ov ← eval o X.env
      standAt apos.atName
      let (f, first) ← holding [ov] (getMethod ov m pl)
      callWith pos f first (backTo pos (starEach (e :: es) X.env)) (backToKw pos (keywordEach [] X.env))) := by rfl) :
    PE X (.Call (.Attribute o m apos) (e :: es) [] pos) (tStatS C sp E ta t) := by
  constructor
  intro pins s σ H Q I h
  apply PySem.W.methodCall_KW (pl := pl) _ ht
  apply thn (he.run pins s σ H _ I h)
  rintro u s1 ⟨x, H1, I1, rx, rfl, q⟩
  cases rx
  obtain ⟨rest, hp⟩ := c.rc
  refine PySem.W.method_cls I1.kIn c.ga (PySem.W.cls_bind I1.kIn c.rd c.at_ (wpAny_call (PySem.W.sm_get (s := { s1 with toks := s1.toks + 1 }) I1.kIn hp (PySem.W.handed_on rfl ?_))))
  have I2 : Inv X pins σ H1 { s1 with toks := s1.toks + 1 } := I1.tok _
  refine PySem.W.callWith_K (h₀ := X.base) I2.ok.mod.kin c.kp ?_ hst hpl
  apply thn (ha.run pos pins _ σ H1 _ I2 q)
  rintro us s3 ⟨vs, H2, I3, rv, q2⟩
  exact ⟨I3.kIn, run_fnS F hr hb (hx σ) I3 rv q2⟩
theorem passLN {X : Cx} : Passes (L2N.CX X.prog X.w) X NoX := L2N.passes_call (W := fun _ _ _ _ => False) (fun _ _ x => by
  obtain ⟨_, _, _, _, _, _, _, _, _, _, _, _, _, _, _, _, z⟩ := x
  exact z.elim) fun _ _ _ _ h => h
end Dl

namespace Dl
open PySem PySem.Spec PyProof.Rows L2
structure TxtI (mg : Str → Option Value) : Prop where
  isinstance : mg "isinstance" = none
  bool : mg "bool" = none
  int : mg "int" = none
def spInt : Sp := fun vs H Q _ => ∃ n : Int, vs = [.int n] ∧ Q (.bl true) H
section
variable {P : Program} {w : World} {K : PySem.W.Frag} {mg : Str → Option Value} {base : Heap}
theorem scLawInt : FnScope ["_law_value"] ["_law_value"] (defScope sLawIsInteger) := ⟨rfl, rfl, rfl, by decide +kernel, rfl, by decide +kernel, by decide +kernel⟩
theorem ok_int {f : Addr} {fd : FuncData} (F : Fun K "_law_is_integer" "_law_is_integer" sLawIsInteger f fd) (T : TxtI mg) : FnOk P w K mg base CX0 1 f fd ["_law_value"] spInt := by
  refine F.ok scLawInt (fun vs H Q E h => ?_) (fun cdv A outer s H vs Q E hr h => ?_)
  · obtain ⟨a, rfl, _⟩ := h
    rfl
  · obtain ⟨a, rfl, k⟩ := h
    refine ⟨_, (pss_one (ps_ret (pe_and (pe_callB call_isi (by rfl) T.isinstance (by decide +kernel) (pa_cons (pv 0) (pa_cons (pe_bltn (v := .ty "int") (by rfl) T.int (by decide +kernel) rfl) pa_nil))) (pe_one (pe_not (pe_callB call_isi (by rfl) T.isinstance (by decide +kernel) (pa_cons (pv 0) (pa_cons (pe_bltn (v := .ty "bool") (by rfl) T.bool (by decide +kernel) rfl) pa_nil)))))))), ?_⟩
    refine ⟨_, rfl, _, _, _, _, true, rfl, ClsV.ty "int", .base (.int a), kit_ty (by decide +kernel), true, rfl, iteT ?_⟩
    exact ⟨_, rfl, _, _, _, _, false, rfl, ClsV.ty "bool", .base (.int a), kit_ty (by decide +kernel), false, rfl, k⟩
/-- the same where an exception is handled -/
theorem quiet_int {f : Addr} {fd : FuncData} (F : Fun K "_law_is_integer" "_law_is_integer" sLawIsInteger f fd) (hb : Binds K fd ["_law_value"] []) (T : TxtI mg) : Quiet P w K mg base f spInt := by
  refine quiet_of F scLawInt hb (fun vs H Q E h => ?_) (fun cdv A outer s H vs Q p room h => ?_)
  · obtain ⟨a, rfl, _⟩ := h
    rfl
  · obtain ⟨a, rfl, k⟩ := h
    refine ⟨_, (pss_one (ps_ret (pe_and (pe_callB call_isi (by rfl) T.isinstance (by decide +kernel) (pa_cons (pv 0) (pa_cons (pe_bltn (v := .ty "int") (by rfl) T.int (by decide +kernel) rfl) pa_nil))) (pe_one (pe_not (pe_callB call_isi (by rfl) T.isinstance (by decide +kernel) (pa_cons (pv 0) (pa_cons (pe_bltn (v := .ty "bool") (by rfl) T.bool (by decide +kernel) rfl) pa_nil)))))))), ?_⟩
    refine ⟨_, rfl, _, _, _, _, true, rfl, ClsV.ty "int", .base (.int a), kit_ty (by decide +kernel), true, rfl, iteT ?_⟩
    exact ⟨_, rfl, _, _, _, _, false, rfl, ClsV.ty "bool", .base (.int a), kit_ty (by decide +kernel), false, rfl, k⟩
end
end Dl

namespace Dl
open PySem PySem.Spec PyProof.Rows L2
/-- a letter and a number from ten on -/
def numN (p : Str) (k : Nat) : Str := p ++ (toString ((10 : Int) + ((0 : Int) + (k : Nat))) : String)
def nums (p : Str) (n : Nat) : List Str := (List.range n).map (numN p)
theorem nums_step (p : Str) (k : Nat) : nums p (k + 1) = nums p k ++ [numN p k] := by
  unfold nums
  rw [List.range_succ, List.map_append]
  rfl
theorem num5 : ∀ k, k < 26 → ((toString ((10 : Int) + ((0 : Int) + (k : Nat))) : String) : Str).length ≤ 10 ∧ ((10 : Int) + ((0 : Int) + (k : Nat))).natAbs.log2 < 1920 ∧ validN (numN "x" k) = true ∧ validN (numN "m" k) = true := by decide +kernel
theorem nums_of {p z : Str} {n : Nat} (h : z ∈ nums p n) : ∃ k, k < n ∧ z = numN p k := by
  obtain ⟨k, hk, rfl⟩ := List.mem_map.mp h
  exact ⟨k, List.mem_range.mp hk, rfl⟩
/-- the pairs of rows(), as data -/
def dataT (x : Str × List Str) : PyData := .tuple [.str x.1, .tuple (x.2.map PyData.str)]
theorem dp_rowsT {K : PySem.W.Frag} {H : Hp} : ∀ {rows : List RowIn} {ts : List (Str × List Str)}, (∀ r ∈ rows, RowT H r) → rows.map RowIn.dat = ts.map rdat → DpAll K H (refsOf rows) (ts.map dataT)
  | [], ts, _, e => by
    cases ts with
    | nil => exact .nil
    | cons _ _ => cases e
  | r :: q, ts, h, e => by
    cases ts with
    | nil => cases e
    | cons x ts =>
      rw [List.map_cons, List.map_cons] at e
      injection e with e1 e2
      have h1 : r.look = .str x.1 := congrArg Prod.fst e1
      have h2 : r.xs = x.2.map V.str := congrArg Prod.snd e1
      have G := h r (List.mem_cons_self ..)
      have pg := G.pair
      have qg := G.tup
      rw [h1] at pg
      rw [h2] at qg
      exact .cons (.tup (SqT.of pg) (.cons (.str _) (.cons (.tup (SqT.of qg) (dpAll_strs _)) .nil))) (dp_rowsT (fun y hy => h y (List.mem_cons_of_mem _ hy)) e2)
theorem rowsT_both {ts : List (Str × List Str)} (h : ∀ x ∈ ts, canS x.1 ∧ ∀ z ∈ x.2, canS z) : PyData.canLayAll0 (ts.map dataT) = true ∧ PyData.depthAll (ts.map dataT) ≤ 2 := by
  induction ts with
  | nil => exact ⟨by simp [PyData.canLayAll0], by simp [PyData.depthAll]⟩
  | cons x r ih =>
    obtain ⟨i1, i2⟩ := ih fun y hy => h y (List.mem_cons_of_mem _ hy)
    obtain ⟨c1, c2⟩ := h x (List.mem_cons_self ..)
    have d1 : PyData.canLay0 (dataT x) = true := by
      unfold dataT
      unfold canS at c1
      simp only [PyData.canLay0] at c1
      simp only [PyData.canLay0, PyData.canLayAll0, canAll_strs c2, c1, Bool.and_true]
    have d2 : (dataT x).depth ≤ 2 := by
      unfold dataT
      simp only [PyData.depth, PyData.depthAll, depthAll_strs]
      decide
    refine ⟨?_, ?_⟩
    · rw [List.map_cons, PyData.canLayAll0, d1, i1]; rfl
    · rw [List.map_cons, PyData.depthAll]; omega
theorem rowsT_can {ts : List (Str × List Str)} (h : ∀ x ∈ ts, canS x.1 ∧ ∀ z ∈ x.2, canS z) : PyData.canLay0 (.list (ts.map dataT)) = true := by
  rw [PyData.canLay0]; exact (rowsT_both h).1
theorem rowsT_dep {ts : List (Str × List Str)} (h : ∀ x ∈ ts, canS x.1 ∧ ∀ z ∈ x.2, canS z) : (PyData.list (ts.map dataT)).depth ≤ 3 := by
  rw [PyData.depth]; have := (rowsT_both h).2; omega
theorem TabOk.can {ls : List Str} {rs : List (Str × List Str)} (ok : TabOk ls rs) : ∀ x ∈ rs, canS x.1 ∧ ∀ z ∈ x.2, canS z := fun x hx => ⟨valid_can (ok.kval x hx), fun z hz => valid_can (ok.lval z ((ok.sub x hx).subset hz))⟩
theorem rows_shaped {ls : List Str} {rs : List (Str × List Str)} (ok : TabOk ls rs) : SeqAt.shaped (.list (rs.map dataT)) = true := shaped_ofn (rowsT_can ok.can) (Nat.le_trans (rowsT_dep ok.can) (by decide))
def W24 : Str := ("lamps " : Str) ++ Txt.join " " (nums "m" 24)
def W25 : Str := ("lamps " : Str) ++ Txt.join " " (nums "m" 25)
theorem w24_text : W24 ++ "\nlook x m10" = Txt.join "\n" [W24, "look x m10"] := by decide +kernel
theorem w25_text : W25 ++ "\nlook x m10" = Txt.join "\n" [W25, "look x m10"] := by decide +kernel
theorem w24_lamps : lineLamps W24 = some (nums "m" 24) := by decide +kernel
theorem w24_first : firstWrong [W24, "look x m10"] = 0 := by decide +kernel
theorem w25_first : firstWrong [W25, "look x m10"] = 1 := by decide +kernel
theorem w24_rows : cutRows (nums "m" 24) (rowsOf ["look x m10"]) = ([(("x" : Str), ([("m10" : Str)] : List Str))] : List (Str × List Str)) := by decide +kernel
theorem w_lines : ∀ z ∈ ([W24, W25, "look x m10"] : List Str), z.length ≤ 900 ∧ (∀ c ∈ TL.tl z, c < 128) ∧ 10 ∉ TL.tl z := by decide +kernel
end Dl

namespace Dl
open PySem PySem.Spec PyProof.Rows L2
structure TxtL5 (mg : Str → Option Value) : Prop where
  list : mg "list" = none
  len : mg "len" = none
  range : mg "range" = none
  str : mg "str" = none
  isinstance : mg "isinstance" = none
def spLaw5 (K : PySem.W.Frag) : Sp := fun vs H Q _ => ∃ (a : Addr) (ns : List Int), vs = [.ref a] ∧ SqL K H a (ns.map V.int) ∧ ns.length ≤ 63 ∧ ∀ H', Q (.bl true) H'
/-- a list of names, not the bag -/
structure Nms (H : Hp) (a b : Addr) (zs : List Str) (n : Nat) : Prop where
  nb : a ≠ b
  lst : H a = some (.lst (zs.map V.str))
  val : ∀ z ∈ zs, validN z = true
  few : zs.length ≤ n
theorem Nms.of {H H' : Hp} {a b : Addr} {zs : List Str} {n : Nat} (h : Nms H a b zs n) (s : SameB b H H') : Nms H' a b zs n := ⟨h.nb, s _ _ h.nb h.lst, h.val, h.few⟩
theorem sg_in : ∀ c ∈ SG.cps.toList, c < 128 ∧ c ≠ 10 ∧ c ≠ 32 := by decide +kernel
theorem two_in : ∀ z ∈ ([("lamps" : Str), "look"] : List Str), z.length ≤ 12 ∧ ∀ c ∈ TL.tl z, c < 128 ∧ c ≠ 10 ∧ c ≠ 32 := by decide +kernel
theorem val_in {z : Str} (h : validN z = true) : z.length ≤ 12 ∧ ∀ c ∈ TL.tl z, c < 128 ∧ c ≠ 10 ∧ c ≠ 32 := by
  refine ⟨valid_12 h, fun c hc => sg_in c ?_⟩
  unfold validN at h
  simp only [Bool.and_eq_true, decide_eq_true_eq] at h
  exact of_decide_eq_true (List.all_eq_true.mp h.2.2 c hc)
theorem sp_in : ∀ c ∈ TL.tl " ", c < 128 ∧ c ≠ 10 := by decide +kernel
theorem line_in {ws : List Str} (ne : ws ≠ []) (few : ws.length ≤ 26) (h : ∀ w ∈ ws, w.length ≤ 12 ∧ ∀ c ∈ TL.tl w, c < 128 ∧ c ≠ 10 ∧ c ≠ 32) : LineIn 400 12 (lineOf ws) := by
  refine ⟨line_len (fun z hz => (h z hz).1) few, fun c hc => ?_, fun w hw => ?_⟩
  · unfold lineOf at hc
    rw [TL.join_eq, TL.tl_join] at hc
    rcases joinL_mem hc with q | ⟨p, hp, q⟩
    · exact sp_in c q
    · obtain ⟨w, hw, rfl⟩ := List.mem_map.mp hp
      have := (h w hw).2 c q
      exact ⟨this.1, this.2.1⟩
  · have e : Txt.split (lineOf ws) " " = ws := TL.split_join sp_tl.1 sp_tl.2.2.1 ne fun w hw q => ((h w hw).2 32 q).2.2 rfl
    rw [e] at hw
    exact (h w hw).1
theorem lines_in {ls : List Str} {ts : List (Str × List Str)} (m : Short ls ts) (vl : ∀ z ∈ ls, validN z = true) (vk : ∀ x ∈ ts, validN x.1 = true) : ∀ z ∈ linesOf ls ts, LineIn 400 12 z := by
  intro z hz
  rcases List.mem_cons.mp hz with rfl | h
  · refine line_in (by simp [lampLine]) m.lampWords.2 fun w hw => ?_
    rcases List.mem_cons.mp hw with rfl | h
    · exact two_in _ (by simp)
    · exact val_in (vl w h)
  · obtain ⟨x, hx, rfl⟩ := List.mem_map.mp h
    refine line_in (by simp [lookLine]) (m.lookWords hx).2 fun w hw => ?_
    rcases List.mem_cons.mp hw with rfl | h
    · exact two_in _ (by simp)
    · rcases List.mem_cons.mp h with rfl | h
      · exact val_in (vk x hx)
      · exact val_in (vl w (m.sub x hx w h))
theorem LineIn.ok {n m : Nat} {z : Str} (h : LineIn n m z) (q : n ≤ 900) : LineOk z ∧ 10 ∉ TL.tl z := ⟨⟨Nat.le_trans h.few q, fun c hc => (h.asc c hc).1⟩, fun hc => (h.asc 10 hc).2 rfl⟩
theorem first_some {l : Str} {r : List Str} (h : firstWrong (l :: r) = 0) : ∃ ls, lineLamps l = some ls ∧ goRest ls [] r 2 = 0 := by
  cases e : lineLamps l with
  | none =>
    have h : (match lineLamps l with | none => 1 | some ls => goRest ls [] r 2) = 0 := h
    rw [e] at h
    cases h
  | some ls => exact ⟨ls, rfl, by rw [← first_lamps e]; exact h⟩
theorem empty_in : LineIn 0 0 "" := by
  have e : (("" : Str).length = 0) ∧ TL.tl "" = [] := by decide +kernel
  exact .self (by rw [e.1]; exact Nat.le_refl _) fun c hc => by rw [e.2] at hc; simp at hc
/-- what the first try's clause does -/
def suite5 (K : PySem.W.Frag) (CL CD : Addr) : Suite := fun a cls d => tSeq (tAsg (tXf a cls d CL "line" (tVar 10)) (gName 8)) (tIfS (tOr (tNot (tB (tQuiet spInt (tCons (tVar 8) tNil)))) (tNot (tB (tCB (rIsED K CL a cls d) (tCons (tVar 10) (tCons (tC (.ref CD)) tNil)))))) (tRet (tC (.bl false))) tNext)
def suite5b (CL : Addr) : Suite := fun a cls d => tAsg (tXf a cls d CL "line" (tVar 10)) (gName 8)
def rCat5 : R2 := fun x y H Q => ∃ i j, x = .str i ∧ y = .str j ∧ i.length + j.length ≤ sizeLine ∧ Q (.str (i ++ j)) H
theorem nms_len : ("m" : Str).length = 1 ∧ ("x" : Str).length = 1 ∧ ("\n" : Str).length = 1 ∧ ("lamps " : Str).length = 6 ∧ ("\nlook x m10" : Str).length = 11 := by decide +kernel
theorem shown_n5 : ¬ (("shown" : Str) = "lamps") ∧ ¬ (("shown" : Str) = "_shown") ∧ ¬ (("shown" : Str) = "looks") := by decide +kernel
theorem sh_m10 : SeqAt.shaped (.tuple [.str "m10"]) = true := by decide +kernel
theorem x_nm {H : Hp} : NmOk H (.str "x") := by show ("x" : Str).length ≤ _; rw [nms_len.2.1]; decide
section
variable {P : Program} {w : World} {K : PySem.W.Frag} {mg : Str → Option Value} {base : Heap} {C : Cs} {CT CL CD : Addr}
theorem scLaw5 : FnScope ["_law_script", "_law_bag_here", "_law_lamps", "_law_looks", "_law_lines_here", "_law_turn", "_law_due_here", "_law_text", "_law_got", "_law_table", "e", "_law_count", "_law_wide", "_law_k"] ["_law_script"] (defScope sLaw) := ⟨rfl, rfl, rfl, by decide +kernel, rfl, by decide +kernel, by decide +kernel⟩
theorem ok_law5 {f : Addr} {fd : FuncData} (F : Fun K "law" "law" sLaw f fd) (T : TxtL5 mg) (cl : Cls K CT) (nL : NoAttr K CT "lamps") (gTab : mg "Table" = some (.ref CT)) (gLine : mg "InvalidLine" = some (.ref CL)) (gD : mg "DimmerError" = some (.ref CD))
    (xfL : XfC K CL) (noL : PySem.W.findIn K (.ref CL) "line" = some none) (isL : IsE K CL) (te : PySem.W.exmOne K (.ref CL) (.ref CL) = some true) (kD : PySem.W.kitOne K (.ref CL) (.ref CD) = some true)
    (gRw : ∃ fR fdR, Meth K CT "rows" fR ∧ Binds K fdR ["self"] [] ∧ FnOk P w K mg base CX0 1 fR fdR ["self"] (spTRows K CT))
    (gSh : ∃ fR fdR, Meth K CT "shown" fR ∧ Binds K fdR ["self", "look"] [] ∧ FnOk P w K mg base (L2N.CX P w) 5 fR fdR ["self", "look"] (spTShown K CT C))
    (gRd : ∃ p f fd, SMet K CT "read" p f ∧ Binds K fd ["text"] [] ∧ FnOk P w K mg base (L2.CX P w) 13 f fd ["text"] (spReadX CT CL))
    (gB : Dfn P w K mg base CX0 1 "_law_bag" ["_law_script"] (spBag K)) (gT : Dfn P w K mg base CX0 1 "_law_take" ["_law_bag_here", "_law_size"] spTake)
    (gN : Dfn P w K mg base CX0 3 "_law_names" ["_law_bag_here", "_law_count"] spNames) (gF : Dfn P w K mg base CX0 2 "_law_free_rows" ["_law_bag_here", "_law_lamps", "_law_looks"] spRows3)
    (gLi : Dfn P w K mg base CX0 1 "_law_lines" ["_law_lamps", "_law_rows"] spLines) (gFi : Dfn P w K mg base CX0 4 "_law_first_wrong" ["_law_lines_here"] spFirst) (gSp : Dfn P w K mg base CX0 2 "_law_spoilt" ["_law_bag_here", "_law_lines_here"] spSpoilt)
    (gDR : Dfn P w K mg base CX0 1 "_law_due_rows" ["_law_lines_here"] (spDueRows K)) (gI : Dfn P w K mg base CX0 1 "_law_is_integer" ["_law_value"] spInt) (gQ : ∀ f, mg "_law_is_integer" = some (.ref f) → Quiet P w K mg base f spInt) :
    FnOk P w K mg base CX0 14 f fd ["_law_script"] (spLaw5 K) := by
  obtain ⟨fR, fdR, mR, bR, GR⟩ := gRw
  obtain ⟨fSh, fdSh, mSh, bSh, GSh⟩ := gSh
  obtain ⟨pRd, fRd, fdRd, sRd, bRd, GRd⟩ := gRd
  obtain ⟨fB, dB, mBag, kBag, bBag, GBag⟩ := gB
  obtain ⟨fT, dT, mTake, kTake, bTake, GTake⟩ := gT
  obtain ⟨fN, dN, mNames, kNames, bNames, GNames⟩ := gN
  obtain ⟨fFr, dFr, mFree, kFree, bFree, GFree⟩ := gF
  obtain ⟨fLi, dLi, mLines, kLines, bLines, GLines⟩ := gLi
  obtain ⟨fFi, dFi, mFirst, kFirst, bFirst, GFirst⟩ := gFi
  obtain ⟨fSp, dSp, mSpoilt, kSpoilt, bSpoilt, GSpoilt⟩ := gSp
  obtain ⟨fDR, dDR, mDueRows, kDueRows, bDueRows, GDueRows⟩ := gDR
  obtain ⟨fI, dI, mInt, kInt, bInt, GInt⟩ := gI
  have QInt := gQ fI mInt
  refine F.ok scLaw5 (fun vs H Q E h => ?_) (fun cdv A outer s H vs Q E hr h => ?_)
  · obtain ⟨a, ns, rfl, _⟩ := h
    rfl
  · obtain ⟨a0, ns, rfl, hS, hlen, k⟩ := h
    have hr13 : Room 13 _ := hr
    have hr5 : Room 5 _ := hr.mono (by decide)
    have hr4 : Room 4 _ := hr.mono (by decide)
    have hr3 : Room 3 _ := hr.mono (by decide)
    have hr2 : Room 2 _ := hr.mono (by decide)
    have hr1 : Room 1 _ := hr.mono (by decide)
    refine ⟨_, (pss_cons (ps_set (i := 1) scLaw5.nd rfl (Or.inl rfl) (pe_call GBag hr1 (by rfl) mBag kBag bBag .nil pass0 (pa_cons (pv 0) pa_nil)))
        (pss_cons (ps_set (i := 2) scLaw5.nd rfl (Or.inl rfl) (pe_call GNames hr3 (by rfl) mNames kNames bNames .nil pass0 (pa_cons (pv 1) (pa_cons (pe_call GTake hr1 (by rfl) mTake kTake bTake .nil pass0 (pa_cons (pv 1) (pa_cons pe_int pa_nil))) pa_nil))))
        (pss_cons (ps_set (i := 3) scLaw5.nd rfl (Or.inl rfl) (pe_call GNames hr3 (by rfl) mNames kNames bNames .nil pass0 (pa_cons (pv 1) (pa_cons (pe_call GTake hr1 (by rfl) mTake kTake bTake .nil pass0 (pa_cons (pv 1) (pa_cons pe_int pa_nil))) pa_nil))))
        (C8.pss_cut (ps_if (pt_cmpR op_eq (pe_call GTake hr1 (by rfl) mTake kTake bTake .nil pass0 (pa_cons (pv 1) (pa_cons pe_int pa_nil))) pe_int (nomark _)) (pss_cons (ps_setLc (i := 3) (own := [("_law_k", 13)]) (g := gName 13) (tt := tYes) rfl scLaw5.nd rfl rfl (sw_true rfl rfl rfl (by decide +kernel)) (pi_range1 (by rfl) T.range (pa_cons (pe_op op_add pe_int (pe_call GTake hr1 (by rfl) mTake kTake bTake .nil pass0 (pa_cons (pv 1) (pa_cons pe_int pa_nil)))) pa_nil)) (blkOk_by (N := ["_law_script", "_law_bag_here", "_law_lamps", "_law_looks", "_law_lines_here", "_law_turn", "_law_due_here", "_law_text", "_law_got", "_law_table", "e", "_law_count", "_law_wide", "_law_k"]) (sc := defScope sLaw) (by decide +kernel)) (fun _ _ _ _ _ => (pg_name (i := 13) scLaw5.nd rfl (Or.inl rfl))) (fun _ _ _ _ _ => pts_nil) (fun _ _ _ _ _ => (pe_op op_add_str pe_str (pe_callTy call_str_int (by rfl) T.str (by decide +kernel) (pa_cons (pe_op op_add pe_int (pv 13)) pa_nil)))))
        (pss_one (ps_set (i := 2) scLaw5.nd rfl (Or.inl rfl) (pe_slice sl_list (pv 2) po_none (po_some pe_int))))) pss_nil)
        (pss_cons (ps_set (i := 4) scLaw5.nd rfl (Or.inl rfl) (pe_call GLines hr1 (by rfl) mLines kLines bLines .nil pass0 (pa_cons (pv 2) (pa_cons (pe_call GFree hr2 (by rfl) mFree kFree bFree .nil pass0 (pa_cons (pv 1) (pa_cons (pv 2) (pa_cons (pv 3) pa_nil)))) pa_nil))))
        (pss_cons (ps_for PassesOwn.never rfl (pi_range1 (by rfl) T.range (pa_cons (pe_call GTake hr1 (by rfl) mTake kTake bTake .nil pass0 (pa_cons (pv 1) (pa_cons pe_int pa_nil))) pa_nil)) (pg_name (i := 5) scLaw5.nd rfl (Or.inl rfl)) (pss_one (ps_set (i := 4) scLaw5.nd rfl (Or.inl rfl) (pe_call GSpoilt hr2 (by rfl) mSpoilt kSpoilt bSpoilt .nil pass0 (pa_cons (pv 1) (pa_cons (pv 4) pa_nil))))))
        (C8.pss_cut (ps_if (pt_cmpR op_eq (pe_call GTake hr1 (by rfl) mTake kTake bTake .nil pass0 (pa_cons (pv 1) (pa_cons pe_int pa_nil))) pe_int (nomark _)) (pss_one (ps_set (i := 4) scLaw5.nd rfl (Or.inl rfl) (pe_op op_cat (pv 4) (pe_lst (pa_cons pe_str pa_nil))))) pss_nil)
        (pss_cons (ps_set (i := 6) scLaw5.nd rfl (Or.inl rfl) (pe_call GFirst hr4 (by rfl) mFirst kFirst bFirst .nil pass0 (pa_cons (pv 4) pa_nil)))
        (pss_cons (ps_set (i := 7) scLaw5.nd rfl (Or.inl rfl) (pe_bm PySem.F.plainAttrs_str PySem.F.slot_str_join PySem.F.type_str_join mt_join pe_str (pa_cons (pv 4) pa_nil)))
        (pss_cons (ps_for PassesOwn.never rfl (pi_range1 (by rfl) T.range (pa_cons pe_int pa_nil)) (pg_name (i := 5) scLaw5.nd rfl (Or.inl rfl)) (pss_cons (ps_set (i := 8) scLaw5.nd rfl (Or.inl rfl) pe_int)
        (pss_cons (ps_try_all (i := 10) (l := [(.ref CL, suite5 K CL CD)]) (tb := fun W => tAsg (tStatS CT (spReadX CT CL) (WE W) (tC (.ref CT)) (tCons (tVar 7) tNil)) (gName 9)) (out := fun _ _ _ _ => False) rfl rfl scLaw5.nd rfl rfl takes0
          (fun W pn xe tk _ => pss_one (ps_set (i := 9) scLaw5.nd rfl (Or.inl rfl) (by exact (pe_staticS (pe_glob (v := .ref CT) (by rfl) gTab rfl) sRd GRd hr13 bRd (fun σ => passAt tk σ) (by exact (pa_cons (pv 7) pa_nil))))))
          (.more ⟨rfl, by decide, Or.inl gLine⟩ (fun a oe cls d pn hz hf => pss_cons (ps_set (i := 8) scLaw5.nd rfl (Or.inl rfl) (pe_xf xfL noL hz hf (pv 10))) (pss_one (ps_if (PW.pt (pw_or (pt_not (pt_val (pe_quiet QInt (L2H.roomH_mark hr1 _) (by rfl) mInt kInt (pa_cons (pv 8) pa_nil)))) (pw_or1 (pt_not (pt_val (pe_callB (call_isED isL hz hf) (by rfl) T.isinstance (by decide +kernel) (pa_cons (pv 10) (pa_cons (pe_glob (v := .ref CD) (by rfl) gD rfl) pa_nil)))))))) (pss_one (ps_ret pe_bl)) pss_nil))) .done))
        (pss_cons (ps_if (pt_cmpR op_ne (pv 8) (pv 6) (nomark _)) (pss_one (ps_ret pe_bl)) pss_nil)
        (pss_cons (ps_if (PW.pt (pw_and (pt_cmpR op_eq (pv 6) pe_int (nomark _)) (pw_and1 (pt_cmpR (op_neD hr.units) (pe_callTy call_list_of (by rfl) T.list (by decide +kernel) (pa_cons (pe_fld (pv 9) rfl) pa_nil)) (pe_slice sl_list (pe_bm PySem.F.plainAttrs_str PySem.F.slot_str_split PySem.F.type_str_split mt_split (pe_ix ix_list (pv 4) pe_int (fun _ _ => rfl)) (pa_cons pe_str pa_nil)) (po_some pe_int) po_none) (nomark _))))) (pss_one (ps_ret pe_bl)) pss_nil)
        (pss_one (ps_if (PW.pt (pw_and (pt_cmpR op_eq (pv 6) pe_int (nomark _)) (pw_and1 (pt_cmpR (op_neD hr.units) (pe_meth0 (pv 9) cl mR GR hr1 bR .nil pass0) (pe_call GDueRows hr1 (by rfl) mDueRows kDueRows bDueRows .nil pass0 (pa_cons (pv 4) pa_nil)) (nomark _))))) (pss_one (ps_ret pe_bl)) pss_nil)))))))
        (pss_cons (ps_set (i := 11) scLaw5.nd rfl (Or.inl rfl) (pe_op op_add pe_int (pe_call GTake hr1 (by rfl) mTake kTake bTake .nil pass0 (pa_cons (pv 1) (pa_cons pe_int pa_nil)))))
        (pss_cons (ps_set (i := 12) scLaw5.nd rfl (Or.inl rfl) (pe_op op_add_str pe_str (pe_bm PySem.F.plainAttrs_str PySem.F.slot_str_join PySem.F.type_str_join mt_join pe_str (pa_cons (pe_lc (own := [("_law_k", 13)]) (g := gName 13) (tt := tYes) rfl scLaw5.nd (pi_range1 (by rfl) T.range (pa_cons (pv 11) pa_nil)) (blkOk_by (N := ["_law_script", "_law_bag_here", "_law_lamps", "_law_looks", "_law_lines_here", "_law_turn", "_law_due_here", "_law_text", "_law_got", "_law_table", "e", "_law_count", "_law_wide", "_law_k"]) (sc := defScope sLaw) (by decide +kernel)) (fun _ _ _ _ _ => (pg_name (i := 13) scLaw5.nd rfl (Or.inl rfl))) (fun _ _ _ _ _ => pts_nil) (fun _ _ _ _ _ => (pe_op op_add_str pe_str (pe_callTy call_str_int (by rfl) T.str (by decide +kernel) (pa_cons (pe_op op_add pe_int (pv 13)) pa_nil))))) pa_nil))))
        (pss_cons (ps_set (i := 8) scLaw5.nd rfl (Or.inl rfl) pe_int)
        (pss_cons (ps_try_all (i := 10) (l := [(.ref CL, suite5b CL)]) (tb := fun W => tAsg (tStatS CT (spReadX CT CL) (WE W) (tC (.ref CT)) (tCons (tOp rCat5 (tVar 12) (tC (.str "\nlook x m10"))) tNil)) (gName 9)) (out := fun _ _ _ _ => False) rfl rfl scLaw5.nd rfl rfl takes0
          (fun W pn xe tk _ => pss_one (ps_set (i := 9) scLaw5.nd rfl (Or.inl rfl) (by exact (pe_staticS (pe_glob (v := .ref CT) (by rfl) gTab rfl) sRd GRd hr13 bRd (fun σ => passAt tk σ) (by exact (pa_cons (pe_op (by exact op_add_str : OpR _ _ rCat5) (pv 12) pe_str) pa_nil))))))
          (.more ⟨rfl, by decide, Or.inl gLine⟩ (fun a oe cls d pn hz hf => pss_one (ps_set (i := 8) scLaw5.nd rfl (Or.inl rfl) (pe_xf xfL noL hz hf (pv 10)))) .done))
        (pss_cons (ps_if (pt_cmpR op_gt (pv 11) pe_int (nomark _)) (pss_one (ps_ret (pe_and (pe_call GInt hr1 (by rfl) mInt kInt bInt .nil pass0 (pa_cons (pv 8) pa_nil)) (pe_one (pe_cmpR op_eq (pv 8) pe_int (nomark _)))))) pss_nil)
        (pss_one (ps_ret (pe_and (pe_cmpR op_eq (pv 8) pe_int (nomark _)) (pe_and (pe_cmpR op_eq (pe_callB call_len_seq (by rfl) T.len PySem.boot_len (pa_cons (pe_fld (pv 9) rfl) pa_nil)) pe_int (nomark _)) (pe_one (pe_cmpR (op_eqD hr.units) (pe_meth (pv 9) cl mSh GSh hr5 bSh .nil passLN (pa_cons pe_str pa_nil)) (pe_tup (pa_cons pe_str pa_nil)) (nomark _)))))))))))))))))))))), ?_⟩
    refine ⟨_, rfl, a0, ns, rfl, hS, hlen, fun H1 b L s1 hb0 hL hok => ?_⟩
    refine ⟨_, rfl, _, rfl, b, L, 5, rfl, hL, hok, by decide, by decide, fun L1 n ok1 n0 n1 => ⟨b, L1, n, rfl, upd_same, ok1, n0, by omega, fun H2 a L2 ls s2 hna ha hb2 ok2 okl hl => ?_⟩⟩
    have nab : a ≠ b := fun e => by rw [e, upd_same] at hna; cases hna
    refine ⟨_, rfl, _, rfl, b, L2, 6, rfl, hb2, ok2, by decide, by decide, fun L3 m ok3 m0 m1 => ⟨b, L3, m, rfl, upd_same, ok3, m0, by omega, fun H3 c L4 ks s3 hnc hc hb3 ok4 okk hk => ?_⟩⟩
    have ncb : c ≠ b := fun e => by rw [e, upd_same] at hnc; cases hnc
    have ha3 := s3 _ _ nab (draw_same _ _ nab ha)
    have LA : Nms H3 a b ls 24 := ⟨nab, ha3, fun z h => okl.valid h, okl.few⟩
    have LK : Nms H3 c b ks 26 := ⟨ncb, hc, fun z h => okk.valid h, by have := okk.few; omega⟩
    clear ha3 hc ncb hnc s3 ha nab hna s2 hb2 ok3 ok2 ok1
    -- or many looks
    refine ⟨fun σ H' => ∃ (a c : Addr) (ls ks : List Str) (L : List Int), σ = [some (.ref a0), some (.ref b), some (.ref a), some (.ref c), none, none, none, none, none, none, none, none, none, none] ∧ H' b = some (.lst (L.map V.int)) ∧ BagOk L ∧ Nms H' a b ls 24 ∧ Nms H' c b ks 26, ?_, ?_⟩
    · refine ⟨_, rfl, b, L4, 9, rfl, hb3, ok4, by decide, by decide, fun L5 t ok5 t0 t1 => ⟨rfl, _, rfl, ?_⟩⟩
      have LA5 := LA.of (draw_same (L := L5))
      have LK5 := LK.of (draw_same (L := L5))
      have hb5 := upd_same (H := H3) (a := b) (o := .lst (L5.map V.int))
      generalize upd H3 b (.lst (L5.map V.int)) = H5 at *
      by_cases ht : t = 1
      case neg =>
        refine iteZ (int_nd ht) ?_
        exact ⟨a, c, ls, ks, L5, rfl, hb5, ok5, LA5, LK5⟩
      refine iteY (by rw [ht]; exact int_yd) ?_
      refine ⟨_, rfl, b, L5, 3, rfl, hb5, ok5, by decide, by decide, fun L6 q ok6 q0 q1 => ?_⟩
      have LA6 := LA5.of (draw_same (L := L6))
      have hb6 := upd_same (H := H5) (a := b) (o := .lst (L6.map V.int))
      generalize upd H5 b (.lst (L6.map V.int)) = H6 at *
      have qn : (23 + q).toNat ≤ 25 := by omega
      refine ⟨_, _, rfl, rfl, _, rfl, by omega, by omega, fun D hD => lc_range (lo := 0) (n := (23 + q).toNat) (fun j H' => H' = upd H6 D (.lst ((nums "x" j).map V.str))) rfl ?_ ?_⟩
      · rintro j H7 hj rfl
        obtain ⟨sh, lg, _, _⟩ := num5 j (by omega)
        refine ⟨rfl, _, rfl, _, _, rfl, rfl, _, rfl, lg, _, _, rfl, rfl, by rw [nms_len.2.1, sizeLine_eq]; omega, _, upd_same, by unfold nums; rw [List.length_map, List.length_map, List.length_range]; exact small1000 (by omega), ?_⟩
        rw [upd_upd, nums_step, List.map_append]
        rfl
      rintro H7 rfl
      have nDb : D ≠ b := fun e => by rw [e, hb6] at hD; cases hD
      have t7 := Same.upd_new hD (o := .lst ((nums "x" (23 + q).toNat).map V.str))
      have hD7 := upd_same (H := H6) (a := D) (o := .lst ((nums "x" (23 + q).toNat).map V.str))
      have LA7 := LA6.of (SameB.of t7)
      have hb7 := t7 _ _ hb6
      generalize upd H6 D (.lst ((nums "x" (23 + q).toNat).map V.str)) = H7 at *
      refine ⟨_, rfl, 1, rfl, a, _, rfl, SqL.of LA7.lst, fun p hp => ?_⟩
      have cut : cutV (ls.map V.str) none (some 1) = (ls.take 1).map V.str := by rw [show (1 : Int) = ((1 : Nat) : Int) from rfl, cut_take, List.map_take]
      rw [cut]
      have t8 := Same.upd_new hp (o := .lst ((ls.take 1).map V.str))
      refine ⟨p, D, ls.take 1, nums "x" (23 + q).toNat, L6, rfl, t8 _ _ hb7, ok6, ⟨fun e => (by rw [e, hb7] at hp; cases hp), upd_same, fun z hz => LA7.val z (List.mem_of_mem_take hz), by rw [List.length_take]; omega⟩, ⟨nDb, t8 _ _ hD7, fun z hz => ?_, by unfold nums; rw [List.length_map, List.length_range]; omega⟩⟩
      obtain ⟨i, hi, rfl⟩ := nums_of hz
      exact (num5 i (by omega)).2.2.1
    clear LA LK hb3 ok4
    rintro σ H3 ⟨a, c, ls, ks, L3, rfl, hb3, ok3, LA, LK⟩
    -- the lines
    refine ⟨_, rfl, _, rfl, _, rfl, _, rfl, b, a, c, ls, ks, rfl, ⟨L3, hb3, ok3⟩, LA.nb, LK.nb, LA.lst, LK.lst, LA.few, LK.few, fun H4 R rows s4 hb4 hR => ?_⟩
    have LA4 := LA.of s4
    obtain ⟨rs, hdat, hks, hsub⟩ := rows_rs' hR.all hR.looks
    have vk : ∀ x ∈ rs, validN x.1 = true := fun x hx => LK.val _ (by rw [← hks]; exact List.mem_map_of_mem hx)
    have sh : Short ls rs := ⟨fun z hz => valid_12 (LA.val z hz), LA.few, fun x hx => valid_12 (vk x hx), by rw [← List.length_map (f := fun x : Str × List Str => x.1), hks]; exact LK.few, fun x hx z hz => (hsub x hx).subset hz, fun x hx => Nat.le_trans (hsub x hx).length_le LA.few⟩
    refine ⟨a, R, ls, rs, rows, rfl, LA4.lst, hR.lst, fun r hr => (hR.all r hr).g, hdat, sh, fun H5 D s5 hD0 hD => ?_⟩
    have lin := lines_in sh LA.val vk
    have l1 : 1 ≤ (linesOf ls rs).length := by unfold linesOf; simp
    have l27 : (linesOf ls rs).length ≤ 27 := by unfold linesOf; rw [List.length_cons, List.length_map]; have := sh.kfew; omega
    have hb5 := hb4.of s5
    have nDb : D ≠ b := fun e => by obtain ⟨x, hx⟩ := hb4.lst; rw [e, hx] at hD0; cases hD0
    generalize linesOf ls rs = xs at *
    clear sh vk hsub hks hdat hR LA4 LA LK s4 s5 hb4 hb3 hD0
    -- spoilt
    obtain ⟨L5, hb5, ok5⟩ := hb5
    refine ⟨_, rfl, b, L5, 3, rfl, hb5, ok5, by decide, by decide, fun L6 t ok6 t0 t1 => ?_⟩
    have hD6 := draw_same (b := b) (L := L6) _ _ nDb hD
    have hb6 := upd_same (H := H5) (a := b) (o := .lst (L6.map V.int))
    generalize upd H5 b (.lst (L6.map V.int)) = H6 at *
    refine ⟨_, rfl, by omega, by omega, for_range (n := t.toNat) (lo := 0) (fun i σ H' => ∃ (D : Addr) (xs : List Str) (x5 : Option V) (n m : Nat), σ = [some (.ref a0), some (.ref b), some (.ref a), some (.ref c), some (.ref D), x5, none, none, none, none, none, none, none, none] ∧ BagIn H' b ∧ D ≠ b ∧ H' D = some (.lst (xs.map V.str)) ∧ 1 ≤ xs.length ∧ xs.length ≤ 27 + i ∧ (∀ z ∈ xs, LineIn n m z) ∧ ((i = 0 ∧ n = 400 ∧ m = 12) ∨ (i = 1 ∧ n = 423 ∧ m = 423) ∨ (i = 2 ∧ n = 857 ∧ m = 857)))
      ⟨D, xs, none, 400, 12, rfl, ⟨L6, hb6, ok6⟩, nDb, hD6, l1, l27, lin, .inl ⟨rfl, rfl, rfl⟩⟩ ?_ ?_⟩
    · rintro i σ H7 hi ⟨D, xs, x5, n, m, rfl, hb7, nDb, hD7, l1, l2, lin, nm⟩
      have i2 : i < 2 := by omega
      refine ⟨_, rfl, _, rfl, b, D, xs, n, m, rfl, hb7, nDb, hD7, l1, by omega, lin, by omega, fun H8 D8 ys s8 hb8 nD8 hD8 y1 y2 lin8 => ?_⟩
      exact ⟨D8, ys, _, _, _, rfl, hb8, nD8, hD8, y1, by omega, lin8, by omega⟩
    clear hb6 hD6 hD l1 l27 lin nDb
    rintro σ H7 ⟨D, xs, x5, n, m, rfl, hb7, nDb, hD7, l1, l27, lin, nm⟩
    have n857 : n ≤ 857 := by omega
    have lin : ∀ z ∈ xs, LineIn 857 857 z := fun z hz => by
      have q := lin z hz
      rcases nm with ⟨_, rfl, rfl⟩ | ⟨_, rfl, rfl⟩ | ⟨_, rfl, rfl⟩
      · exact q.mono (by decide)
      · exact q.mono (by decide)
      · exact q
    have l29 : xs.length ≤ 29 := by omega
    obtain ⟨L7, hb7, ok7⟩ := hb7
    -- a newline at the end
    refine ⟨fun σ H' => ∃ (D : Addr) (xs : List Str), σ = [some (.ref a0), some (.ref b), some (.ref a), some (.ref c), some (.ref D), x5, none, none, none, none, none, none, none, none] ∧ BagIn H' b ∧ H' D = some (.lst (xs.map V.str)) ∧ 1 ≤ xs.length ∧ xs.length ≤ 30 ∧ (∀ z ∈ xs, LineIn 857 857 z), ?_, ?_⟩
    · refine ⟨_, rfl, b, L7, 8, rfl, hb7, ok7, by decide, by decide, fun L8 u ok8 u0 u1 => ⟨rfl, _, rfl, ?_⟩⟩
      have hD8 := draw_same (b := b) (L := L8) _ _ nDb hD7
      have hb8 := upd_same (H := H7) (a := b) (o := .lst (L8.map V.int))
      generalize upd H7 b (.lst (L8.map V.int)) = H8 at *
      by_cases hu : u = 1
      case neg =>
        refine iteZ (int_nd hu) ?_
        exact ⟨D, xs, rfl, ⟨L8, hb8, ok8⟩, hD8, l1, by omega, lin⟩
      refine iteY (by rw [hu]; exact int_yd) ?_
      refine ⟨_, rfl, by show 1 ≤ sizeLine; decide, fun p1 hp1 => ?_⟩
      have t1 := Same.upd_new hp1 (o := .lst [.str ""])
      refine ⟨D, p1, _, _, rfl, rfl, t1 _ _ hD8, upd_same, by rw [List.length_map, sizeLine_eq]; simp only [List.length_cons, List.length_nil]; omega, fun p2 hp2 => ?_⟩
      have t2 := t1.trans (Same.upd_new hp2 (o := .lst (xs.map V.str ++ [.str ""])))
      refine ⟨p2, xs ++ [("" : Str)], rfl, ⟨L8, t2 _ _ hb8, ok8⟩, by rw [upd_same, List.map_append]; rfl, by rw [List.length_append]; omega, by rw [List.length_append]; simp only [List.length_cons, List.length_nil]; omega, fun z hz => ?_⟩
      rcases List.mem_append.mp hz with h | h
      · exact lin z h
      · obtain rfl := List.mem_singleton.mp h
        exact empty_in.mono (by decide)
    clear lin nm l27 l29 l1 hD7 nDb hb7
    rintro σ H7 ⟨D, xs, rfl, hb7, hD7, l1, l30, lin⟩
    obtain ⟨l, r, rfl⟩ : ∃ l r, xs = l :: r := by
      cases xs with
      | nil => simp at l1
      | cons l r => exact ⟨l, r, rfl⟩
    have lok : ∀ z ∈ l :: r, LineOk z ∧ 10 ∉ TL.tl z := fun z hz => (lin z hz).ok (by decide)
    have r30 : r.length ≤ 60 := by simp only [List.length_cons] at l30; omega
    refine ⟨_, rfl, D, l, r, rfl, hD7, fun z hz => (lok z hz).1, r30, fun H8 s8 => ?_⟩
    have hD8 := s8 _ _ hD7
    have room : ((l :: r).map (·.length)).sum + (l :: r).length * ("\n" : Str).length ≤ 16777216 := by
      have q := sum_le (n := 857) (ws := l :: r) fun z hz => (lin z hz).few
      have : (l :: r).length * 857 ≤ 30 * 857 := Nat.mul_le_mul_right _ l30
      rw [nms_len.2.2.1]
      omega
    refine ⟨rfl, _, rfl, _, D, l :: r, rfl, rfl, .inl (SqL.of hD8), room, ?_⟩
    have hb8 := hb7.of s8
    clear hb7 hD7 s8
    -- read twice
    refine ⟨_, rfl, by decide, by decide, for_range (n := (2 : Int).toNat) (lo := 0) (fun i σ H' => ∃ (x5 x8 x9 : Option V), σ = [some (.ref a0), some (.ref b), some (.ref a), some (.ref c), some (.ref D), x5, some (.int (firstWrong (l :: r) : Nat)), some (.str (Txt.join "\n" (l :: r))), x8, x9, none, none, none, none] ∧ Same H8 H')
      ⟨_, _, _, rfl, Same.refl _⟩ ?_ ?_⟩
    · rintro i σ H9 hi ⟨x5, x8, x9, rfl, s9⟩
      have hD9 := s9 _ _ hD8
      refine ⟨rfl, _, rfl, l, r, rfl, lok, r30, fun fw ls lam H10 p s10 np hT ok => ?_, fun ne => ?_⟩
      · have s910 := s9.trans s10
        have hD10 := s10 _ _ hD9
        have g0 : goRest ls [] r 2 = 0 := by rw [← first_lamps lam]; exact fw
        have looks := rest_zero g0 (by decide)
        rw [fw]
        have hT2 := hT
        obtain ⟨dx, lt, sd, kt, kvs, hp, hlt, _⟩ := hT2
        refine ⟨_, rfl, _, rfl, rfl, _, rfl, iteZ (by decide) ?_⟩
        refine ⟨_, rfl, rfl, _, rfl, iteY (by decide) ?_⟩
        refine ⟨_, rfl, p, CT, dx, _, _, rfl, hp, cl, nL, pf3_lamps _ _ _, lt, _, rfl, .inr (SqT.of hlt), fun l1 hl1 => ?_⟩
        have t1 := Same.upd_new hl1 (o := .lst (ls.map V.str))
        have g1 := upd_same (H := H10) (a := l1) (o := .lst (ls.map V.str))
        have l0 := (lok l (List.mem_cons_self ..)).1
        have at0 : atI ((l :: r).map V.str) 0 = some (V.str l) := atI_nat (xs := (l :: r).map V.str) (j := 0) (v := .str l) rfl
        refine ⟨_, rfl, D, _, 0, .str l, rfl, rfl, SqL.of (t1 _ _ hD10), at0, rfl, _, _, rfl, rfl, sp_tl.2.2.2.2.1, l0.room, fun p1 hp1 => ?_⟩
        rw [lampw5 lam]
        have t2 := Same.upd_new hp1 (o := .lst ((("lamps" : Str) :: ls).map V.str))
        refine ⟨1, rfl, p1, _, rfl, SqL.of upd_same, fun p2 hp2 => ?_⟩
        have cut : cutV ((("lamps" : Str) :: ls : List Str).map V.str) (some 1) none = ls.map V.str := (cut_drop _ 1).trans rfl
        rw [cut]
        have t3 := Same.upd_new hp2 (o := .lst (ls.map V.str))
        have g3 := upd_same (H := upd (upd H10 l1 (.lst (ls.map V.str))) p1 (.lst ((("lamps" : Str) :: ls).map V.str))) (a := p2) (o := .lst (ls.map V.str))
        have g13 := t3 _ _ (t2 _ _ g1)
        have t13 := t1.trans (t2.trans t3)
        generalize upd (upd (upd H10 l1 (.lst (ls.map V.str))) p1 (.lst ((("lamps" : Str) :: ls).map V.str))) p2 (.lst (ls.map V.str)) = H11 at *
        have sh := shaped_strs fun z hz => valid_can (ok.lval z hz)
        refine ⟨.list (ls.map PyData.str), .list (ls.map PyData.str), .lst (SqL.of g13) (dpAll_strs ls), .lst (SqL.of g3) (dpAll_strs ls), sh, sh, _, rfl, iteZ (by rw [eqv_same sh]; rfl) ?_⟩
        refine ⟨_, rfl, rfl, _, rfl, iteY (by decide) ?_⟩
        refine ⟨_, rfl, p, dx, _, rfl, t13 _ _ hp, pf3_no _ _ _ rows_nm.1 rows_nm.2.1 rows_nm.2.2, p, ls, _, rfl, hT.of t13, ok, fun H12 l2 rw1 s12 _ hl2 hrt1 hd1 => ?_⟩
        have s112 := s910.trans (t13.trans s12)
        refine ⟨_, rfl, D, l, r, ls, rfl, s12 _ _ (t13 _ _ hD10), fun z hz => (lok z hz).1, r30, lam, looks, fun H13 D3 rw3 s13 _ hD3 hrt3 hd3 => ?_⟩
        have sh2 := rows_shaped ok
        refine ⟨.list ((cutRows ls (rowsOf r)).map dataT), .list ((cutRows ls (rowsOf r)).map dataT), .lst (SqL.of (s13 _ _ hl2)) (dp_rowsT (fun r hr => (hrt1 r hr).of s13) hd1), .lst (SqL.of hD3) (dp_rowsT hrt3 hd3), sh2, sh2, _, rfl, iteZ (by rw [eqv_same sh2]; rfl) ?_⟩
        exact ⟨_, _, _, rfl, s112.trans s13⟩
      · intro d H10 s10 nd hd
        refine ⟨true, te, fun _ a1 na => ?_, fun q => Bool.noConfusion q⟩
        refine ⟨_, rfl, rfl, rfl, d, _, _, rfl, hd, rfl, ?_⟩
        refine ⟨_, rfl, _, rfl, true, rfl, iteZ rfl ?_⟩
        refine ⟨_, rfl, .ref CD, .ref CD, true, d, _, rfl, fun u r => r, rfl, rfl, hd, kD, true, rfl, iteZ rfl ?_⟩
        refine ⟨_, rfl, _, rfl, rfl, _, rfl, iteZ (by simp) ?_⟩
        have nz : decide (V.int (firstWrong (l :: r) : Nat) = V.int 0) = false := int_nd (by omega)
        refine ⟨_, rfl, rfl, _, rfl, ?_⟩
        rw [nz]
        refine iteF ⟨_, rfl, rfl, _, rfl, ?_⟩
        rw [nz]
        exact iteF ⟨_, _, _, rfl, s9.trans s10⟩
    rintro σ H9 ⟨x5, x8, x9, rfl, s9⟩
    obtain ⟨L9, hb9, ok9⟩ := hb8.of s9
    clear s9 hb8 hD8 room lok lin l30 r30 l1
    -- many lamps
    refine ⟨_, rfl, b, L9, 2, rfl, hb9, ok9, by decide, by decide, fun L10 q ok10 q0 q1 => ⟨_, _, rfl, rfl, ?_⟩⟩
    generalize upd H9 b (.lst (L10.map V.int)) = H10
    refine ⟨rfl, _, rfl, _, rfl, by omega, by omega, fun D2 hD2 => lc_range (lo := 0) (n := (24 + q).toNat) (fun j H' => H' = upd H10 D2 (.lst ((nums "m" j).map V.str))) rfl ?_ ?_⟩
    · rintro j H11 hj rfl
      obtain ⟨sh, lg, _, _⟩ := num5 j (by omega)
      refine ⟨rfl, _, rfl, _, _, rfl, rfl, _, rfl, lg, _, _, rfl, rfl, by rw [nms_len.1, sizeLine_eq]; omega, _, upd_same, by unfold nums; rw [List.length_map, List.length_map, List.length_range]; exact small1000 (by omega), ?_⟩
      rw [upd_upd, nums_step, List.map_append]
      rfl
    rintro H11 rfl
    have nl : ∀ z ∈ nums "m" (24 + q).toNat, z.length ≤ 12 := fun z hz => by
      obtain ⟨i, hi, rfl⟩ := nums_of hz
      exact valid_12 (num5 i (by omega)).2.2.2
    have nc : (nums "m" (24 + q).toNat).length ≤ 25 := by unfold nums; rw [List.length_map, List.length_range]; omega
    have jl := join_len " " (nums "m" (24 + q).toNat)
    have js := sum_le nl
    have jm : (nums "m" (24 + q).toNat).length * 12 ≤ 25 * 12 := Nat.mul_le_mul_right _ nc
    have one : (" " : Str).length = 1 := by decide +kernel
    rw [one, Nat.mul_one] at jl
    rw [← TL.join_eq] at jl
    refine ⟨_, D2, _, rfl, rfl, .inl (SqL.of upd_same), by rw [one]; omega, _, _, rfl, rfl, by rw [nms_len.2.2.2.1, sizeLine_eq]; omega, ?_⟩
    generalize upd H10 D2 (.lst ((nums "m" (24 + q).toNat).map V.str)) = H11
    have cases : q = 0 ∨ q = 1 := by omega
    have wl : ∀ z ∈ ([W24, W25, "look x m10"] : List Str), LineOk z ∧ 10 ∉ TL.tl z := fun z hz => ⟨⟨(w_lines z hz).1, (w_lines z hz).2.1⟩, (w_lines z hz).2.2⟩
    rcases cases with rfl | rfl
    · have e24 : ("lamps " : Str) ++ Txt.join " " (nums "m" (24 + (0 : Int)).toNat) = W24 := rfl
      rw [e24]
      have ltx : W24.length + ("\nlook x m10" : Str).length ≤ sizeLine := by
        have := (wl W24 (by simp)).1.few
        rw [nms_len.2.2.2.2, sizeLine_eq]; omega
      refine ⟨rfl, _, rfl, _, _, rfl, rfl, ltx, W24, ["look x m10"], by rw [w24_text], fun z hz => wl z (by
        rcases List.mem_cons.mp hz with rfl | hz
        · simp
        · simp at hz; rw [hz]; simp), by decide, fun fw ls lam H12 p s12 np hT ok => ?_, fun ne => absurd w24_first ne⟩
      rw [w24_lamps] at lam
      cases lam
      rw [w24_rows] at hT ok
      have hT2 := hT
      obtain ⟨dx, lt, sd, kt, kvs, hp, hlt, _⟩ := hT2
      refine ⟨_, rfl, _, _, rfl, rfl, _, rfl, iteZ (by decide) ?_⟩
      refine ⟨_, rfl, rfl, true, by decide, iteT ?_⟩
      refine ⟨_, rfl, p, CT, dx, _, _, rfl, hp, cl, nL, pf3_lamps _ _ _, lt, _, rfl, .inr (SqT.of hlt), rfl, true, by decide +kernel, iteT ?_⟩
      refine ⟨_, rfl, p, dx, _, rfl, hp, pf3_no _ _ _ shown_n5.1 shown_n5.2.1 shown_n5.2.2, p, .str "x", nums "m" 24, _, rfl, hT, ok, x_nm, fun y hy e ad had => ?_, fun kn => ?_⟩
      · obtain rfl : y = (("x" : Str), ([("m10" : Str)] : List Str)) := by simpa using hy
        refine ⟨by show 1 ≤ sizeLine; decide, fun tp htp => ?_⟩
        have t1 := Same.upd_new htp (o := .tup [.str "m10"])
        refine ⟨.tuple [.str "m10"], .tuple [.str "m10"], .tup (SqT.of (t1 _ _ had)) (.cons (.str _) .nil), .tup (SqT.of upd_same) (.cons (.str _) .nil), sh_m10, sh_m10, ?_⟩
        rw [eqv_same sh_m10]
        exact k _
      · exact absurd kn (by decide +kernel)
    · have e25 : ("lamps " : Str) ++ Txt.join " " (nums "m" (24 + (1 : Int)).toNat) = W25 := rfl
      rw [e25]
      have ltx : W25.length + ("\nlook x m10" : Str).length ≤ sizeLine := by
        have := (wl W25 (by simp)).1.few
        rw [nms_len.2.2.2.2, sizeLine_eq]; omega
      refine ⟨rfl, _, rfl, _, _, rfl, rfl, ltx, W25, ["look x m10"], by rw [w25_text], fun z hz => wl z (by
        rcases List.mem_cons.mp hz with rfl | hz
        · simp
        · simp at hz; rw [hz]; simp), by decide, fun fw => ?_, fun _ => ?_⟩
      · rw [w25_first] at fw
        cases fw
      · intro d H12 s12 nd hd
        refine ⟨true, te, fun _ a1 na => ?_, fun q => Bool.noConfusion q⟩
        rw [w25_first] at hd
        refine ⟨_, rfl, rfl, rfl, d, _, _, rfl, hd, rfl, ?_⟩
        refine ⟨_, rfl, _, _, rfl, rfl, _, rfl, iteY (by decide) ?_⟩
        refine ⟨_, rfl, 1, rfl, true, rfl, iteT ?_⟩
        refine ⟨_, rfl, rfl, ?_⟩
        exact k _
end
end Dl

namespace Dl
open PySem PySem.Spec PyProof.Rows L2
theorem own_exm {K : PySem.W.Frag} {S : Addr} (h1 : PySem.W.subIn K (.ref S) (.type "BaseException") = some true) (h2 : PySem.W.isClsIn K S = true) (h3 : PySem.W.typeIn K (.ref S) = some (.type "type")) (h4 : PySem.W.subIn K (.ref S) (.ref S) = some true) :
    PySem.W.exmOne K (.ref S) (.ref S) = some true := by
  have h5 : ((PySem.W.clsIn K S).isSome && PySem.W.typeIn K (.ref S) == some (.type "type")) = true := by
    rw [h3]
    simpa using (show (PySem.W.clsIn K S).isSome = true from h2)
  have h6 : (PySem.W.subIn K (.ref S) (.type "BaseException") == some true) = true := by rw [h1]; rfl
  have whole : PySem.W.exmOne K (.ref S) (.ref S) = if (PySem.W.subIn K (.ref S) (.type "BaseException") == some true) = true then (if ((PySem.W.clsIn K S).isSome && PySem.W.typeIn K (.ref S) == some (.type "type")) = true then PySem.W.subIn K (.ref S) (.ref S) else none) else none := rfl
  rw [whole, if_pos h6, if_pos h5, h4]
theorem all_mk {l : PySem.W.OpenLaw} {w : World} {K : PySem.W.Frag} {h : Heap} {mg : Str → Option Value} {fa f_is_name f_check_name f_check_new f_check_known f_distinct_names f_check_shown f_chosen_of f_law_bag f_law_take f_law_name f_law_names f_law_free_rows f_law_fault f_law_names_due f_law_due f_law_lines f_law_first_wrong f_law_spoilt f_law_due_rows f_law_is_integer f_read_lamps f_read_look f_law C_InvalidName f_InvalidName C_DuplicateName f_DuplicateName C_UnknownName f_UnknownName C_TooMany f_TooMany C_InvalidLine f_InvalidLine C_DimmerError C_Table f_Table_init f_Table_rows f_Table_shown f_Table_with_look P_read f_Table_read : Addr} (X : K.In h) (G : h.Ns mainGlobals mg) (hfa : mg "law" = some (.ref fa))
    {od_is_name an_is_name od_check_name an_check_name od_check_new an_check_new od_check_known an_check_known od_distinct_names an_distinct_names od_check_shown an_check_shown od_chosen_of an_chosen_of od_law_bag an_law_bag od_law_take an_law_take od_law_name an_law_name od_law_names an_law_names od_law_free_rows an_law_free_rows od_law_fault an_law_fault od_law_names_due an_law_names_due od_law_due an_law_due od_law_lines an_law_lines od_law_first_wrong an_law_first_wrong od_law_spoilt an_law_spoilt od_law_due_rows an_law_due_rows od_law_is_integer an_law_is_integer od_read_lamps an_read_lamps od_read_look an_read_look od_law an_law od_InvalidName an_InvalidName od_DuplicateName an_DuplicateName od_UnknownName an_UnknownName od_TooMany an_TooMany od_InvalidLine an_InvalidLine od_Table_init an_Table_init od_Table_rows an_Table_rows od_Table_shown an_Table_shown od_Table_with_look an_Table_with_look od_Table_read an_Table_read : Option Addr} {sl_is_name sl_check_name sl_check_new sl_check_known sl_distinct_names sl_check_shown sl_chosen_of sl_law_bag sl_law_take sl_law_name sl_law_names sl_law_free_rows sl_law_fault sl_law_names_due sl_law_due sl_law_lines sl_law_first_wrong sl_law_spoilt sl_law_due_rows sl_law_is_integer sl_read_lamps sl_read_look sl_law sl_InvalidName sl_DuplicateName sl_UnknownName sl_TooMany sl_InvalidLine sl_Table_init sl_Table_rows sl_Table_shown sl_Table_with_look sl_Table_read : Array (Option Value)} {oc_is_name kV_is_name dc_is_name pm_is_name cd_is_name ct_is_name oc_check_name kV_check_name dc_check_name pm_check_name cd_check_name ct_check_name oc_check_new kV_check_new dc_check_new pm_check_new cd_check_new ct_check_new oc_check_known kV_check_known dc_check_known pm_check_known cd_check_known ct_check_known oc_distinct_names kV_distinct_names dc_distinct_names pm_distinct_names cd_distinct_names ct_distinct_names oc_check_shown kV_check_shown dc_check_shown pm_check_shown cd_check_shown ct_check_shown oc_chosen_of kV_chosen_of dc_chosen_of pm_chosen_of cd_chosen_of ct_chosen_of oc_law_bag kV_law_bag dc_law_bag pm_law_bag cd_law_bag ct_law_bag oc_law_take kV_law_take dc_law_take pm_law_take cd_law_take ct_law_take oc_law_name kV_law_name dc_law_name pm_law_name cd_law_name ct_law_name oc_law_names kV_law_names dc_law_names pm_law_names cd_law_names ct_law_names oc_law_free_rows kV_law_free_rows dc_law_free_rows pm_law_free_rows cd_law_free_rows ct_law_free_rows oc_law_fault kV_law_fault dc_law_fault pm_law_fault cd_law_fault ct_law_fault oc_law_names_due kV_law_names_due dc_law_names_due pm_law_names_due cd_law_names_due ct_law_names_due oc_law_due kV_law_due dc_law_due pm_law_due cd_law_due ct_law_due oc_law_lines kV_law_lines dc_law_lines pm_law_lines cd_law_lines ct_law_lines oc_law_first_wrong kV_law_first_wrong dc_law_first_wrong pm_law_first_wrong cd_law_first_wrong ct_law_first_wrong oc_law_spoilt kV_law_spoilt dc_law_spoilt pm_law_spoilt cd_law_spoilt ct_law_spoilt oc_law_due_rows kV_law_due_rows dc_law_due_rows pm_law_due_rows cd_law_due_rows ct_law_due_rows oc_law_is_integer kV_law_is_integer dc_law_is_integer pm_law_is_integer cd_law_is_integer ct_law_is_integer oc_read_lamps kV_read_lamps dc_read_lamps pm_read_lamps cd_read_lamps ct_read_lamps oc_read_look kV_read_look dc_read_look pm_read_look cd_read_look ct_read_look oc_law kV_law dc_law pm_law cd_law ct_law oc_InvalidName kV_InvalidName dc_InvalidName pm_InvalidName cd_InvalidName ct_InvalidName oc_DuplicateName kV_DuplicateName dc_DuplicateName pm_DuplicateName cd_DuplicateName ct_DuplicateName oc_UnknownName kV_UnknownName dc_UnknownName pm_UnknownName cd_UnknownName ct_UnknownName oc_TooMany kV_TooMany dc_TooMany pm_TooMany cd_TooMany ct_TooMany oc_InvalidLine kV_InvalidLine dc_InvalidLine pm_InvalidLine cd_InvalidLine ct_InvalidLine oc_Table_init kV_Table_init dc_Table_init pm_Table_init cd_Table_init ct_Table_init oc_Table_rows kV_Table_rows dc_Table_rows pm_Table_rows cd_Table_rows ct_Table_rows oc_Table_shown kV_Table_shown dc_Table_shown pm_Table_shown cd_Table_shown ct_Table_shown oc_Table_with_look kV_Table_with_look dc_Table_with_look pm_Table_with_look cd_Table_with_look ct_Table_with_look oc_Table_read kV_Table_read dc_Table_read pm_Table_read cd_Table_read ct_Table_read : Value} {t_LONGEST t_SIGNS t_LIMIT : Tok}
    {nm_InvalidName q_InvalidName : Str} {N_InvalidName : Addr} {bs_InvalidName bm_InvalidName : List Value} {sn_InvalidName : List Str} {sub_InvalidName : List Value} {ab_InvalidName : Bool} {col_InvalidName : Option Bool} {dd_InvalidName : Option Addr} {m0_InvalidName m1_InvalidName m2_InvalidName m3_InvalidName m5_InvalidName : Option Value}
    {nm_DuplicateName q_DuplicateName : Str} {N_DuplicateName : Addr} {bs_DuplicateName bm_DuplicateName : List Value} {sn_DuplicateName : List Str} {sub_DuplicateName : List Value} {ab_DuplicateName : Bool} {col_DuplicateName : Option Bool} {dd_DuplicateName : Option Addr} {m0_DuplicateName m1_DuplicateName m2_DuplicateName m3_DuplicateName m5_DuplicateName : Option Value}
    {nm_UnknownName q_UnknownName : Str} {N_UnknownName : Addr} {bs_UnknownName bm_UnknownName : List Value} {sn_UnknownName : List Str} {sub_UnknownName : List Value} {ab_UnknownName : Bool} {col_UnknownName : Option Bool} {dd_UnknownName : Option Addr} {m0_UnknownName m1_UnknownName m2_UnknownName m3_UnknownName m5_UnknownName : Option Value}
    {nm_TooMany q_TooMany : Str} {N_TooMany : Addr} {bs_TooMany bm_TooMany : List Value} {sn_TooMany : List Str} {sub_TooMany : List Value} {ab_TooMany : Bool} {col_TooMany : Option Bool} {dd_TooMany : Option Addr} {m0_TooMany m1_TooMany m2_TooMany m3_TooMany m5_TooMany : Option Value}
    {nm_InvalidLine q_InvalidLine : Str} {N_InvalidLine : Addr} {bs_InvalidLine bm_InvalidLine : List Value} {sn_InvalidLine : List Str} {sub_InvalidLine : List Value} {ab_InvalidLine : Bool} {col_InvalidLine : Option Bool} {dd_InvalidLine : Option Addr} {m0_InvalidLine m1_InvalidLine m2_InvalidLine m3_InvalidLine m5_InvalidLine : Option Value}
    (a_is_name : PySem.W.nsIn K mainGlobals "is_name" = some (some (.ref f_is_name)))
    (l_is_name : K.lookup f_is_name = some ⟨oc_is_name, od_is_name, .func (PySem.W.fnOf "is_name" "is_name" (defArgs sIsName) (defBody sIsName) (defScope sIsName) .none kV_is_name dc_is_name pm_is_name an_is_name cd_is_name ct_is_name), sl_is_name⟩)
    (c_is_name : PySem.W.codeIn K cd_is_name "is_name" = true)
    (k_is_name : PySem.W.keepIn K (.ref f_is_name) = true)
    (a_check_name : PySem.W.nsIn K mainGlobals "check_name" = some (some (.ref f_check_name)))
    (l_check_name : K.lookup f_check_name = some ⟨oc_check_name, od_check_name, .func (PySem.W.fnOf "check_name" "check_name" (defArgs sCheckName) (defBody sCheckName) (defScope sCheckName) .none kV_check_name dc_check_name pm_check_name an_check_name cd_check_name ct_check_name), sl_check_name⟩)
    (c_check_name : PySem.W.codeIn K cd_check_name "check_name" = true)
    (k_check_name : PySem.W.keepIn K (.ref f_check_name) = true)
    (a_check_new : PySem.W.nsIn K mainGlobals "check_new" = some (some (.ref f_check_new)))
    (l_check_new : K.lookup f_check_new = some ⟨oc_check_new, od_check_new, .func (PySem.W.fnOf "check_new" "check_new" (defArgs sCheckNew) (defBody sCheckNew) (defScope sCheckNew) .none kV_check_new dc_check_new pm_check_new an_check_new cd_check_new ct_check_new), sl_check_new⟩)
    (c_check_new : PySem.W.codeIn K cd_check_new "check_new" = true)
    (k_check_new : PySem.W.keepIn K (.ref f_check_new) = true)
    (a_check_known : PySem.W.nsIn K mainGlobals "check_known" = some (some (.ref f_check_known)))
    (l_check_known : K.lookup f_check_known = some ⟨oc_check_known, od_check_known, .func (PySem.W.fnOf "check_known" "check_known" (defArgs sCheckKnown) (defBody sCheckKnown) (defScope sCheckKnown) .none kV_check_known dc_check_known pm_check_known an_check_known cd_check_known ct_check_known), sl_check_known⟩)
    (c_check_known : PySem.W.codeIn K cd_check_known "check_known" = true)
    (k_check_known : PySem.W.keepIn K (.ref f_check_known) = true)
    (a_distinct_names : PySem.W.nsIn K mainGlobals "distinct_names" = some (some (.ref f_distinct_names)))
    (l_distinct_names : K.lookup f_distinct_names = some ⟨oc_distinct_names, od_distinct_names, .func (PySem.W.fnOf "distinct_names" "distinct_names" (defArgs sDistinct) (defBody sDistinct) (defScope sDistinct) .none kV_distinct_names dc_distinct_names pm_distinct_names an_distinct_names cd_distinct_names ct_distinct_names), sl_distinct_names⟩)
    (c_distinct_names : PySem.W.codeIn K cd_distinct_names "distinct_names" = true)
    (k_distinct_names : PySem.W.keepIn K (.ref f_distinct_names) = true)
    (a_check_shown : PySem.W.nsIn K mainGlobals "_check_shown" = some (some (.ref f_check_shown)))
    (l_check_shown : K.lookup f_check_shown = some ⟨oc_check_shown, od_check_shown, .func (PySem.W.fnOf "_check_shown" "_check_shown" (defArgs sCheckShown) (defBody sCheckShown) (defScope sCheckShown) .none kV_check_shown dc_check_shown pm_check_shown an_check_shown cd_check_shown ct_check_shown), sl_check_shown⟩)
    (c_check_shown : PySem.W.codeIn K cd_check_shown "_check_shown" = true)
    (k_check_shown : PySem.W.keepIn K (.ref f_check_shown) = true)
    (a_chosen_of : PySem.W.nsIn K mainGlobals "_chosen_of" = some (some (.ref f_chosen_of)))
    (l_chosen_of : K.lookup f_chosen_of = some ⟨oc_chosen_of, od_chosen_of, .func (PySem.W.fnOf "_chosen_of" "_chosen_of" (defArgs sChosen) (defBody sChosen) (defScope sChosen) .none kV_chosen_of dc_chosen_of pm_chosen_of an_chosen_of cd_chosen_of ct_chosen_of), sl_chosen_of⟩)
    (c_chosen_of : PySem.W.codeIn K cd_chosen_of "_chosen_of" = true)
    (k_chosen_of : PySem.W.keepIn K (.ref f_chosen_of) = true)
    (a_law_bag : PySem.W.nsIn K mainGlobals "_law_bag" = some (some (.ref f_law_bag)))
    (l_law_bag : K.lookup f_law_bag = some ⟨oc_law_bag, od_law_bag, .func (PySem.W.fnOf "_law_bag" "_law_bag" (defArgs sBag) (defBody sBag) (defScope sBag) .none kV_law_bag dc_law_bag pm_law_bag an_law_bag cd_law_bag ct_law_bag), sl_law_bag⟩)
    (c_law_bag : PySem.W.codeIn K cd_law_bag "_law_bag" = true)
    (k_law_bag : PySem.W.keepIn K (.ref f_law_bag) = true)
    (a_law_take : PySem.W.nsIn K mainGlobals "_law_take" = some (some (.ref f_law_take)))
    (l_law_take : K.lookup f_law_take = some ⟨oc_law_take, od_law_take, .func (PySem.W.fnOf "_law_take" "_law_take" (defArgs sTake) (defBody sTake) (defScope sTake) .none kV_law_take dc_law_take pm_law_take an_law_take cd_law_take ct_law_take), sl_law_take⟩)
    (c_law_take : PySem.W.codeIn K cd_law_take "_law_take" = true)
    (k_law_take : PySem.W.keepIn K (.ref f_law_take) = true)
    (a_law_name : PySem.W.nsIn K mainGlobals "_law_name" = some (some (.ref f_law_name)))
    (l_law_name : K.lookup f_law_name = some ⟨oc_law_name, od_law_name, .func (PySem.W.fnOf "_law_name" "_law_name" (defArgs sLawName) (defBody sLawName) (defScope sLawName) .none kV_law_name dc_law_name pm_law_name an_law_name cd_law_name ct_law_name), sl_law_name⟩)
    (c_law_name : PySem.W.codeIn K cd_law_name "_law_name" = true)
    (k_law_name : PySem.W.keepIn K (.ref f_law_name) = true)
    (a_law_names : PySem.W.nsIn K mainGlobals "_law_names" = some (some (.ref f_law_names)))
    (l_law_names : K.lookup f_law_names = some ⟨oc_law_names, od_law_names, .func (PySem.W.fnOf "_law_names" "_law_names" (defArgs sLawNames) (defBody sLawNames) (defScope sLawNames) .none kV_law_names dc_law_names pm_law_names an_law_names cd_law_names ct_law_names), sl_law_names⟩)
    (c_law_names : PySem.W.codeIn K cd_law_names "_law_names" = true)
    (k_law_names : PySem.W.keepIn K (.ref f_law_names) = true)
    (a_law_free_rows : PySem.W.nsIn K mainGlobals "_law_free_rows" = some (some (.ref f_law_free_rows)))
    (l_law_free_rows : K.lookup f_law_free_rows = some ⟨oc_law_free_rows, od_law_free_rows, .func (PySem.W.fnOf "_law_free_rows" "_law_free_rows" (defArgs sLawFreeRows) (defBody sLawFreeRows) (defScope sLawFreeRows) .none kV_law_free_rows dc_law_free_rows pm_law_free_rows an_law_free_rows cd_law_free_rows ct_law_free_rows), sl_law_free_rows⟩)
    (c_law_free_rows : PySem.W.codeIn K cd_law_free_rows "_law_free_rows" = true)
    (k_law_free_rows : PySem.W.keepIn K (.ref f_law_free_rows) = true)
    (a_law_fault : PySem.W.nsIn K mainGlobals "_law_fault" = some (some (.ref f_law_fault)))
    (l_law_fault : K.lookup f_law_fault = some ⟨oc_law_fault, od_law_fault, .func (PySem.W.fnOf "_law_fault" "_law_fault" (defArgs sLawFault) (defBody sLawFault) (defScope sLawFault) .none kV_law_fault dc_law_fault pm_law_fault an_law_fault cd_law_fault ct_law_fault), sl_law_fault⟩)
    (c_law_fault : PySem.W.codeIn K cd_law_fault "_law_fault" = true)
    (k_law_fault : PySem.W.keepIn K (.ref f_law_fault) = true)
    (a_law_names_due : PySem.W.nsIn K mainGlobals "_law_names_due" = some (some (.ref f_law_names_due)))
    (l_law_names_due : K.lookup f_law_names_due = some ⟨oc_law_names_due, od_law_names_due, .func (PySem.W.fnOf "_law_names_due" "_law_names_due" (defArgs sLawNamesDue) (defBody sLawNamesDue) (defScope sLawNamesDue) .none kV_law_names_due dc_law_names_due pm_law_names_due an_law_names_due cd_law_names_due ct_law_names_due), sl_law_names_due⟩)
    (c_law_names_due : PySem.W.codeIn K cd_law_names_due "_law_names_due" = true)
    (k_law_names_due : PySem.W.keepIn K (.ref f_law_names_due) = true)
    (a_law_due : PySem.W.nsIn K mainGlobals "_law_due" = some (some (.ref f_law_due)))
    (l_law_due : K.lookup f_law_due = some ⟨oc_law_due, od_law_due, .func (PySem.W.fnOf "_law_due" "_law_due" (defArgs sLawDue) (defBody sLawDue) (defScope sLawDue) .none kV_law_due dc_law_due pm_law_due an_law_due cd_law_due ct_law_due), sl_law_due⟩)
    (c_law_due : PySem.W.codeIn K cd_law_due "_law_due" = true)
    (k_law_due : PySem.W.keepIn K (.ref f_law_due) = true)
    (a_law_lines : PySem.W.nsIn K mainGlobals "_law_lines" = some (some (.ref f_law_lines)))
    (l_law_lines : K.lookup f_law_lines = some ⟨oc_law_lines, od_law_lines, .func (PySem.W.fnOf "_law_lines" "_law_lines" (defArgs sLawLines) (defBody sLawLines) (defScope sLawLines) .none kV_law_lines dc_law_lines pm_law_lines an_law_lines cd_law_lines ct_law_lines), sl_law_lines⟩)
    (c_law_lines : PySem.W.codeIn K cd_law_lines "_law_lines" = true)
    (k_law_lines : PySem.W.keepIn K (.ref f_law_lines) = true)
    (a_law_first_wrong : PySem.W.nsIn K mainGlobals "_law_first_wrong" = some (some (.ref f_law_first_wrong)))
    (l_law_first_wrong : K.lookup f_law_first_wrong = some ⟨oc_law_first_wrong, od_law_first_wrong, .func (PySem.W.fnOf "_law_first_wrong" "_law_first_wrong" (defArgs sLawFirstWrong) (defBody sLawFirstWrong) (defScope sLawFirstWrong) .none kV_law_first_wrong dc_law_first_wrong pm_law_first_wrong an_law_first_wrong cd_law_first_wrong ct_law_first_wrong), sl_law_first_wrong⟩)
    (c_law_first_wrong : PySem.W.codeIn K cd_law_first_wrong "_law_first_wrong" = true)
    (k_law_first_wrong : PySem.W.keepIn K (.ref f_law_first_wrong) = true)
    (a_law_spoilt : PySem.W.nsIn K mainGlobals "_law_spoilt" = some (some (.ref f_law_spoilt)))
    (l_law_spoilt : K.lookup f_law_spoilt = some ⟨oc_law_spoilt, od_law_spoilt, .func (PySem.W.fnOf "_law_spoilt" "_law_spoilt" (defArgs sLawSpoilt) (defBody sLawSpoilt) (defScope sLawSpoilt) .none kV_law_spoilt dc_law_spoilt pm_law_spoilt an_law_spoilt cd_law_spoilt ct_law_spoilt), sl_law_spoilt⟩)
    (c_law_spoilt : PySem.W.codeIn K cd_law_spoilt "_law_spoilt" = true)
    (k_law_spoilt : PySem.W.keepIn K (.ref f_law_spoilt) = true)
    (a_law_due_rows : PySem.W.nsIn K mainGlobals "_law_due_rows" = some (some (.ref f_law_due_rows)))
    (l_law_due_rows : K.lookup f_law_due_rows = some ⟨oc_law_due_rows, od_law_due_rows, .func (PySem.W.fnOf "_law_due_rows" "_law_due_rows" (defArgs sLawDueRows) (defBody sLawDueRows) (defScope sLawDueRows) .none kV_law_due_rows dc_law_due_rows pm_law_due_rows an_law_due_rows cd_law_due_rows ct_law_due_rows), sl_law_due_rows⟩)
    (c_law_due_rows : PySem.W.codeIn K cd_law_due_rows "_law_due_rows" = true)
    (k_law_due_rows : PySem.W.keepIn K (.ref f_law_due_rows) = true)
    (a_law_is_integer : PySem.W.nsIn K mainGlobals "_law_is_integer" = some (some (.ref f_law_is_integer)))
    (l_law_is_integer : K.lookup f_law_is_integer = some ⟨oc_law_is_integer, od_law_is_integer, .func (PySem.W.fnOf "_law_is_integer" "_law_is_integer" (defArgs sLawIsInteger) (defBody sLawIsInteger) (defScope sLawIsInteger) .none kV_law_is_integer dc_law_is_integer pm_law_is_integer an_law_is_integer cd_law_is_integer ct_law_is_integer), sl_law_is_integer⟩)
    (c_law_is_integer : PySem.W.codeIn K cd_law_is_integer "_law_is_integer" = true)
    (k_law_is_integer : PySem.W.keepIn K (.ref f_law_is_integer) = true)
    (a_read_lamps : PySem.W.nsIn K mainGlobals "_read_lamps" = some (some (.ref f_read_lamps)))
    (l_read_lamps : K.lookup f_read_lamps = some ⟨oc_read_lamps, od_read_lamps, .func (PySem.W.fnOf "_read_lamps" "_read_lamps" (defArgs sReadLamps) (defBody sReadLamps) (defScope sReadLamps) .none kV_read_lamps dc_read_lamps pm_read_lamps an_read_lamps cd_read_lamps ct_read_lamps), sl_read_lamps⟩)
    (c_read_lamps : PySem.W.codeIn K cd_read_lamps "_read_lamps" = true)
    (k_read_lamps : PySem.W.keepIn K (.ref f_read_lamps) = true)
    (a_read_look : PySem.W.nsIn K mainGlobals "_read_look" = some (some (.ref f_read_look)))
    (l_read_look : K.lookup f_read_look = some ⟨oc_read_look, od_read_look, .func (PySem.W.fnOf "_read_look" "_read_look" (defArgs sReadLook) (defBody sReadLook) (defScope sReadLook) .none kV_read_look dc_read_look pm_read_look an_read_look cd_read_look ct_read_look), sl_read_look⟩)
    (c_read_look : PySem.W.codeIn K cd_read_look "_read_look" = true)
    (k_read_look : PySem.W.keepIn K (.ref f_read_look) = true)
    (a_law : PySem.W.nsIn K mainGlobals "law" = some (some (.ref f_law)))
    (l_law : K.lookup f_law = some ⟨oc_law, od_law, .func (PySem.W.fnOf "law" "law" (defArgs sLaw) (defBody sLaw) (defScope sLaw) .none kV_law dc_law pm_law an_law cd_law ct_law), sl_law⟩)
    (c_law : PySem.W.codeIn K cd_law "law" = true)
    (k_law : PySem.W.keepIn K (.ref f_law) = true)
    (a_InvalidName : PySem.W.nsIn K mainGlobals "InvalidName" = some (some (.ref C_InvalidName)))
    (x_InvalidName : K.lookup C_InvalidName = some (excClassObj nm_InvalidName q_InvalidName C_InvalidName N_InvalidName bs_InvalidName bm_InvalidName true sn_InvalidName sub_InvalidName ab_InvalidName col_InvalidName dd_InvalidName m0_InvalidName m1_InvalidName m2_InvalidName m3_InvalidName m5_InvalidName "ValueError.__new__"))
    (hb_InvalidName : PySem.HandSPX.refsVE bm_InvalidName = true)
    (sa_InvalidName : PySem.W.findIn K (.ref C_InvalidName) "__setattr__" = some (some (.builtin "object.__setattr__")))
    (e_InvalidName : PySem.W.subIn K (.ref C_InvalidName) (.type "BaseException") = some true)
    (tc_InvalidName : PySem.W.typeIn K (.ref C_InvalidName) = some (.type "type"))
    (kc_InvalidName : PySem.W.keepIn K (.ref C_InvalidName) = true)
    (no_InvalidName : PySem.W.findIn K (.ref C_InvalidName) "name" = some none)
    (i_InvalidName : PySem.W.findIn K (.ref C_InvalidName) "__init__" = some (some (.ref f_InvalidName)))
    (ti_InvalidName : PySem.W.typeIn K (.ref f_InvalidName) = some (.type "function"))
    (l_InvalidName : K.lookup f_InvalidName = some ⟨oc_InvalidName, od_InvalidName, .func (PySem.W.fnOf "__init__" "InvalidName.__init__" (defArgs sInv) (defBody sInv) (defScope sInv) .none kV_InvalidName dc_InvalidName pm_InvalidName an_InvalidName cd_InvalidName ct_InvalidName), sl_InvalidName⟩)
    (c_InvalidName : PySem.W.codeIn K cd_InvalidName "InvalidName.__init__" = true)
    (k_InvalidName : PySem.W.keepIn K (.ref f_InvalidName) = true)
    (a_DuplicateName : PySem.W.nsIn K mainGlobals "DuplicateName" = some (some (.ref C_DuplicateName)))
    (x_DuplicateName : K.lookup C_DuplicateName = some (excClassObj nm_DuplicateName q_DuplicateName C_DuplicateName N_DuplicateName bs_DuplicateName bm_DuplicateName true sn_DuplicateName sub_DuplicateName ab_DuplicateName col_DuplicateName dd_DuplicateName m0_DuplicateName m1_DuplicateName m2_DuplicateName m3_DuplicateName m5_DuplicateName "ValueError.__new__"))
    (hb_DuplicateName : PySem.HandSPX.refsVE bm_DuplicateName = true)
    (sa_DuplicateName : PySem.W.findIn K (.ref C_DuplicateName) "__setattr__" = some (some (.builtin "object.__setattr__")))
    (e_DuplicateName : PySem.W.subIn K (.ref C_DuplicateName) (.type "BaseException") = some true)
    (tc_DuplicateName : PySem.W.typeIn K (.ref C_DuplicateName) = some (.type "type"))
    (kc_DuplicateName : PySem.W.keepIn K (.ref C_DuplicateName) = true)
    (no_DuplicateName : PySem.W.findIn K (.ref C_DuplicateName) "name" = some none)
    (i_DuplicateName : PySem.W.findIn K (.ref C_DuplicateName) "__init__" = some (some (.ref f_DuplicateName)))
    (ti_DuplicateName : PySem.W.typeIn K (.ref f_DuplicateName) = some (.type "function"))
    (l_DuplicateName : K.lookup f_DuplicateName = some ⟨oc_DuplicateName, od_DuplicateName, .func (PySem.W.fnOf "__init__" "DuplicateName.__init__" (defArgs sDup) (defBody sDup) (defScope sDup) .none kV_DuplicateName dc_DuplicateName pm_DuplicateName an_DuplicateName cd_DuplicateName ct_DuplicateName), sl_DuplicateName⟩)
    (c_DuplicateName : PySem.W.codeIn K cd_DuplicateName "DuplicateName.__init__" = true)
    (k_DuplicateName : PySem.W.keepIn K (.ref f_DuplicateName) = true)
    (a_UnknownName : PySem.W.nsIn K mainGlobals "UnknownName" = some (some (.ref C_UnknownName)))
    (x_UnknownName : K.lookup C_UnknownName = some (excClassObj nm_UnknownName q_UnknownName C_UnknownName N_UnknownName bs_UnknownName bm_UnknownName true sn_UnknownName sub_UnknownName ab_UnknownName col_UnknownName dd_UnknownName m0_UnknownName m1_UnknownName m2_UnknownName m3_UnknownName m5_UnknownName "ValueError.__new__"))
    (hb_UnknownName : PySem.HandSPX.refsVE bm_UnknownName = true)
    (sa_UnknownName : PySem.W.findIn K (.ref C_UnknownName) "__setattr__" = some (some (.builtin "object.__setattr__")))
    (e_UnknownName : PySem.W.subIn K (.ref C_UnknownName) (.type "BaseException") = some true)
    (tc_UnknownName : PySem.W.typeIn K (.ref C_UnknownName) = some (.type "type"))
    (kc_UnknownName : PySem.W.keepIn K (.ref C_UnknownName) = true)
    (no_UnknownName : PySem.W.findIn K (.ref C_UnknownName) "name" = some none)
    (i_UnknownName : PySem.W.findIn K (.ref C_UnknownName) "__init__" = some (some (.ref f_UnknownName)))
    (ti_UnknownName : PySem.W.typeIn K (.ref f_UnknownName) = some (.type "function"))
    (l_UnknownName : K.lookup f_UnknownName = some ⟨oc_UnknownName, od_UnknownName, .func (PySem.W.fnOf "__init__" "UnknownName.__init__" (defArgs sUnk) (defBody sUnk) (defScope sUnk) .none kV_UnknownName dc_UnknownName pm_UnknownName an_UnknownName cd_UnknownName ct_UnknownName), sl_UnknownName⟩)
    (c_UnknownName : PySem.W.codeIn K cd_UnknownName "UnknownName.__init__" = true)
    (k_UnknownName : PySem.W.keepIn K (.ref f_UnknownName) = true)
    (a_TooMany : PySem.W.nsIn K mainGlobals "TooMany" = some (some (.ref C_TooMany)))
    (x_TooMany : K.lookup C_TooMany = some (excClassObj nm_TooMany q_TooMany C_TooMany N_TooMany bs_TooMany bm_TooMany true sn_TooMany sub_TooMany ab_TooMany col_TooMany dd_TooMany m0_TooMany m1_TooMany m2_TooMany m3_TooMany m5_TooMany "ValueError.__new__"))
    (hb_TooMany : PySem.HandSPX.refsVE bm_TooMany = true)
    (sa_TooMany : PySem.W.findIn K (.ref C_TooMany) "__setattr__" = some (some (.builtin "object.__setattr__")))
    (e_TooMany : PySem.W.subIn K (.ref C_TooMany) (.type "BaseException") = some true)
    (tc_TooMany : PySem.W.typeIn K (.ref C_TooMany) = some (.type "type"))
    (kc_TooMany : PySem.W.keepIn K (.ref C_TooMany) = true)
    (no_TooMany : PySem.W.findIn K (.ref C_TooMany) "limit" = some none)
    (i_TooMany : PySem.W.findIn K (.ref C_TooMany) "__init__" = some (some (.ref f_TooMany)))
    (ti_TooMany : PySem.W.typeIn K (.ref f_TooMany) = some (.type "function"))
    (l_TooMany : K.lookup f_TooMany = some ⟨oc_TooMany, od_TooMany, .func (PySem.W.fnOf "__init__" "TooMany.__init__" (defArgs sMany) (defBody sMany) (defScope sMany) .none kV_TooMany dc_TooMany pm_TooMany an_TooMany cd_TooMany ct_TooMany), sl_TooMany⟩)
    (c_TooMany : PySem.W.codeIn K cd_TooMany "TooMany.__init__" = true)
    (k_TooMany : PySem.W.keepIn K (.ref f_TooMany) = true)
    (a_InvalidLine : PySem.W.nsIn K mainGlobals "InvalidLine" = some (some (.ref C_InvalidLine)))
    (x_InvalidLine : K.lookup C_InvalidLine = some (excClassObj nm_InvalidLine q_InvalidLine C_InvalidLine N_InvalidLine bs_InvalidLine bm_InvalidLine true sn_InvalidLine sub_InvalidLine ab_InvalidLine col_InvalidLine dd_InvalidLine m0_InvalidLine m1_InvalidLine m2_InvalidLine m3_InvalidLine m5_InvalidLine "ValueError.__new__"))
    (hb_InvalidLine : PySem.HandSPX.refsVE bm_InvalidLine = true)
    (sa_InvalidLine : PySem.W.findIn K (.ref C_InvalidLine) "__setattr__" = some (some (.builtin "object.__setattr__")))
    (e_InvalidLine : PySem.W.subIn K (.ref C_InvalidLine) (.type "BaseException") = some true)
    (tc_InvalidLine : PySem.W.typeIn K (.ref C_InvalidLine) = some (.type "type"))
    (kc_InvalidLine : PySem.W.keepIn K (.ref C_InvalidLine) = true)
    (no_InvalidLine : PySem.W.findIn K (.ref C_InvalidLine) "line" = some none)
    (i_InvalidLine : PySem.W.findIn K (.ref C_InvalidLine) "__init__" = some (some (.ref f_InvalidLine)))
    (ti_InvalidLine : PySem.W.typeIn K (.ref f_InvalidLine) = some (.type "function"))
    (l_InvalidLine : K.lookup f_InvalidLine = some ⟨oc_InvalidLine, od_InvalidLine, .func (PySem.W.fnOf "__init__" "InvalidLine.__init__" (defArgs sLine) (defBody sLine) (defScope sLine) .none kV_InvalidLine dc_InvalidLine pm_InvalidLine an_InvalidLine cd_InvalidLine ct_InvalidLine), sl_InvalidLine⟩)
    (c_InvalidLine : PySem.W.codeIn K cd_InvalidLine "InvalidLine.__init__" = true)
    (k_InvalidLine : PySem.W.keepIn K (.ref f_InvalidLine) = true)
    (ga_InvalidLine : PySem.W.findIn K (.ref C_InvalidLine) "__getattribute__" = some (some (.builtin "BaseException.__getattribute__")))
    (gg_InvalidLine : PySem.W.findIn K (.ref C_InvalidLine) "__getattr__" = some none)
    (hd_InvalidLine : PySem.W.hasDictIn K C_InvalidLine = true)
    (ic_InvalidLine : PySem.W.isClsIn K C_InvalidLine = true)
    (a_DimmerError : PySem.W.nsIn K mainGlobals "DimmerError" = some (some (.ref C_DimmerError)))
    (su_InvalidLine_InvalidLine : PySem.W.subIn K (.ref C_InvalidLine) (.ref C_InvalidLine) = some true)
    (ex_InvalidName_DimmerError : PySem.W.exmOne K (.ref C_InvalidName) (.ref C_DimmerError) = some true)
    (ex_DuplicateName_DimmerError : PySem.W.exmOne K (.ref C_DuplicateName) (.ref C_DimmerError) = some true)
    (ex_UnknownName_DimmerError : PySem.W.exmOne K (.ref C_UnknownName) (.ref C_DimmerError) = some true)
    (ex_TooMany_DimmerError : PySem.W.exmOne K (.ref C_TooMany) (.ref C_DimmerError) = some true)
    (a_Table : PySem.W.nsIn K mainGlobals "Table" = some (some (.ref C_Table)))
    (pg_Table : PySem.W.plainGet K C_Table Str.empty = true)
    (hd_Table : PySem.W.hasDictIn K C_Table = true)
    (po_Table : PySem.W.plainOver K C_Table = true)
    (sa_Table : PySem.W.findIn K (.ref C_Table) "__setattr__" = some (some (.builtin "object.__setattr__")))
    (mk_Table : PySem.W.makesIn K C_Table = true)
    (kc_Table : PySem.W.keepIn K (.ref C_Table) = true)
    (n_Table_lamps : PySem.W.findIn K (.ref C_Table) "lamps" = some none)
    (n_Table_looks : PySem.W.findIn K (.ref C_Table) "looks" = some none)
    (n_Table__shown : PySem.W.findIn K (.ref C_Table) "_shown" = some none)
    (i_Table_init : PySem.W.findIn K (.ref C_Table) "__init__" = some (some (.ref f_Table_init)))
    (fn_Table_init : PySem.W.isFn K (.ref f_Table_init) = true)
    (l_Table_init : K.lookup f_Table_init = some ⟨oc_Table_init, od_Table_init, .func (PySem.W.fnOf "__init__" "Table.__init__" (defArgs sTabInit) (defBody sTabInit) (defScope sTabInit) .none kV_Table_init dc_Table_init pm_Table_init an_Table_init cd_Table_init ct_Table_init), sl_Table_init⟩)
    (c_Table_init : PySem.W.codeIn K cd_Table_init "Table.__init__" = true)
    (k_Table_init : PySem.W.keepIn K (.ref f_Table_init) = true)
    (i_Table_rows : PySem.W.findIn K (.ref C_Table) "rows" = some (some (.ref f_Table_rows)))
    (fn_Table_rows : PySem.W.isFn K (.ref f_Table_rows) = true)
    (l_Table_rows : K.lookup f_Table_rows = some ⟨oc_Table_rows, od_Table_rows, .func (PySem.W.fnOf "rows" "Table.rows" (defArgs sTableRows) (defBody sTableRows) (defScope sTableRows) .none kV_Table_rows dc_Table_rows pm_Table_rows an_Table_rows cd_Table_rows ct_Table_rows), sl_Table_rows⟩)
    (c_Table_rows : PySem.W.codeIn K cd_Table_rows "Table.rows" = true)
    (k_Table_rows : PySem.W.keepIn K (.ref f_Table_rows) = true)
    (i_Table_shown : PySem.W.findIn K (.ref C_Table) "shown" = some (some (.ref f_Table_shown)))
    (fn_Table_shown : PySem.W.isFn K (.ref f_Table_shown) = true)
    (l_Table_shown : K.lookup f_Table_shown = some ⟨oc_Table_shown, od_Table_shown, .func (PySem.W.fnOf "shown" "Table.shown" (defArgs sTableShown) (defBody sTableShown) (defScope sTableShown) .none kV_Table_shown dc_Table_shown pm_Table_shown an_Table_shown cd_Table_shown ct_Table_shown), sl_Table_shown⟩)
    (c_Table_shown : PySem.W.codeIn K cd_Table_shown "Table.shown" = true)
    (k_Table_shown : PySem.W.keepIn K (.ref f_Table_shown) = true)
    (i_Table_with_look : PySem.W.findIn K (.ref C_Table) "with_look" = some (some (.ref f_Table_with_look)))
    (fn_Table_with_look : PySem.W.isFn K (.ref f_Table_with_look) = true)
    (l_Table_with_look : K.lookup f_Table_with_look = some ⟨oc_Table_with_look, od_Table_with_look, .func (PySem.W.fnOf "with_look" "Table.with_look" (defArgs sTableWithLook) (defBody sTableWithLook) (defScope sTableWithLook) .none kV_Table_with_look dc_Table_with_look pm_Table_with_look an_Table_with_look cd_Table_with_look ct_Table_with_look), sl_Table_with_look⟩)
    (c_Table_with_look : PySem.W.codeIn K cd_Table_with_look "Table.with_look" = true)
    (k_Table_with_look : PySem.W.keepIn K (.ref f_Table_with_look) = true)
    (p_read : PySem.W.findCls K (.ref C_Table) (.type "type") "read" = some (.get (.builtin "staticmethod.__get__") (.ref P_read) .none (.ref C_Table)))
    (pr_read : ∃ rest, PySem.W.recIn K P_read "staticmethod" = some (.ref f_Table_read :: rest))
    (l_Table_read : K.lookup f_Table_read = some ⟨oc_Table_read, od_Table_read, .func (PySem.W.fnOf "read" "Table.read" (defArgs sTableRead) (defBody sTableRead) (defScope sTableRead) .none kV_Table_read dc_Table_read pm_Table_read an_Table_read cd_Table_read ct_Table_read), sl_Table_read⟩)
    (c_Table_read : PySem.W.codeIn K cd_Table_read "Table.read" = true)
    (k_Table_read : PySem.W.keepIn K (.ref f_Table_read) = true)
    (q_cls : (PySem.W.clsIn K C_InvalidLine).isSome = true)
    (q_class : PySem.W.findIn K (.ref C_InvalidLine) "__class__" = some (some (.builtin "object.__class__")))
    (q_get : PySem.W.specialIn K (.builtin "object.__class__") "__get__" = some (some (.builtin "getset_descriptor.__get__")))
    (q_takes : PySem.W.takesIn K (.builtin "object.__class__") = some true)
    (q_mro : PySem.W.mroIn K C_InvalidLine (.type "object") = some true)
    (q_kit : PySem.W.kitOne K (.ref C_InvalidLine) (.ref C_DimmerError) = some true)
    (q_rd : PySem.W.readsIn K C_Table (.type "type") = true)
    (q_ga : PySem.W.specialIn K (.ref C_Table) "__getattribute__" = some (some (.builtin "type.__getattribute__")))
    (q_wg : PySem.W.specialIn K (.ref f_Table_with_look) "__get__" = some (some (.builtin "function.__get__")))
    (q_wt : PySem.W.takesIn K (.ref f_Table_with_look) = some false)
    (q_wf : PySem.W.fnIn K f_Table_with_look = true)
    (z_len : PySem.W.nsIn K mainGlobals "len" = some none)
    (z_int : PySem.W.nsIn K mainGlobals "int" = some none)
    (z_tuple : PySem.W.nsIn K mainGlobals "tuple" = some none)
    (z_abs : PySem.W.nsIn K mainGlobals "abs" = some none)
    (z_isinstance : PySem.W.nsIn K mainGlobals "isinstance" = some none)
    (z_str : PySem.W.nsIn K mainGlobals "str" = some none)
    (z_all : PySem.W.nsIn K mainGlobals "all" = some none)
    (z_list : PySem.W.nsIn K mainGlobals "list" = some none)
    (z_range : PySem.W.nsIn K mainGlobals "range" = some none)
    (z_enumerate : PySem.W.nsIn K mainGlobals "enumerate" = some none)
    (z_bool : PySem.W.nsIn K mainGlobals "bool" = some none)
    (v_LONGEST : PySem.W.nsIn K mainGlobals "LONGEST" = some (some (.int 12 t_LONGEST)))
    (v_SIGNS : PySem.W.nsIn K mainGlobals "SIGNS" = some (some (.str SG t_SIGNS)))
    (v_LIMIT : PySem.W.nsIn K mainGlobals "LIMIT" = some (some (.int 24 t_LIMIT))) :
    ∃ fd : FuncData, (∀ (s : Shared) (v : Value), BindsTo s fd ⟨[v], []⟩ [("_law_script", v)]) ∧ ∀ base : Heap, K.In base → base.Ns mainGlobals mg → FnOk l.prog w K mg base CX0 14 fa fd ["_law_script"] (spLaw5 K) := by
  have e := hfa.symm.trans (PySem.W.mg_of X G a_law)
  cases e
  have n_len := PySem.W.mg_none_of X G z_len
  have n_int := PySem.W.mg_none_of X G z_int
  have n_tuple := PySem.W.mg_none_of X G z_tuple
  have n_abs := PySem.W.mg_none_of X G z_abs
  have n_isinstance := PySem.W.mg_none_of X G z_isinstance
  have n_str := PySem.W.mg_none_of X G z_str
  have n_all := PySem.W.mg_none_of X G z_all
  have n_list := PySem.W.mg_none_of X G z_list
  have n_range := PySem.W.mg_none_of X G z_range
  have n_enumerate := PySem.W.mg_none_of X G z_enumerate
  have n_bool := PySem.W.mg_none_of X G z_bool
  have TB : TxtB mg := ⟨n_len, n_int, n_abs⟩
  have TN : TxtN mg := ⟨n_isinstance, n_str, n_len, n_all, ⟨_, PySem.W.mg_of X G v_LONGEST⟩, ⟨_, PySem.W.mg_of X G v_SIGNS⟩⟩
  have TM : TxtM mg := ⟨n_range, n_len, n_str⟩
  have TI : TxtI mg := ⟨n_isinstance, n_bool, n_int⟩
  have TD : TxtD mg := ⟨n_isinstance, n_str, n_len⟩
  have TL : TxtL5 mg := ⟨n_list, n_len, n_range, n_str, n_isinstance⟩
  have cl : Cls K C_Table := ⟨pg_Table, hd_Table, po_Table, sa_Table⟩
  have TT : TxtT K mg C_Table := ⟨cl, n_Table_lamps, n_Table_looks, n_Table__shown, n_len, n_tuple, ⟨_, PySem.W.mg_of X G v_LIMIT⟩⟩
  have xfL : XfC K C_InvalidLine := ⟨ga_InvalidLine, gg_InvalidLine, e_InvalidLine, hd_InvalidLine⟩
  have te := own_exm e_InvalidLine ic_InvalidLine tc_InvalidLine su_InvalidLine_InvalidLine
  have isL : IsE K C_InvalidLine := ⟨q_cls, ga_InvalidLine, gg_InvalidLine, e_InvalidLine, q_class, q_get, q_takes, q_mro⟩
  have E_InvalidName : ErrC K mg "InvalidName" "name" C_InvalidName f_InvalidName := ⟨⟨⟨_, _, _, _, _, _, _, _, _, _, _, _, _, _, _, x_InvalidName, hb_InvalidName⟩, sa_InvalidName, e_InvalidName, tc_InvalidName, kc_InvalidName⟩, PySem.W.mg_of X G a_InvalidName, i_InvalidName, ti_InvalidName, no_InvalidName⟩
  have E_DuplicateName : ErrC K mg "DuplicateName" "name" C_DuplicateName f_DuplicateName := ⟨⟨⟨_, _, _, _, _, _, _, _, _, _, _, _, _, _, _, x_DuplicateName, hb_DuplicateName⟩, sa_DuplicateName, e_DuplicateName, tc_DuplicateName, kc_DuplicateName⟩, PySem.W.mg_of X G a_DuplicateName, i_DuplicateName, ti_DuplicateName, no_DuplicateName⟩
  have E_UnknownName : ErrC K mg "UnknownName" "name" C_UnknownName f_UnknownName := ⟨⟨⟨_, _, _, _, _, _, _, _, _, _, _, _, _, _, _, x_UnknownName, hb_UnknownName⟩, sa_UnknownName, e_UnknownName, tc_UnknownName, kc_UnknownName⟩, PySem.W.mg_of X G a_UnknownName, i_UnknownName, ti_UnknownName, no_UnknownName⟩
  have E_TooMany : ErrC K mg "TooMany" "limit" C_TooMany f_TooMany := ⟨⟨⟨_, _, _, _, _, _, _, _, _, _, _, _, _, _, _, x_TooMany, hb_TooMany⟩, sa_TooMany, e_TooMany, tc_TooMany, kc_TooMany⟩, PySem.W.mg_of X G a_TooMany, i_TooMany, ti_TooMany, no_TooMany⟩
  let cs : Cs := ⟨C_InvalidName, C_DuplicateName, C_UnknownName, C_TooMany⟩
  have E_InvalidLine : ErrC K mg "InvalidLine" "line" C_InvalidLine f_InvalidLine := ⟨⟨⟨_, _, _, _, _, _, _, _, _, _, _, _, _, _, _, x_InvalidLine, hb_InvalidLine⟩, sa_InvalidLine, e_InvalidLine, tc_InvalidLine, kc_InvalidLine⟩, PySem.W.mg_of X G a_InvalidLine, i_InvalidLine, ti_InvalidLine, no_InvalidLine⟩
  have F_InvalidName := fun_mk (st := sInv) l_InvalidName c_InvalidName k_InvalidName
  have b_InvalidName := F_InvalidName.binds (ps := ["self", "name"]) fun _ _ _ _ _ _ us hl => match us, hl with | [_, _], _ => rfl
  have F_DuplicateName := fun_mk (st := sDup) l_DuplicateName c_DuplicateName k_DuplicateName
  have b_DuplicateName := F_DuplicateName.binds (ps := ["self", "name"]) fun _ _ _ _ _ _ us hl => match us, hl with | [_, _], _ => rfl
  have F_UnknownName := fun_mk (st := sUnk) l_UnknownName c_UnknownName k_UnknownName
  have b_UnknownName := F_UnknownName.binds (ps := ["self", "name"]) fun _ _ _ _ _ _ us hl => match us, hl with | [_, _], _ => rfl
  have F_TooMany := fun_mk (st := sMany) l_TooMany c_TooMany k_TooMany
  have b_TooMany := F_TooMany.binds (ps := ["self", "limit"]) fun _ _ _ _ _ _ us hl => match us, hl with | [_, _], _ => rfl
  have F_InvalidLine := fun_mk (st := sLine) l_InvalidLine c_InvalidLine k_InvalidLine
  have b_InvalidLine := F_InvalidLine.binds (ps := ["self", "line"]) fun _ _ _ _ _ _ us hl => match us, hl with | [_, _], _ => rfl
  have F_is_name := fun_mk (st := sIsName) l_is_name c_is_name k_is_name
  have b_is_name := F_is_name.binds (ps := ["value"]) fun _ _ _ _ _ _ us hl => match us, hl with | [_], _ => rfl
  have F_check_name := fun_mk (st := sCheckName) l_check_name c_check_name k_check_name
  have b_check_name := F_check_name.binds (ps := ["name"]) fun _ _ _ _ _ _ us hl => match us, hl with | [_], _ => rfl
  have F_check_new := fun_mk (st := sCheckNew) l_check_new c_check_new k_check_new
  have b_check_new := F_check_new.binds (ps := ["name", "earlier"]) fun _ _ _ _ _ _ us hl => match us, hl with | [_, _], _ => rfl
  have F_check_known := fun_mk (st := sCheckKnown) l_check_known c_check_known k_check_known
  have b_check_known := F_check_known.binds (ps := ["name", "names"]) fun _ _ _ _ _ _ us hl => match us, hl with | [_, _], _ => rfl
  have F_distinct_names := fun_mk (st := sDistinct) l_distinct_names c_distinct_names k_distinct_names
  have b_distinct_names := F_distinct_names.binds (ps := ["names"]) fun _ _ _ _ _ _ us hl => match us, hl with | [_], _ => rfl
  have F_check_shown := fun_mk (st := sCheckShown) l_check_shown c_check_shown k_check_shown
  have b_check_shown := F_check_shown.binds (ps := ["shown", "lamps"]) fun _ _ _ _ _ _ us hl => match us, hl with | [_, _], _ => rfl
  have F_chosen_of := fun_mk (st := sChosen) l_chosen_of c_chosen_of k_chosen_of
  have b_chosen_of := F_chosen_of.binds (ps := ["names", "chosen"]) fun _ _ _ _ _ _ us hl => match us, hl with | [_, _], _ => rfl
  have F_law_bag := fun_mk (st := sBag) l_law_bag c_law_bag k_law_bag
  have b_law_bag := F_law_bag.binds (ps := ["_law_script"]) fun _ _ _ _ _ _ us hl => match us, hl with | [_], _ => rfl
  have F_law_take := fun_mk (st := sTake) l_law_take c_law_take k_law_take
  have b_law_take := F_law_take.binds (ps := ["_law_bag_here", "_law_size"]) fun _ _ _ _ _ _ us hl => match us, hl with | [_, _], _ => rfl
  have F_law_name := fun_mk (st := sLawName) l_law_name c_law_name k_law_name
  have b_law_name := F_law_name.binds (ps := ["_law_bag_here", "_law_used"]) fun _ _ _ _ _ _ us hl => match us, hl with | [_, _], _ => rfl
  have F_law_names := fun_mk (st := sLawNames) l_law_names c_law_names k_law_names
  have b_law_names := F_law_names.binds (ps := ["_law_bag_here", "_law_count"]) fun _ _ _ _ _ _ us hl => match us, hl with | [_, _], _ => rfl
  have F_law_free_rows := fun_mk (st := sLawFreeRows) l_law_free_rows c_law_free_rows k_law_free_rows
  have b_law_free_rows := F_law_free_rows.binds (ps := ["_law_bag_here", "_law_lamps", "_law_looks"]) fun _ _ _ _ _ _ us hl => match us, hl with | [_, _, _], _ => rfl
  have F_law_fault := fun_mk (st := sLawFault) l_law_fault c_law_fault k_law_fault
  have b_law_fault := F_law_fault.binds (ps := ["_law_name_here", "_law_taken"]) fun _ _ _ _ _ _ us hl => match us, hl with | [_, _], _ => rfl
  have F_law_names_due := fun_mk (st := sLawNamesDue) l_law_names_due c_law_names_due k_law_names_due
  have b_law_names_due := F_law_names_due.binds (ps := ["_law_names_here"]) fun _ _ _ _ _ _ us hl => match us, hl with | [_], _ => rfl
  have F_law_due := fun_mk (st := sLawDue) l_law_due c_law_due k_law_due
  have b_law_due := F_law_due.binds (ps := ["_law_lamps", "_law_rows"]) fun _ _ _ _ _ _ us hl => match us, hl with | [_, _], _ => rfl
  have F_law_lines := fun_mk (st := sLawLines) l_law_lines c_law_lines k_law_lines
  have b_law_lines := F_law_lines.binds (ps := ["_law_lamps", "_law_rows"]) fun _ _ _ _ _ _ us hl => match us, hl with | [_, _], _ => rfl
  have F_law_first_wrong := fun_mk (st := sLawFirstWrong) l_law_first_wrong c_law_first_wrong k_law_first_wrong
  have b_law_first_wrong := F_law_first_wrong.binds (ps := ["_law_lines_here"]) fun _ _ _ _ _ _ us hl => match us, hl with | [_], _ => rfl
  have F_law_spoilt := fun_mk (st := sLawSpoilt) l_law_spoilt c_law_spoilt k_law_spoilt
  have b_law_spoilt := F_law_spoilt.binds (ps := ["_law_bag_here", "_law_lines_here"]) fun _ _ _ _ _ _ us hl => match us, hl with | [_, _], _ => rfl
  have F_law_due_rows := fun_mk (st := sLawDueRows) l_law_due_rows c_law_due_rows k_law_due_rows
  have b_law_due_rows := F_law_due_rows.binds (ps := ["_law_lines_here"]) fun _ _ _ _ _ _ us hl => match us, hl with | [_], _ => rfl
  have F_law_is_integer := fun_mk (st := sLawIsInteger) l_law_is_integer c_law_is_integer k_law_is_integer
  have b_law_is_integer := F_law_is_integer.binds (ps := ["_law_value"]) fun _ _ _ _ _ _ us hl => match us, hl with | [_], _ => rfl
  have F_read_lamps := fun_mk (st := sReadLamps) l_read_lamps c_read_lamps k_read_lamps
  have b_read_lamps := F_read_lamps.binds (ps := ["row"]) fun _ _ _ _ _ _ us hl => match us, hl with | [_], _ => rfl
  have F_read_look := fun_mk (st := sReadLook) l_read_look c_read_look k_read_look
  have b_read_look := F_read_look.binds (ps := ["table", "line", "row"]) fun _ _ _ _ _ _ us hl => match us, hl with | [_, _, _], _ => rfl
  have F_Table_init := fun_mk (st := sTabInit) l_Table_init c_Table_init k_Table_init
  have b_Table_init := F_Table_init.binds (ps := ["self", "lamps", "looks"]) fun _ _ _ _ _ _ us hl => match us, hl with | [_, _, _], _ => rfl
  have F_Table_rows := fun_mk (st := sTableRows) l_Table_rows c_Table_rows k_Table_rows
  have b_Table_rows := F_Table_rows.binds (ps := ["self"]) fun _ _ _ _ _ _ us hl => match us, hl with | [_], _ => rfl
  have F_Table_shown := fun_mk (st := sTableShown) l_Table_shown c_Table_shown k_Table_shown
  have b_Table_shown := F_Table_shown.binds (ps := ["self", "look"]) fun _ _ _ _ _ _ us hl => match us, hl with | [_, _], _ => rfl
  have F_Table_with_look := fun_mk (st := sTableWithLook) l_Table_with_look c_Table_with_look k_Table_with_look
  have F_Table_read := fun_mk (st := sTableRead) l_Table_read c_Table_read k_Table_read
  have b_Table_read := F_Table_read.binds (ps := ["text"]) fun _ _ _ _ _ _ us hl => match us, hl with | [_], _ => rfl
  have mT := PySem.W.mg_of X G a_Table
  refine ⟨_, fun s v => .of_eq rfl, fun base _ _ => ok_law5 (C := cs) (CT := C_Table) (CL := C_InvalidLine) (CD := C_DimmerError) (fun_mk (st := sLaw) l_law c_law k_law) TL cl n_Table_lamps mT (PySem.W.mg_of X G a_InvalidLine) (PySem.W.mg_of X G a_DimmerError) xfL no_InvalidLine isL te q_kit ?_ ?_ ?_ ?_ ?_ ?_ ?_ ?_ ?_ ?_ ?_ ?_ ?_⟩
  · have xI : Ex l.prog w K mg base "InvalidName" "name" cs.inv := ⟨_, _, E_InvalidName, b_InvalidName, ok_einv F_InvalidName E_InvalidName⟩
    have xD : Ex l.prog w K mg base "DuplicateName" "name" cs.dup := ⟨_, _, E_DuplicateName, b_DuplicateName, ok_edup F_DuplicateName E_DuplicateName⟩
    have xU : Ex l.prog w K mg base "UnknownName" "name" cs.unk := ⟨_, _, E_UnknownName, b_UnknownName, ok_eunk F_UnknownName E_UnknownName⟩
    have xM : Ex l.prog w K mg base "TooMany" "limit" cs.many := ⟨_, _, E_TooMany, b_TooMany, ok_emany F_TooMany E_TooMany⟩
    have gN : Dfn l.prog w K mg base CX0 1 "is_name" ["value"] (spIsName K) := ⟨_, _, PySem.W.mg_of X G a_is_name, F_is_name.kp, b_is_name, ok_isname F_is_name TN⟩
    have gCN : Dfn l.prog w K mg base (L2N.CX l.prog w) 3 "check_name" ["name"] (spCheckName cs) := ⟨_, _, PySem.W.mg_of X G a_check_name, F_check_name.kp, b_check_name, ok_checkname F_check_name gN xI⟩
    have gNL : Dfn l.prog w K mg base (L2N.CX l.prog w) 4 "check_new" ["name", "earlier"] (spNewL K cs) := ⟨_, _, PySem.W.mg_of X G a_check_new, F_check_new.kp, b_check_new, ok_newL F_check_new gCN xD⟩
    have gND : Dfn l.prog w K mg base (L2N.CX l.prog w) 4 "check_new" ["name", "earlier"] (spNewD K cs) := ⟨_, _, PySem.W.mg_of X G a_check_new, F_check_new.kp, b_check_new, ok_newD F_check_new gCN xD⟩
    have gK : Dfn l.prog w K mg base (L2N.CX l.prog w) 4 "check_known" ["name", "names"] (spKnown K cs) := ⟨_, _, PySem.W.mg_of X G a_check_known, F_check_known.kp, b_check_known, ok_known F_check_known TN xU⟩
    have gD : Dfn l.prog w K mg base (L2N.CX l.prog w) 6 "distinct_names" ["names"] (spDistinct K cs) := ⟨_, _, PySem.W.mg_of X G a_distinct_names, F_distinct_names.kp, b_distinct_names, ok_distinct F_distinct_names n_tuple gNL⟩
    have gS : Dfn l.prog w K mg base (L2N.CX l.prog w) 6 "_check_shown" ["shown", "lamps"] (spShown2 K cs) := ⟨_, _, PySem.W.mg_of X G a_check_shown, F_check_shown.kp, b_check_shown, ok_shown2 F_check_shown n_enumerate gK xD⟩
    have gC : Dfn l.prog w K mg base CX0 1 "_chosen_of" ["names", "chosen"] (spChosen K) := ⟨_, _, PySem.W.mg_of X G a_chosen_of, F_chosen_of.kp, b_chosen_of, ok_chosen F_chosen_of n_tuple⟩
    have ini : ∃ fT fdT, Mk K C_Table fT ∧ Binds K fdT ["self", "lamps", "looks"] [] ∧ FnOk l.prog w K mg base (L2N.CX l.prog w) 8 fT fdT ["self", "lamps", "looks"] (spTabInit2 K C_Table cs) := ⟨_, _, ⟨mk_Table, i_Table_init, fn_Table_init, kc_Table⟩, b_Table_init, ok_tabinit2 F_Table_init TT xM gD gND gS gC⟩
    have rw_ : ∃ fR fdR, Meth K C_Table "rows" fR ∧ Binds K fdR ["self"] [] ∧ FnOk l.prog w K mg base CX0 1 fR fdR ["self"] (spTRows K C_Table) := ⟨_, _, ⟨i_Table_rows, fn_Table_rows, F_Table_rows.kp⟩, b_Table_rows, ok_trows F_Table_rows cl n_Table_looks n_Table__shown⟩
    have TAB : TabM l.prog w K mg base C_Table cs := ⟨cl, n_Table_lamps, n_Table_looks, n_Table__shown, mT, ini, rw_⟩
    have TABT : TabT l.prog w K mg base C_Table cs := ⟨cl, n_Table_lamps, n_Table_looks, n_Table__shown, n_tuple, n_len, gK⟩
    have TRx : TxtRx mg C_Table C_DimmerError := ⟨n_len, n_enumerate, mT, PySem.W.mg_of X G a_DimmerError⟩
    have xD5 : ExD K cs C_DimmerError := ⟨ex_InvalidName_DimmerError, ex_DuplicateName_DimmerError, ex_UnknownName_DimmerError, ex_TooMany_DimmerError⟩
    have xL5 : ExH l.prog w K mg base "InvalidLine" "line" C_InvalidLine := ⟨_, _, E_InvalidLine, b_InvalidLine, ok_eline F_InvalidLine E_InvalidLine, ok_elineH F_InvalidLine E_InvalidLine⟩
    exact rw_
  · have xI : Ex l.prog w K mg base "InvalidName" "name" cs.inv := ⟨_, _, E_InvalidName, b_InvalidName, ok_einv F_InvalidName E_InvalidName⟩
    have xD : Ex l.prog w K mg base "DuplicateName" "name" cs.dup := ⟨_, _, E_DuplicateName, b_DuplicateName, ok_edup F_DuplicateName E_DuplicateName⟩
    have xU : Ex l.prog w K mg base "UnknownName" "name" cs.unk := ⟨_, _, E_UnknownName, b_UnknownName, ok_eunk F_UnknownName E_UnknownName⟩
    have xM : Ex l.prog w K mg base "TooMany" "limit" cs.many := ⟨_, _, E_TooMany, b_TooMany, ok_emany F_TooMany E_TooMany⟩
    have gN : Dfn l.prog w K mg base CX0 1 "is_name" ["value"] (spIsName K) := ⟨_, _, PySem.W.mg_of X G a_is_name, F_is_name.kp, b_is_name, ok_isname F_is_name TN⟩
    have gCN : Dfn l.prog w K mg base (L2N.CX l.prog w) 3 "check_name" ["name"] (spCheckName cs) := ⟨_, _, PySem.W.mg_of X G a_check_name, F_check_name.kp, b_check_name, ok_checkname F_check_name gN xI⟩
    have gNL : Dfn l.prog w K mg base (L2N.CX l.prog w) 4 "check_new" ["name", "earlier"] (spNewL K cs) := ⟨_, _, PySem.W.mg_of X G a_check_new, F_check_new.kp, b_check_new, ok_newL F_check_new gCN xD⟩
    have gND : Dfn l.prog w K mg base (L2N.CX l.prog w) 4 "check_new" ["name", "earlier"] (spNewD K cs) := ⟨_, _, PySem.W.mg_of X G a_check_new, F_check_new.kp, b_check_new, ok_newD F_check_new gCN xD⟩
    have gK : Dfn l.prog w K mg base (L2N.CX l.prog w) 4 "check_known" ["name", "names"] (spKnown K cs) := ⟨_, _, PySem.W.mg_of X G a_check_known, F_check_known.kp, b_check_known, ok_known F_check_known TN xU⟩
    have gD : Dfn l.prog w K mg base (L2N.CX l.prog w) 6 "distinct_names" ["names"] (spDistinct K cs) := ⟨_, _, PySem.W.mg_of X G a_distinct_names, F_distinct_names.kp, b_distinct_names, ok_distinct F_distinct_names n_tuple gNL⟩
    have gS : Dfn l.prog w K mg base (L2N.CX l.prog w) 6 "_check_shown" ["shown", "lamps"] (spShown2 K cs) := ⟨_, _, PySem.W.mg_of X G a_check_shown, F_check_shown.kp, b_check_shown, ok_shown2 F_check_shown n_enumerate gK xD⟩
    have gC : Dfn l.prog w K mg base CX0 1 "_chosen_of" ["names", "chosen"] (spChosen K) := ⟨_, _, PySem.W.mg_of X G a_chosen_of, F_chosen_of.kp, b_chosen_of, ok_chosen F_chosen_of n_tuple⟩
    have ini : ∃ fT fdT, Mk K C_Table fT ∧ Binds K fdT ["self", "lamps", "looks"] [] ∧ FnOk l.prog w K mg base (L2N.CX l.prog w) 8 fT fdT ["self", "lamps", "looks"] (spTabInit2 K C_Table cs) := ⟨_, _, ⟨mk_Table, i_Table_init, fn_Table_init, kc_Table⟩, b_Table_init, ok_tabinit2 F_Table_init TT xM gD gND gS gC⟩
    have rw_ : ∃ fR fdR, Meth K C_Table "rows" fR ∧ Binds K fdR ["self"] [] ∧ FnOk l.prog w K mg base CX0 1 fR fdR ["self"] (spTRows K C_Table) := ⟨_, _, ⟨i_Table_rows, fn_Table_rows, F_Table_rows.kp⟩, b_Table_rows, ok_trows F_Table_rows cl n_Table_looks n_Table__shown⟩
    have TAB : TabM l.prog w K mg base C_Table cs := ⟨cl, n_Table_lamps, n_Table_looks, n_Table__shown, mT, ini, rw_⟩
    have TABT : TabT l.prog w K mg base C_Table cs := ⟨cl, n_Table_lamps, n_Table_looks, n_Table__shown, n_tuple, n_len, gK⟩
    have TRx : TxtRx mg C_Table C_DimmerError := ⟨n_len, n_enumerate, mT, PySem.W.mg_of X G a_DimmerError⟩
    have xD5 : ExD K cs C_DimmerError := ⟨ex_InvalidName_DimmerError, ex_DuplicateName_DimmerError, ex_UnknownName_DimmerError, ex_TooMany_DimmerError⟩
    have xL5 : ExH l.prog w K mg base "InvalidLine" "line" C_InvalidLine := ⟨_, _, E_InvalidLine, b_InvalidLine, ok_eline F_InvalidLine E_InvalidLine, ok_elineH F_InvalidLine E_InvalidLine⟩
    exact ⟨_, _, ⟨i_Table_shown, fn_Table_shown, F_Table_shown.kp⟩, b_Table_shown, ok_tshown F_Table_shown TABT⟩
  · have xI : Ex l.prog w K mg base "InvalidName" "name" cs.inv := ⟨_, _, E_InvalidName, b_InvalidName, ok_einv F_InvalidName E_InvalidName⟩
    have xD : Ex l.prog w K mg base "DuplicateName" "name" cs.dup := ⟨_, _, E_DuplicateName, b_DuplicateName, ok_edup F_DuplicateName E_DuplicateName⟩
    have xU : Ex l.prog w K mg base "UnknownName" "name" cs.unk := ⟨_, _, E_UnknownName, b_UnknownName, ok_eunk F_UnknownName E_UnknownName⟩
    have xM : Ex l.prog w K mg base "TooMany" "limit" cs.many := ⟨_, _, E_TooMany, b_TooMany, ok_emany F_TooMany E_TooMany⟩
    have gN : Dfn l.prog w K mg base CX0 1 "is_name" ["value"] (spIsName K) := ⟨_, _, PySem.W.mg_of X G a_is_name, F_is_name.kp, b_is_name, ok_isname F_is_name TN⟩
    have gCN : Dfn l.prog w K mg base (L2N.CX l.prog w) 3 "check_name" ["name"] (spCheckName cs) := ⟨_, _, PySem.W.mg_of X G a_check_name, F_check_name.kp, b_check_name, ok_checkname F_check_name gN xI⟩
    have gNL : Dfn l.prog w K mg base (L2N.CX l.prog w) 4 "check_new" ["name", "earlier"] (spNewL K cs) := ⟨_, _, PySem.W.mg_of X G a_check_new, F_check_new.kp, b_check_new, ok_newL F_check_new gCN xD⟩
    have gND : Dfn l.prog w K mg base (L2N.CX l.prog w) 4 "check_new" ["name", "earlier"] (spNewD K cs) := ⟨_, _, PySem.W.mg_of X G a_check_new, F_check_new.kp, b_check_new, ok_newD F_check_new gCN xD⟩
    have gK : Dfn l.prog w K mg base (L2N.CX l.prog w) 4 "check_known" ["name", "names"] (spKnown K cs) := ⟨_, _, PySem.W.mg_of X G a_check_known, F_check_known.kp, b_check_known, ok_known F_check_known TN xU⟩
    have gD : Dfn l.prog w K mg base (L2N.CX l.prog w) 6 "distinct_names" ["names"] (spDistinct K cs) := ⟨_, _, PySem.W.mg_of X G a_distinct_names, F_distinct_names.kp, b_distinct_names, ok_distinct F_distinct_names n_tuple gNL⟩
    have gS : Dfn l.prog w K mg base (L2N.CX l.prog w) 6 "_check_shown" ["shown", "lamps"] (spShown2 K cs) := ⟨_, _, PySem.W.mg_of X G a_check_shown, F_check_shown.kp, b_check_shown, ok_shown2 F_check_shown n_enumerate gK xD⟩
    have gC : Dfn l.prog w K mg base CX0 1 "_chosen_of" ["names", "chosen"] (spChosen K) := ⟨_, _, PySem.W.mg_of X G a_chosen_of, F_chosen_of.kp, b_chosen_of, ok_chosen F_chosen_of n_tuple⟩
    have ini : ∃ fT fdT, Mk K C_Table fT ∧ Binds K fdT ["self", "lamps", "looks"] [] ∧ FnOk l.prog w K mg base (L2N.CX l.prog w) 8 fT fdT ["self", "lamps", "looks"] (spTabInit2 K C_Table cs) := ⟨_, _, ⟨mk_Table, i_Table_init, fn_Table_init, kc_Table⟩, b_Table_init, ok_tabinit2 F_Table_init TT xM gD gND gS gC⟩
    have rw_ : ∃ fR fdR, Meth K C_Table "rows" fR ∧ Binds K fdR ["self"] [] ∧ FnOk l.prog w K mg base CX0 1 fR fdR ["self"] (spTRows K C_Table) := ⟨_, _, ⟨i_Table_rows, fn_Table_rows, F_Table_rows.kp⟩, b_Table_rows, ok_trows F_Table_rows cl n_Table_looks n_Table__shown⟩
    have TAB : TabM l.prog w K mg base C_Table cs := ⟨cl, n_Table_lamps, n_Table_looks, n_Table__shown, mT, ini, rw_⟩
    have TABT : TabT l.prog w K mg base C_Table cs := ⟨cl, n_Table_lamps, n_Table_looks, n_Table__shown, n_tuple, n_len, gK⟩
    have TRx : TxtRx mg C_Table C_DimmerError := ⟨n_len, n_enumerate, mT, PySem.W.mg_of X G a_DimmerError⟩
    have xD5 : ExD K cs C_DimmerError := ⟨ex_InvalidName_DimmerError, ex_DuplicateName_DimmerError, ex_UnknownName_DimmerError, ex_TooMany_DimmerError⟩
    have xL5 : ExH l.prog w K mg base "InvalidLine" "line" C_InvalidLine := ⟨_, _, E_InvalidLine, b_InvalidLine, ok_eline F_InvalidLine E_InvalidLine, ok_elineH F_InvalidLine E_InvalidLine⟩
    have gRL : Dfn l.prog w K mg base (L2.CX l.prog w) 10 "_read_lamps" ["row"] (spReadLampsX C_Table C_InvalidLine) := ⟨_, _, PySem.W.mg_of X G a_read_lamps, F_read_lamps.kp, b_read_lamps, ok_readlampsX (C := cs) F_read_lamps TRx xD5 xL5 ini⟩
    have gRK : Dfn l.prog w K mg base (L2.CX l.prog w) 12 "_read_look" ["table", "line", "row"] (spReadLookX C_Table C_InvalidLine) := ⟨_, _, PySem.W.mg_of X G a_read_look, F_read_look.kp, b_read_look, ok_readlookX (C := cs) F_read_look TRx xD5 xL5 cl ⟨_, ⟨⟨i_Table_with_look, fn_Table_with_look, F_Table_with_look.kp⟩, q_wg, q_wt, by decide +kernel, q_wf⟩, ok_withlook F_Table_with_look TAB⟩⟩
    exact ⟨_, _, _, ⟨q_rd, q_ga, p_read, pr_read, F_Table_read.kp⟩, b_Table_read, ok_readX F_Table_read TRx gRL gRK⟩
  · exact ⟨_, _, PySem.W.mg_of X G a_law_bag, F_law_bag.kp, b_law_bag, ok_bag F_law_bag TB⟩
  · exact ⟨_, _, PySem.W.mg_of X G a_law_take, F_law_take.kp, b_law_take, ok_take F_law_take TB⟩
  · have gT : Dfn l.prog w K mg base CX0 1 "_law_take" ["_law_bag_here", "_law_size"] spTake := ⟨_, _, PySem.W.mg_of X G a_law_take, F_law_take.kp, b_law_take, ok_take F_law_take TB⟩
    have g1 : Dfn l.prog w K mg base CX0 2 "_law_name" ["_law_bag_here", "_law_used"] spName := ⟨_, _, PySem.W.mg_of X G a_law_name, F_law_name.kp, b_law_name, ok_name F_law_name TM gT⟩
    exact ⟨_, _, PySem.W.mg_of X G a_law_names, F_law_names.kp, b_law_names, ok_names F_law_names TM g1⟩
  · have gT : Dfn l.prog w K mg base CX0 1 "_law_take" ["_law_bag_here", "_law_size"] spTake := ⟨_, _, PySem.W.mg_of X G a_law_take, F_law_take.kp, b_law_take, ok_take F_law_take TB⟩
    exact ⟨_, _, PySem.W.mg_of X G a_law_free_rows, F_law_free_rows.kp, b_law_free_rows, ok_free F_law_free_rows gT⟩
  · exact ⟨_, _, PySem.W.mg_of X G a_law_lines, F_law_lines.kp, b_law_lines, ok_lines F_law_lines⟩
  · have gF : Dfn l.prog w K mg base CX0 1 "_law_fault" ["_law_name_here", "_law_taken"] spFault := ⟨_, _, PySem.W.mg_of X G a_law_fault, F_law_fault.kp, b_law_fault, ok_fault F_law_fault TD⟩
    have gNd : Dfn l.prog w K mg base CX0 2 "_law_names_due" ["_law_names_here"] (spNamesDue K) := ⟨_, _, PySem.W.mg_of X G a_law_names_due, F_law_names_due.kp, b_law_names_due, ok_namesdue F_law_names_due gF⟩
    have gDu : Dfn l.prog w K mg base CX0 3 "_law_due" ["_law_lamps", "_law_rows"] (spDue K) := ⟨_, _, PySem.W.mg_of X G a_law_due, F_law_due.kp, b_law_due, ok_due F_law_due TD gF gNd⟩
    exact ⟨_, _, PySem.W.mg_of X G a_law_first_wrong, F_law_first_wrong.kp, b_law_first_wrong, ok_first F_law_first_wrong ⟨n_len, n_range⟩ gDu⟩
  · have gT : Dfn l.prog w K mg base CX0 1 "_law_take" ["_law_bag_here", "_law_size"] spTake := ⟨_, _, PySem.W.mg_of X G a_law_take, F_law_take.kp, b_law_take, ok_take F_law_take TB⟩
    exact ⟨_, _, PySem.W.mg_of X G a_law_spoilt, F_law_spoilt.kp, b_law_spoilt, ok_spoilt F_law_spoilt ⟨n_len, n_int⟩ gT⟩
  · exact ⟨_, _, PySem.W.mg_of X G a_law_due_rows, F_law_due_rows.kp, b_law_due_rows, ok_duerows F_law_due_rows ⟨n_tuple⟩⟩
  · exact ⟨_, _, PySem.W.mg_of X G a_law_is_integer, F_law_is_integer.kp, b_law_is_integer, ok_int F_law_is_integer TI⟩
  · intro f5 hf5
    obtain rfl := Value.ref.inj (Option.some.inj (hf5.symm.trans (PySem.W.mg_of X G a_law_is_integer)))
    exact quiet_int F_law_is_integer b_law_is_integer TI
theorem walk {l : PySem.W.OpenLaw} {q : Program} {loose : List Str} {XP : (Str → Option Value) → Heap → Prop} {YP : World → Heap → Prop} {d : DefRec} {K : Params → PySem.W.Frag} (hn : l.most = some 63) (hdf : d.params.defaults = [])
    (hY : ∀ (w : World) (h : Heap), YP w h → (K w.params).In h)
    (F : ∀ (w : World) (mg : Str → Option Value) (fa : Addr) (h : Heap), (K w.params).In h → h.Ns mainGlobals mg → mg d.name = some (.ref fa) →
      ∃ fd : FuncData, (∀ (s : Shared) (u : Value), BindsTo s fd ⟨[u], []⟩ [("_law_script", u)]) ∧ ∀ base : Heap, (K w.params).In base → base.Ns mainGlobals mg → FnOk l.prog w (K w.params) mg base CX0 14 fa fd ["_law_script"] (spLaw5 (K w.params))) :
    PySem.W.WalkO q loose XP YP l.row.toRowW d [] (fun f vs => PySem.call f vs) :=
  walk_of (n := 63) (k := 14) (x := "_law_script") (CX := fun _ => CX0) (sp := fun w => spLaw5 (K w.params)) hn (by decide) hdf ⟨rfl, by decide, by decide⟩ hY F
    (fun _ _ a ns hl _ hS => ⟨a, ns, rfl, hS, hl, fun _ => rfl⟩) fun _ _ _ _ _ z => z
end Dl

open PySem PySem.W PyProof.Rows in
set_option maxRecDepth 100000 in
set_option maxHeartbeats 0 in
theorem PySem.Challenge.cw_dimmerlog_k05_wrong_texts_holds : PySem.Challenge.rw_dimmerlog_k05_wrong_texts.Holds := by
  w_on; o_law; k_head; (case hw => w_witness2)
  k_fill
  refine Dl.walk (l := PySem.Challenge.rw_dimmerlog_k05_wrong_texts) rfl rfl (fun w h Y => PySem.W.kIn_of Y) ?F
  case F =>
    intro w mg fa h KX G hmg
    refine' Dl.all_mk KX G hmg ?a_is_name ?l_is_name ?c_is_name ?k_is_name ?a_check_name ?l_check_name ?c_check_name ?k_check_name ?a_check_new ?l_check_new ?c_check_new ?k_check_new ?a_check_known ?l_check_known ?c_check_known ?k_check_known ?a_distinct_names ?l_distinct_names ?c_distinct_names ?k_distinct_names ?a_check_shown ?l_check_shown ?c_check_shown ?k_check_shown ?a_chosen_of ?l_chosen_of ?c_chosen_of ?k_chosen_of ?a_law_bag ?l_law_bag ?c_law_bag ?k_law_bag ?a_law_take ?l_law_take ?c_law_take ?k_law_take ?a_law_name ?l_law_name ?c_law_name ?k_law_name ?a_law_names ?l_law_names ?c_law_names ?k_law_names ?a_law_free_rows ?l_law_free_rows ?c_law_free_rows ?k_law_free_rows ?a_law_fault ?l_law_fault ?c_law_fault ?k_law_fault ?a_law_names_due ?l_law_names_due ?c_law_names_due ?k_law_names_due ?a_law_due ?l_law_due ?c_law_due ?k_law_due ?a_law_lines ?l_law_lines ?c_law_lines ?k_law_lines ?a_law_first_wrong ?l_law_first_wrong ?c_law_first_wrong ?k_law_first_wrong ?a_law_spoilt ?l_law_spoilt ?c_law_spoilt ?k_law_spoilt ?a_law_due_rows ?l_law_due_rows ?c_law_due_rows ?k_law_due_rows ?a_law_is_integer ?l_law_is_integer ?c_law_is_integer ?k_law_is_integer ?a_read_lamps ?l_read_lamps ?c_read_lamps ?k_read_lamps ?a_read_look ?l_read_look ?c_read_look ?k_read_look ?a_law ?l_law ?c_law ?k_law ?a_InvalidName ?x_InvalidName ?hb_InvalidName ?sa_InvalidName ?e_InvalidName ?tc_InvalidName ?kc_InvalidName ?no_InvalidName ?i_InvalidName ?ti_InvalidName ?l_InvalidName ?c_InvalidName ?k_InvalidName ?a_DuplicateName ?x_DuplicateName ?hb_DuplicateName ?sa_DuplicateName ?e_DuplicateName ?tc_DuplicateName ?kc_DuplicateName ?no_DuplicateName ?i_DuplicateName ?ti_DuplicateName ?l_DuplicateName ?c_DuplicateName ?k_DuplicateName ?a_UnknownName ?x_UnknownName ?hb_UnknownName ?sa_UnknownName ?e_UnknownName ?tc_UnknownName ?kc_UnknownName ?no_UnknownName ?i_UnknownName ?ti_UnknownName ?l_UnknownName ?c_UnknownName ?k_UnknownName ?a_TooMany ?x_TooMany ?hb_TooMany ?sa_TooMany ?e_TooMany ?tc_TooMany ?kc_TooMany ?no_TooMany ?i_TooMany ?ti_TooMany ?l_TooMany ?c_TooMany ?k_TooMany ?a_InvalidLine ?x_InvalidLine ?hb_InvalidLine ?sa_InvalidLine ?e_InvalidLine ?tc_InvalidLine ?kc_InvalidLine ?no_InvalidLine ?i_InvalidLine ?ti_InvalidLine ?l_InvalidLine ?c_InvalidLine ?k_InvalidLine ?ga_InvalidLine ?gg_InvalidLine ?hd_InvalidLine ?ic_InvalidLine ?a_DimmerError ?su_InvalidLine_InvalidLine ?ex_InvalidName_DimmerError ?ex_DuplicateName_DimmerError ?ex_UnknownName_DimmerError ?ex_TooMany_DimmerError ?a_Table ?pg_Table ?hd_Table ?po_Table ?sa_Table ?mk_Table ?kc_Table ?n_Table_lamps ?n_Table_looks ?n_Table__shown ?i_Table_init ?fn_Table_init ?l_Table_init ?c_Table_init ?k_Table_init ?i_Table_rows ?fn_Table_rows ?l_Table_rows ?c_Table_rows ?k_Table_rows ?i_Table_shown ?fn_Table_shown ?l_Table_shown ?c_Table_shown ?k_Table_shown ?i_Table_with_look ?fn_Table_with_look ?l_Table_with_look ?c_Table_with_look ?k_Table_with_look ?p_read ?pr_read ?l_Table_read ?c_Table_read ?k_Table_read ?q_cls ?q_class ?q_get ?q_takes ?q_mro ?q_kit ?q_rd ?q_ga ?q_wg ?q_wt ?q_wf ?z_len ?z_int ?z_tuple ?z_abs ?z_isinstance ?z_str ?z_all ?z_list ?z_range ?z_enumerate ?z_bool ?v_LONGEST ?v_SIGNS ?v_LIMIT
    (case a_is_name => k_is)
    (case l_is_name => k_is)
    (case c_is_name => k_is)
    (case k_is_name => k_is)
    (case a_check_name => k_is)
    (case l_check_name => k_is)
    (case c_check_name => k_is)
    (case k_check_name => k_is)
    (case a_check_new => k_is)
    (case l_check_new => k_is)
    (case c_check_new => k_is)
    (case k_check_new => k_is)
    (case a_check_known => k_is)
    (case l_check_known => k_is)
    (case c_check_known => k_is)
    (case k_check_known => k_is)
    (case a_distinct_names => k_is)
    (case l_distinct_names => k_is)
    (case c_distinct_names => k_is)
    (case k_distinct_names => k_is)
    (case a_check_shown => k_is)
    (case l_check_shown => k_is)
    (case c_check_shown => k_is)
    (case k_check_shown => k_is)
    (case a_chosen_of => k_is)
    (case l_chosen_of => k_is)
    (case c_chosen_of => k_is)
    (case k_chosen_of => k_is)
    (case a_law_bag => k_is)
    (case l_law_bag => k_is)
    (case c_law_bag => k_is)
    (case k_law_bag => k_is)
    (case a_law_take => k_is)
    (case l_law_take => k_is)
    (case c_law_take => k_is)
    (case k_law_take => k_is)
    (case a_law_name => k_is)
    (case l_law_name => k_is)
    (case c_law_name => k_is)
    (case k_law_name => k_is)
    (case a_law_names => k_is)
    (case l_law_names => k_is)
    (case c_law_names => k_is)
    (case k_law_names => k_is)
    (case a_law_free_rows => k_is)
    (case l_law_free_rows => k_is)
    (case c_law_free_rows => k_is)
    (case k_law_free_rows => k_is)
    (case a_law_fault => k_is)
    (case l_law_fault => k_is)
    (case c_law_fault => k_is)
    (case k_law_fault => k_is)
    (case a_law_names_due => k_is)
    (case l_law_names_due => k_is)
    (case c_law_names_due => k_is)
    (case k_law_names_due => k_is)
    (case a_law_due => k_is)
    (case l_law_due => k_is)
    (case c_law_due => k_is)
    (case k_law_due => k_is)
    (case a_law_lines => k_is)
    (case l_law_lines => k_is)
    (case c_law_lines => k_is)
    (case k_law_lines => k_is)
    (case a_law_first_wrong => k_is)
    (case l_law_first_wrong => k_is)
    (case c_law_first_wrong => k_is)
    (case k_law_first_wrong => k_is)
    (case a_law_spoilt => k_is)
    (case l_law_spoilt => k_is)
    (case c_law_spoilt => k_is)
    (case k_law_spoilt => k_is)
    (case a_law_due_rows => k_is)
    (case l_law_due_rows => k_is)
    (case c_law_due_rows => k_is)
    (case k_law_due_rows => k_is)
    (case a_law_is_integer => k_is)
    (case l_law_is_integer => k_is)
    (case c_law_is_integer => k_is)
    (case k_law_is_integer => k_is)
    (case a_read_lamps => k_is)
    (case l_read_lamps => k_is)
    (case c_read_lamps => k_is)
    (case k_read_lamps => k_is)
    (case a_read_look => k_is)
    (case l_read_look => k_is)
    (case c_read_look => k_is)
    (case k_read_look => k_is)
    (case a_law => k_is)
    (case l_law => k_is)
    (case c_law => k_is)
    (case k_law => k_is)
    (case a_InvalidName => k_is)
    (case x_InvalidName => k_is)
    (case hb_InvalidName => (first | rfl | decide +kernel))
    (case sa_InvalidName => k_is)
    (case e_InvalidName => k_is)
    (case tc_InvalidName => k_is)
    (case kc_InvalidName => k_is)
    (case no_InvalidName => k_is)
    (case i_InvalidName => k_is)
    (case ti_InvalidName => k_is)
    (case l_InvalidName => k_is)
    (case c_InvalidName => k_is)
    (case k_InvalidName => k_is)
    (case a_DuplicateName => k_is)
    (case x_DuplicateName => k_is)
    (case hb_DuplicateName => (first | rfl | decide +kernel))
    (case sa_DuplicateName => k_is)
    (case e_DuplicateName => k_is)
    (case tc_DuplicateName => k_is)
    (case kc_DuplicateName => k_is)
    (case no_DuplicateName => k_is)
    (case i_DuplicateName => k_is)
    (case ti_DuplicateName => k_is)
    (case l_DuplicateName => k_is)
    (case c_DuplicateName => k_is)
    (case k_DuplicateName => k_is)
    (case a_UnknownName => k_is)
    (case x_UnknownName => k_is)
    (case hb_UnknownName => (first | rfl | decide +kernel))
    (case sa_UnknownName => k_is)
    (case e_UnknownName => k_is)
    (case tc_UnknownName => k_is)
    (case kc_UnknownName => k_is)
    (case no_UnknownName => k_is)
    (case i_UnknownName => k_is)
    (case ti_UnknownName => k_is)
    (case l_UnknownName => k_is)
    (case c_UnknownName => k_is)
    (case k_UnknownName => k_is)
    (case a_TooMany => k_is)
    (case x_TooMany => k_is)
    (case hb_TooMany => (first | rfl | decide +kernel))
    (case sa_TooMany => k_is)
    (case e_TooMany => k_is)
    (case tc_TooMany => k_is)
    (case kc_TooMany => k_is)
    (case no_TooMany => k_is)
    (case i_TooMany => k_is)
    (case ti_TooMany => k_is)
    (case l_TooMany => k_is)
    (case c_TooMany => k_is)
    (case k_TooMany => k_is)
    (case a_InvalidLine => k_is)
    (case x_InvalidLine => k_is)
    (case hb_InvalidLine => (first | rfl | decide +kernel))
    (case sa_InvalidLine => k_is)
    (case e_InvalidLine => k_is)
    (case tc_InvalidLine => k_is)
    (case kc_InvalidLine => k_is)
    (case no_InvalidLine => k_is)
    (case i_InvalidLine => k_is)
    (case ti_InvalidLine => k_is)
    (case l_InvalidLine => k_is)
    (case c_InvalidLine => k_is)
    (case k_InvalidLine => k_is)
    (case ga_InvalidLine => k_is)
    (case gg_InvalidLine => k_is)
    (case hd_InvalidLine => k_is)
    (case ic_InvalidLine => k_is)
    (case a_DimmerError => k_is)
    (case su_InvalidLine_InvalidLine => (first | rfl | k_is))
    (case ex_InvalidName_DimmerError => (first | k_is | rfl))
    (case ex_DuplicateName_DimmerError => (first | k_is | rfl))
    (case ex_UnknownName_DimmerError => (first | k_is | rfl))
    (case ex_TooMany_DimmerError => (first | k_is | rfl))
    (case a_Table => k_is)
    (case pg_Table => k_is)
    (case hd_Table => k_is)
    (case po_Table => k_is)
    (case sa_Table => k_is)
    (case mk_Table => k_is)
    (case kc_Table => k_is)
    (case n_Table_lamps => k_is)
    (case n_Table_looks => k_is)
    (case n_Table__shown => k_is)
    (case i_Table_init => k_is)
    (case fn_Table_init => k_is)
    (case l_Table_init => k_is)
    (case c_Table_init => k_is)
    (case k_Table_init => k_is)
    (case i_Table_rows => k_is)
    (case fn_Table_rows => k_is)
    (case l_Table_rows => k_is)
    (case c_Table_rows => k_is)
    (case k_Table_rows => k_is)
    (case i_Table_shown => k_is)
    (case fn_Table_shown => k_is)
    (case l_Table_shown => k_is)
    (case c_Table_shown => k_is)
    (case k_Table_shown => k_is)
    (case i_Table_with_look => k_is)
    (case fn_Table_with_look => k_is)
    (case l_Table_with_look => k_is)
    (case c_Table_with_look => k_is)
    (case k_Table_with_look => k_is)
    (case p_read => (first | k_is | rfl))
    (case pr_read => (first | exact ⟨_, rfl⟩ | exact ⟨_, by k_is⟩))
    (case l_Table_read => k_is)
    (case c_Table_read => k_is)
    (case k_Table_read => k_is)
    (case q_cls => (first | k_is | rfl))
    (case q_class => k_is)
    (case q_get => (first | k_is | rfl))
    (case q_takes => (first | k_is | rfl))
    (case q_mro => (first | k_is | rfl))
    (case q_kit => (first | k_is | rfl))
    (case q_rd => (first | k_is | rfl))
    (case q_ga => (first | k_is | rfl))
    (case q_wg => (first | k_is | rfl))
    (case q_wt => (first | k_is | rfl))
    (case q_wf => (first | k_is | rfl))
    (case z_len => k_is)
    (case z_int => k_is)
    (case z_tuple => k_is)
    (case z_abs => k_is)
    (case z_isinstance => k_is)
    (case z_str => k_is)
    (case z_all => k_is)
    (case z_list => k_is)
    (case z_range => k_is)
    (case z_enumerate => k_is)
    (case z_bool => k_is)
    (case v_LONGEST => k_is)
    (case v_SIGNS => k_is)
    (case v_LIMIT => k_is)
